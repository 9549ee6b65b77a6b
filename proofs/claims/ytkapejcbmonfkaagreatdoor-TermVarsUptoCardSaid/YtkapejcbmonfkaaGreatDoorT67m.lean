/- Walks: List and Elements of the program and of the document, of anything. No condition but those that each theorem names. The law TermLists: it answers true of any trees as elements and end, where the tables of unicode/utf8 lie as its text lays them. A list of trees among a law's arguments, opened: how it lies, each node within bounds, and its length. -/
import Derived.Test.YtkapejcbmonfkaaGreatDoorT64
import Derived.Test.YtkapejcbmonfkaaGreatDoorT56m
import Derived.Test.YtkapejcbmonfkaaGreatDoorT36m
namespace Go.Proofs.YtkapejcbmonfkaaGreatDoor
open Go.RowKit

/-- The term of no kind. -/
def noT : Tm := leaf 0 ⟨#[]⟩ ⟨#[]⟩ 0
/-- What List answers. -/
def listA (l : List Tm) (e : Tm) : Tm := if listErr l e = 0 then listT l e else noT
theorem noT_mine (w : World) : MineT w noT none 0 [] := leaf_mine w 0 ⟨#[]⟩ ⟨#[]⟩ 0
theorem checks_each {l : List Tm} (h : checksErr vName numOk bitsOk l = 0) (hD : AllR DomA l) : ∀ k (hk : k < l.length), Valid l[k] := by
  induction l with
  | nil => intro k hk; simp at hk
  | cons t l ih =>
    unfold checksErr at h
    unfold AllR at hD
    by_cases h1 : checkErr vName numOk bitsOk t = 0
    · rw [if_pos h1] at h
      intro k hk
      cases k with
      | zero => exact ⟨hD.1, h1⟩
      | succ k => simpa using ih h hD.2 k (by simpa using hk)
    · rw [if_neg h1] at h; exact absurd h h1
section
variable (l : List Tm) (e : Tm) (pl pe : Option Addr) (cl ce : Nat) (w : World)
theorem list_any (hl : ListAt w l pl) (he : TmAt w e pe) (hX : Utf w) (hD : AllR DomA l) (hDe : AllT DomA e) (hlm : l.length ≤ 4398046511104) :
    Calls Tryz.prog 28 #[.slice pl l.length cl, e.val pe ce] w fun x w' => ∃ q c S, x = .returned (.tuple #[(listA l e).val q c, .int .i64 (listErr l e)]) ∧ MineT w' (listA l e) q c S ∧ (∀ k ∈ S, w.heap.size ≤ k) ∧ Below w.heap.size w w' := by
  have hm : l.length ≤ maxLen := by unfold maxLen; omega
  by_cases h1 : checksErr vName numOk bitsOk l = 0
  · by_cases h2 : checkErr vName numOk bitsOk e = 0
    · by_cases h3 : 4000 < tot l e l.length
      · have hE : listErr l e = 24 := by unfold listErr; rw [if_pos h1, if_pos h2, if_pos h3]
        have hA : listA l e = noT := by unfold listA; rw [hE, if_neg (by omega)]
        rw [hE, hA]
        exact (list_bad3 l e pl pe cl ce w hl he hX hD hDe hm h1 h2 h3 hlm).mono fun x w' ⟨g1, g2⟩ => ⟨none, 0, [], g1, noT_mine _, by simp, g2⟩
      · have hE : listErr l e = 0 := by unfold listErr; rw [if_pos h1, if_pos h2, if_neg h3]
        have hA : listA l e = listT l e := by unfold listA; rw [if_pos hE]
        rw [hE, hA]
        exact list_good l e pl pe cl ce w hl he hX hD hDe hm h1 h2 (by omega) (fun k hk => (checks_each h1 hD k hk).good.cp) (Valid.good ⟨hDe, h2⟩).cp
    · have hE : listErr l e = checkErr vName numOk bitsOk e := by unfold listErr; rw [if_pos h1, if_neg h2]
      have hA : listA l e = noT := by unfold listA; rw [hE, if_neg h2]
      rw [hE, hA]
      exact (list_bad2 l e pl pe cl ce w hl he hX hD hDe hm h1 h2).mono fun x w' ⟨g1, g2⟩ => ⟨none, 0, [], g1, noT_mine _, by simp, g2⟩
  · have hE : listErr l e = checksErr vName numOk bitsOk l := by unfold listErr; rw [if_neg h1]
    have hA : listA l e = noT := by unfold listA; rw [hE, if_neg h1]
    rw [hE, hA]
    exact (list_bad1 l e pl pe cl ce w hl he hX hD hDe hm h1).mono fun x w' ⟨g1, g2⟩ => ⟨none, 0, [], g1, noT_mine _, by simp, g2⟩
theorem listR_any (hl : ListAt w l pl) (he : TmAt w e pe) (hD : AllR DomA l) (hDe : AllT DomA e) (hlm : l.length ≤ 4398046511104) :
    Calls Tryz.prog 29 #[.slice pl l.length cl, e.val pe ce] w fun x w' => ∃ q c S, x = .returned (.tuple #[(listA l e).val q c, .int .i64 (listErr l e)]) ∧ MineT w' (listA l e) q c S ∧ (∀ k ∈ S, w.heap.size ≤ k) ∧ Below w.heap.size w w' := by
  have hm : l.length ≤ maxLen := by unfold maxLen; omega
  by_cases h1 : checksErr vName numOk bitsOk l = 0
  · by_cases h2 : checkErr vName numOk bitsOk e = 0
    · by_cases h3 : 4000 < tot l e l.length
      · have hE : listErr l e = 24 := by unfold listErr; rw [if_pos h1, if_pos h2, if_pos h3]
        have hA : listA l e = noT := by unfold listA; rw [hE, if_neg (by omega)]
        rw [hE, hA]
        exact (listR_bad3 l e pl pe cl ce w hl he hD hDe hm h1 h2 h3).mono fun x w' ⟨g1, g2⟩ => ⟨none, 0, [], g1, noT_mine _, by simp, g2⟩
      · have hE : listErr l e = 0 := by unfold listErr; rw [if_pos h1, if_pos h2, if_neg h3]
        have hA : listA l e = listT l e := by unfold listA; rw [if_pos hE]
        rw [hE, hA]
        exact listR_good l e pl pe cl ce w hl he hD hDe hm h1 h2 (by omega) (fun k hk => (checks_each h1 hD k hk).good.cp) (Valid.good ⟨hDe, h2⟩).cp
    · have hE : listErr l e = checkErr vName numOk bitsOk e := by unfold listErr; rw [if_pos h1, if_neg h2]
      have hA : listA l e = noT := by unfold listA; rw [hE, if_neg h2]
      rw [hE, hA]
      exact (listR_bad2 l e pl pe cl ce w hl he hD hDe hm h1 h2).mono fun x w' ⟨g1, g2⟩ => ⟨none, 0, [], g1, noT_mine _, by simp, g2⟩
  · have hE : listErr l e = checksErr vName numOk bitsOk l := by unfold listErr; rw [if_neg h1]
    have hA : listA l e = noT := by unfold listA; rw [hE, if_neg h1]
    rw [hE, hA]
    exact (listR_bad1 l e pl pe cl ce w hl he hD hDe hm h1).mono fun x w' ⟨g1, g2⟩ => ⟨none, 0, [], g1, noT_mine _, by simp, g2⟩
end
theorem DomA.plain (k : Int) (s : ByteArray) (hs : s.size ≤ 9223372036854775807) (hk : (Lit.int .i64 k).wf = true) {l : List Tm} : DomA (.mk k s ⟨#[]⟩ 0 0 l) :=
  ⟨hs, (by decide : (⟨#[]⟩ : ByteArray).size ≤ 9223372036854775807), (by decide : (0 : Int) ≤ 0), (by decide : (0 : Int) < 18446744073709551616), (by decide : (Lit.int .i64 0).wf = true), hk⟩
theorem noT_dom : AllT DomA noT := by
  unfold noT leaf AllT AllR
  exact ⟨DomA.plain _ _ (by decide) (by decide), trivial⟩
theorem listT_dom : ∀ {l : List Tm} {e : Tm}, AllR DomA l → AllT DomA e → AllT DomA (listT l e)
  | [], _, _, h => h
  | t :: l, e, h, he => by
    unfold AllR at h
    show AllT DomA (.mk 5 ⟨#[46]⟩ ⟨#[]⟩ 0 0 [t, listT l e])
    unfold AllT AllR AllR AllR
    exact ⟨DomA.plain _ _ (by decide) (by decide), h.1, listT_dom h.2 he, trivial⟩
theorem listA_dom {l : List Tm} {e : Tm} (h : AllR DomA l) (he : AllT DomA e) : AllT DomA (listA l e) := by
  unfold listA
  split
  · exact listT_dom h he
  · exact noT_dom
/-- What Elements answers: elements and rest in memory of their own. -/
def elemsA (t : Tm) : List Tm × Tm := if checkErr vName numOk bitsOk t = 0 then elems t else ([], noT)
/-- A list and a rest, in memory of their own. -/
structure PairM (B : Nat) (w' : World) (t : Tm) (q : Option Addr) (n c : Nat) (S : List Nat) (r : Option Addr) (cr : Nat) (S2 : List Nat) : Prop where
  list : ListM w' q n c (elemsA t).1 S
  rest : MineT w' (elemsA t).2 r cr S2
  apart : ∀ x ∈ foot q S, x ∉ S2
  low : ∀ x ∈ foot q S, B ≤ x
  low2 : ∀ x ∈ S2, B ≤ x
theorem nil_listM (w : World) : ListM w none 0 0 [] [] := ⟨rfl, .inl ⟨rfl, rfl, rfl⟩, fun g h => (by cases h), fun x hx => (by cases hx)⟩
theorem ElemsAt.pair {B : Nat} {w' : World} {t : Tm} {v y : Value} {L : Row} {S S2 : List Nat} (h : ElemsAt B w' t v y L S S2) (hv : checkErr vName numOk bitsOk t = 0) : ∃ q n c r cr, v = .slice q n c ∧ y = (elemsA t).2.val r cr ∧ PairM B w' t q n c S r cr S2 := by
  have hA : elemsA t = elems t := by unfold elemsA; rw [if_pos hv]
  obtain ⟨q, n, c, rfl, h1, h2⟩ := h.list
  obtain ⟨r, cr, rfl, h3⟩ := h.rest
  refine ⟨q, n, c, r, cr, rfl, by rw [hA], ⟨?_, by rw [hA]; exact h3, fun x hx hx2 => ?_, fun x hx => ?_, h.low⟩⟩
  · rw [hA, ← h.same]; exact h1.listM
  · unfold foot at hx
    cases q with
    | none => exact h.apart x hx hx2
    | some a =>
      rcases List.mem_cons.1 hx with rfl | hx
      · exact h2 _ hx2 rfl
      · exact h.apart x hx hx2
  · unfold foot at hx
    cases q with
    | none => exact h1.low x hx
    | some a =>
      rcases List.mem_cons.1 hx with rfl | hx
      · exact ownBlock_le h1.row rfl
      · exact h1.low x hx
theorem elements_any (t : Tm) (p : Option Addr) (cap : Nat) (w : World) (hT : TmAt w t p) (hD : AllT DomA t) (hX : Utf w) :
    Calls Tryz.prog 30 #[t.val p cap] w fun e w' => ∃ q n c S r cr S2, e = .returned (.tuple #[.slice q n c, (elemsA t).2.val r cr, .int .i64 (checkErr vName numOk bitsOk t)]) ∧ PairM w.heap.size w' t q n c S r cr S2 ∧ Below w.heap.size w w' := by
  by_cases h : checkErr vName numOk bitsOk t = 0
  · rw [h]
    exact (elements_good t p cap w hT ⟨hD, h⟩ hX).mono fun e w' ⟨v, y, L, S, S2, h1, h2, h3⟩ => by
      obtain ⟨q, n, c, r, cr, rfl, rfl, h4⟩ := h2.pair h
      exact ⟨q, n, c, S, r, cr, S2, h1, h4, h3⟩
  · have hA : elemsA t = ([], noT) := by unfold elemsA; rw [if_neg h]
    exact (elements_bad t p cap w hT hD h hX).mono fun e w' ⟨h1, h2⟩ => ⟨none, 0, 0, [], none, 0, [], by rw [hA]; exact h1, ⟨by rw [hA]; exact nil_listM _, by rw [hA]; exact noT_mine _, fun x hx => (by cases hx), fun x hx => (by cases hx), fun x hx => (by cases hx)⟩, h2⟩
theorem elementsR_all (t : Tm) (p : Option Addr) (cap : Nat) (w : World) (hT : TmAt w t p) (hD : AllT DomA t) (h : checkErr vName numOk bitsOk t = 0) :
    Calls Tryz.prog 32 #[t.val p cap] w fun e w' => ∃ q n c S r cr S2, e = .returned (.tuple #[.slice q n c, (elemsA t).2.val r cr]) ∧ PairM w.heap.size w' t q n c S r cr S2 ∧ Below w.heap.size w w' := by
  have hV : Valid t := ⟨hD, h⟩
  have hF : nodes t ≤ 4000 := by
    unfold checkErr at h
    split at h
    · cases h
    · omega
  exact (elementsR_any t p cap w hT hV.good.cp hF).mono fun e w' ⟨v, y, L, S, S2, h1, h2, h3⟩ => by
    obtain ⟨q, n, c, r, cr, rfl, rfl, h4⟩ := h2.pair h
    exact ⟨q, n, c, S, r, cr, S2, h1, h4, h3⟩
end Go.Proofs.YtkapejcbmonfkaaGreatDoor

namespace Go.Proofs.YtkapejcbmonfkaaGreatDoor
open Go.RowKit

theorem elemsN_len : ∀ (d : Nat) (t : Tm), (elemsN d t).1.length ≤ nodes t
  | 0, t => by unfold elemsN; simp
  | d + 1, t => by
    unfold elemsN
    split
    · rename_i h
      have hl := isCons_len h
      have hn := nodes_args t
      match e : t.args, hl with
      | [a, b], _ =>
        rw [e] at hn
        simp only [nodesL] at hn
        have := elemsN_len d b
        simp only [List.length_cons]
        have := nodes_pos a
        omega
    · simp
theorem elemsA_len (t : Tm) : (elemsA t).1.length ≤ 4000 := by
  unfold elemsA
  split
  · rename_i h
    have h1 := elemsN_len (nodes t) t
    unfold checkErr at h
    split at h
    · cases h
    · unfold elems; omega
  · simp
theorem ListM.chg {w w' : World} {F : List Nat} {q : Option Addr} {n c : Nat} {l : List Tm} {S : List Nat} (h : ListM w q n c l S) (hc : Chg F w w') (hd : ∀ x ∈ foot q S, x ∉ F) : ListM w' q n c l S := by
  have hs : ∀ x ∈ foot q S, w'.heap[x]? = w.heap[x]? := fun x hx => hc.same x (h.lt x hx) (hd x hx)
  refine ⟨h.len, ?_, fun g e => ⟨(h.mine g e).1, (h.mine g e).2.same (hs g (by rw [e]; simp [foot])) fun x hx => hs x (by rw [e]; simp [foot, hx])⟩, fun x hx => Nat.lt_of_lt_of_le (h.lt x hx) hc.size⟩
  rcases h.row with k | ⟨g, arr, e, k1, k2⟩
  · exact .inl k
  · exact .inr ⟨g, arr, e, (hs g (by rw [e]; simp [foot])).trans k1, k2⟩
theorem ListM.at_ {w : World} {q : Option Addr} {n c : Nat} {l : List Tm} {S : List Nat} (h : ListM w q n c l S) : ListAt w l q := by
  rcases h.row with ⟨_, k, _⟩ | ⟨g, arr, e, _⟩
  · exact .inl (List.length_eq_zero_iff.1 (by rw [← h.len, k]))
  · exact .inr ⟨g, 0, e, (h.mine g e).2.at_⟩
theorem Chg.low {w w1 w2 : World} {S : List Nat} (h : Below w.heap.size w w1) (hc : Chg S w1 w2) (hs : ∀ x ∈ S, w.heap.size ≤ x) : Below w.heap.size w w2 :=
  ⟨hc.os.trans h.os, hc.tape.trans h.tape, hc.output.trans h.output, Nat.le_trans h.size hc.size, fun k hk => (hc.same k (Nat.lt_of_lt_of_le hk h.size) (fun e => by have := hs k e; omega)).trans (h.block k hk)⟩
theorem eqL_same (l : List Tm) : eqL l l = true := (eqL_iff l l).2 rfl
theorem sameT_same (t : Tm) : sameT t t = true := (sameT_iff t t).2 rfl
set_option maxRecDepth 100000 in
set_option maxHeartbeats 64000000 in
theorem lists_yes (l : List Tm) (e : Tm) (pl pe : Option Addr) (cl ce : Nat) (w : World) (hU : Utf w) (hl : ListAt w l pl) (he : TmAt w e pe) (hD : AllR DomA l) (hDe : AllT DomA e) (hlm : l.length ≤ 4398046511104) :
    Calls Tryz.prog 6 #[.slice pl l.length cl, e.val pe ce] w fun x w' => x = .returned (.bool true) ∧ Below w.heap.size w w' := by
  obtain ⟨W0, hW0⟩ : ∃ W0, W0 = w.alloc (.cells #[.int .i64 e.kind, .string e.name, .string e.num, .int .u64 e.bits, .int .i64 e.var, .slice pe e.args.length ce] 25) := ⟨_, rfl⟩
  have hs0 : W0.heap.size = w.heap.size + 1 := by rw [hW0]; simp
  have BW := hid (show Below w.heap.size w W0 by rw [hW0]; exact (Below.refl w.heap.size w).alloc (Nat.le_refl _) _)
  have PE := hid (show W0.heap[w.heap.size]? = some (tobj e pe ce) by rw [hW0]; exact heap_alloc_new w _)
  have AWK := hid (awake_true W0 (hU.keep BW.out))
  obtain ⟨t, ht⟩ : ∃ t, t = listA l e := ⟨_, rfl⟩
  obtain ⟨u, hu⟩ : ∃ u, u = listErr l e := ⟨_, rfl⟩
  have CL := hid (show ∀ W, Below w.heap.size w W → Calls Tryz.prog 28 #[.slice pl l.length cl, .agg #[.int .i64 e.kind, .string e.name, .string e.num, .int .u64 e.bits, .int .i64 e.var, .slice pe e.args.length ce]] W fun x w' => ∃ q c S, x = .returned (.tuple #[.agg #[.int .i64 t.kind, .string t.name, .string t.num, .int .u64 t.bits, .int .i64 t.var, .slice q t.args.length c], .int .i64 u]) ∧ MineT w' t q c S ∧ (∀ k ∈ S, W.heap.size ≤ k) ∧ Below W.heap.size W w' from fun W h => by rw [ht, hu]; exact list_any l e pl pe cl ce W (hl.keep h) (he.keep h) (hU.keep h) hD hDe hlm)
  have CR := hid (show ∀ W, Below w.heap.size w W → Calls Tryz.prog 29 #[.slice pl l.length cl, .agg #[.int .i64 e.kind, .string e.name, .string e.num, .int .u64 e.bits, .int .i64 e.var, .slice pe e.args.length ce]] W fun x w' => ∃ q c S, x = .returned (.tuple #[.agg #[.int .i64 t.kind, .string t.name, .string t.num, .int .u64 t.bits, .int .i64 t.var, .slice q t.args.length c], .int .i64 u]) ∧ MineT w' t q c S ∧ (∀ k ∈ S, W.heap.size ≤ k) ∧ Below W.heap.size W w' from fun W h => by rw [ht, hu]; exact listR_any l e pl pe cl ce W (hl.keep h) (he.keep h) hD hDe hlm)
  have hDT : AllT DomA t := by rw [ht]; exact listA_dom hD hDe
  have CS := hid (show ∀ (x : Tm) W p q c d, TmAt W x p → TmAt W x q → Calls Tryz.prog 25 #[.agg #[.int .i64 x.kind, .string x.name, .string x.num, .int .u64 x.bits, .int .i64 x.var, .slice p x.args.length c], .agg #[.int .i64 x.kind, .string x.name, .string x.num, .int .u64 x.bits, .int .i64 x.var, .slice q x.args.length d]] W fun e w' => e = .returned (.bool true) ∧ Below W.heap.size W w' from fun x W p q c d h1 h2 => by
    have h := same_any (nodes x) x x p q c d W (Nat.le_refl _) h1 h2
    rwa [sameT_same] at h)
  have CM := hid (show ∀ (x : Tm) W p c S, MineT W x p c S → Calls Tryz.prog 26 #[.agg #[.int .i64 x.kind, .string x.name, .string x.num, .int .u64 x.bits, .int .i64 x.var, .slice p x.args.length c], .string ⟨#[109, 105, 110, 101]⟩] W fun e w' => (∃ v, e = .returned v) ∧ Chg S W w' from fun x W p c S h => marked_any (nodes x) x p c S ⟨#[109, 105, 110, 101]⟩ W (Nat.le_refl _) h)
  obtain ⟨v, hv⟩ : ∃ v, v = checkErr vName numOk bitsOk t := ⟨_, rfl⟩
  obtain ⟨ls, hls⟩ : ∃ ls, ls = (elemsA t).1 := ⟨_, rfl⟩
  obtain ⟨rr, hrr⟩ : ∃ rr, rr = (elemsA t).2 := ⟨_, rfl⟩
  have hlen : ls.length ≤ 4000 := by rw [hls]; exact elemsA_len t
  have CE := hid (show ∀ W p c, TmAt W t p → Below w.heap.size w W → Calls Tryz.prog 30 #[.agg #[.int .i64 t.kind, .string t.name, .string t.num, .int .u64 t.bits, .int .i64 t.var, .slice p t.args.length c]] W fun e w' => ∃ q c1 S r cr S2, e = .returned (.tuple #[.slice q ls.length c1, .agg #[.int .i64 rr.kind, .string rr.name, .string rr.num, .int .u64 rr.bits, .int .i64 rr.var, .slice r rr.args.length cr], .int .i64 v]) ∧ ListM w' q ls.length c1 ls S ∧ MineT w' rr r cr S2 ∧ (∀ x ∈ foot q S, x ∉ S2) ∧ (∀ x ∈ foot q S, W.heap.size ≤ x) ∧ (∀ x ∈ S2, W.heap.size ≤ x) ∧ Below W.heap.size W w' from fun W p c h1 h2 => (elements_any t p c W h1 hDT (hU.keep h2)).mono fun e w' ⟨q, n, c1, S, r, cr, S2, g1, g2, g3⟩ => by
    have hn := g2.list.len
    rw [← hls] at hn
    subst hn
    rw [hls, hrr, hv]
    rw [hls] at g1
    exact ⟨q, c1, S, r, cr, S2, g1, by have := g2.list; rwa [hls] at this, g2.rest, g2.apart, g2.low, g2.low2, g3⟩)
  have CC := hid (show ∀ W p c, TmAt W t p → Calls Tryz.prog 31 #[.agg #[.int .i64 t.kind, .string t.name, .string t.num, .int .u64 t.bits, .int .i64 t.var, .slice p t.args.length c]] W fun e w' => e = .returned (.int .i64 v) ∧ Below W.heap.size W w' from fun W p c h1 => by rw [hv]; exact checkR_any vName numOk bitsOk DomA t p c W h1 (oracleRA _) hDT)
  have CX := hid (show v = 0 → ∀ W p c, TmAt W t p → Calls Tryz.prog 32 #[.agg #[.int .i64 t.kind, .string t.name, .string t.num, .int .u64 t.bits, .int .i64 t.var, .slice p t.args.length c]] W fun e w' => ∃ q c1 S r cr S2, e = .returned (.tuple #[.slice q ls.length c1, .agg #[.int .i64 rr.kind, .string rr.name, .string rr.num, .int .u64 rr.bits, .int .i64 rr.var, .slice r rr.args.length cr]]) ∧ ListM w' q ls.length c1 ls S ∧ MineT w' rr r cr S2 ∧ (∀ x ∈ foot q S, x ∉ S2) ∧ (∀ x ∈ foot q S, W.heap.size ≤ x) ∧ (∀ x ∈ S2, W.heap.size ≤ x) ∧ Below W.heap.size W w' from fun h0 W p c h1 => (elementsR_all t p c W h1 hDT (by rw [← hv, h0])).mono fun e w' ⟨q, n, c1, S, r, cr, S2, g1, g2, g3⟩ => by
    have hn := g2.list.len
    rw [← hls] at hn
    subst hn
    rw [hls, hrr]
    rw [hls] at g1
    exact ⟨q, c1, S, r, cr, S2, g1, by have := g2.list; rwa [hls] at this, g2.rest, g2.apart, g2.low, g2.low2, g3⟩)
  have CN := hid (show v ≠ 0 → ls = [] ∧ rr = noT from fun h0 => by
    have hA : elemsA t = ([], noT) := by unfold elemsA; rw [if_neg (by rw [← hv]; exact h0)]
    rw [hls, hrr, hA]
    exact ⟨rfl, rfl⟩)
  have hlE := he.len
  unfold maxLen at hlE
  have hW0' : W0 = w.alloc (.cells #[.int .i64 e.kind, .string e.name, .string e.num, .int .u64 e.bits, .int .i64 e.var, .slice pe e.args.length ce] 25) := hW0
  unfold Tm.val
  clear hU hl he hD hDe hW0 hDT ht hu hv hls hrr
  go_enter Tryz.func6, Tryz.ntmps6
  go_upto_region 2 with (first
    | (go_at_call 10; rw [← hW0']; (with_reducible refine AWK.out.mono ?_); rintro x w1 ⟨rfl, hb1⟩; replace PE := hid (obj_keep PE.out hb1); replace BW := hid (BW.out.trans (Below.mono hb1 BW.out.size)); have hn1 : w.heap.size + 1 ≤ w1.heap.size := (by have := hb1.size; omega); clear hb1 hW0' AWK)
    | fail)
  obtain ⟨e0, e1, e2, e3, e4, e5⟩ := six_of PE.out
  go_upto_region 3 with (first
    | (go_at_call 28; (with_reducible refine (CL.out _ BW.out).mono ?_); rintro x w2 ⟨qa, ca, SA, rfl, hm, hS, hb2⟩; replace PE := hid (obj_keep PE.out hb2); replace BW := hid (BW.out.trans (Below.mono hb2 BW.out.size)); have MA := hid hm; have IA := hid (show ∀ x ∈ SA, w1.heap.size ≤ x ∧ x < w2.heap.size from fun x hx => ⟨hS x hx, hm.lt x hx⟩); have hn2 : w1.heap.size ≤ w2.heap.size := hb2.size; clear hb2 hm hS)
    | fail)
  clear e0 e1 e2 e3 e4 e5
  obtain ⟨A, hA⟩ : ∃ A, A = w2.heap.size := ⟨_, rfl⟩
  obtain ⟨V, hV⟩ : ∃ V, V = w2.alloc (.cells #[.int .i64 t.kind, .string t.name, .string t.num, .int .u64 t.bits, .int .i64 t.var, .slice qa t.args.length ca] 25) := ⟨_, rfl⟩
  rw [← hV, ← hA]
  have hbV := hid (show Below w2.heap.size w2 V by rw [hV]; exact (Below.refl _ _).alloc (Nat.le_refl _) _)
  have PA := hid (show V.heap[A]? = some (tobj t qa ca) by rw [hV, hA]; exact heap_alloc_new w2 _)
  replace PE := hid (obj_keep PE.out hbV.out)
  replace MA := hid (MA.out.same fun x hx => Below.block hbV.out x (MA.out.lt x hx))
  replace BW := hid (BW.out.trans (hbV.out.mono BW.out.size))
  have hsA : V.heap.size = A + 1 := by rw [hV, hA]; simp
  rw [← hA] at IA hn2
  clear hV hbV hA
  obtain ⟨w3, rfl⟩ : ∃ w3, w3 = V := ⟨_, rfl⟩
  obtain ⟨e0, e1, e2, e3, e4, e5⟩ := six_of PE.out
  go_upto_region 4 with (first
    | (go_at_call 28; (with_reducible refine (CL.out _ BW.out).mono ?_); rintro x w4 ⟨qb, cb, SB, rfl, hm, hS, hb4⟩; replace PE := hid (obj_keep PE.out hb4); replace PA := hid (obj_keep PA.out hb4); replace MA := hid (MA.out.same fun x hx => Below.block hb4 x (MA.out.lt x hx)); replace BW := hid (BW.out.trans (Below.mono hb4 BW.out.size)); have MB := hid hm; have IB := hid (show ∀ x ∈ SB, A + 1 ≤ x ∧ x < w4.heap.size from fun x hx => ⟨by have := hS x hx; omega, hm.lt x hx⟩); have hn4 : A + 1 ≤ w4.heap.size := (by have := hb4.size; omega); clear hb4 hm hS)
    | fail)
  clear e0 e1 e2 e3 e4 e5
  clear hsA
  obtain ⟨Bb, hBb⟩ : ∃ Bb, Bb = w4.heap.size := ⟨_, rfl⟩
  obtain ⟨V, hV⟩ : ∃ V, V = w4.alloc (.cells #[.int .i64 t.kind, .string t.name, .string t.num, .int .u64 t.bits, .int .i64 t.var, .slice qb t.args.length cb] 25) := ⟨_, rfl⟩
  rw [← hV, ← hBb]
  have hbV := hid (show Below w4.heap.size w4 V by rw [hV]; exact (Below.refl _ _).alloc (Nat.le_refl _) _)
  have PB := hid (show V.heap[Bb]? = some (tobj t qb cb) by rw [hV, hBb]; exact heap_alloc_new w4 _)
  replace PE := hid (obj_keep PE.out hbV.out)
  replace PA := hid (obj_keep PA.out hbV.out)
  replace MA := hid (MA.out.same fun x hx => Below.block hbV.out x (MA.out.lt x hx))
  replace MB := hid (MB.out.same fun x hx => Below.block hbV.out x (MB.out.lt x hx))
  replace BW := hid (BW.out.trans (hbV.out.mono BW.out.size))
  have hsBb : V.heap.size = Bb + 1 := by rw [hV, hBb]; simp
  rw [← hBb] at IB hn4
  clear hV hbV hBb
  obtain ⟨w5, rfl⟩ : ∃ w5, w5 = V := ⟨_, rfl⟩
  obtain ⟨e0, e1, e2, e3, e4, e5⟩ := six_of PE.out
  go_upto_region 5 with (first
    | (go_at_call 29; (with_reducible refine (CR.out _ BW.out).mono ?_); rintro x w6 ⟨qc, cc, SC, rfl, hm, hS, hb6⟩; replace PE := hid (obj_keep PE.out hb6); replace PA := hid (obj_keep PA.out hb6); replace PB := hid (obj_keep PB.out hb6); replace MA := hid (MA.out.same fun x hx => Below.block hb6 x (MA.out.lt x hx)); replace MB := hid (MB.out.same fun x hx => Below.block hb6 x (MB.out.lt x hx)); replace BW := hid (BW.out.trans (Below.mono hb6 BW.out.size)); have MC := hid hm; have IC := hid (show ∀ x ∈ SC, Bb + 1 ≤ x ∧ x < w6.heap.size from fun x hx => ⟨by have := hS x hx; omega, hm.lt x hx⟩); have hn6 : Bb + 1 ≤ w6.heap.size := (by have := hb6.size; omega); clear hb6 hm hS)
    | fail)
  clear e0 e1 e2 e3 e4 e5
  clear hsBb
  obtain ⟨Cc, hCc⟩ : ∃ Cc, Cc = w6.heap.size := ⟨_, rfl⟩
  obtain ⟨V, hV⟩ : ∃ V, V = w6.alloc (.cells #[.int .i64 t.kind, .string t.name, .string t.num, .int .u64 t.bits, .int .i64 t.var, .slice qc t.args.length cc] 25) := ⟨_, rfl⟩
  rw [← hV, ← hCc]
  have hbV := hid (show Below w6.heap.size w6 V by rw [hV]; exact (Below.refl _ _).alloc (Nat.le_refl _) _)
  have PC := hid (show V.heap[Cc]? = some (tobj t qc cc) by rw [hV, hCc]; exact heap_alloc_new w6 _)
  replace PE := hid (obj_keep PE.out hbV.out)
  replace PA := hid (obj_keep PA.out hbV.out)
  replace PB := hid (obj_keep PB.out hbV.out)
  replace MA := hid (MA.out.same fun x hx => Below.block hbV.out x (MA.out.lt x hx))
  replace MB := hid (MB.out.same fun x hx => Below.block hbV.out x (MB.out.lt x hx))
  replace MC := hid (MC.out.same fun x hx => Below.block hbV.out x (MC.out.lt x hx))
  replace BW := hid (BW.out.trans (hbV.out.mono BW.out.size))
  have hsCc : V.heap.size = Cc + 1 := by rw [hV, hCc]; simp
  rw [← hCc] at IC hn6
  clear hV hbV hCc CL CR hsCc PE
  obtain ⟨w7, rfl⟩ : ∃ w7, w7 = V := ⟨_, rfl⟩
  obtain ⟨a0, a1, a2, a3, a4, a5⟩ := six_of PA.out
  obtain ⟨c0, c1, c2, c3, c4, c5⟩ := six_of PC.out
  go_upto_region 6 with (first
    | (go_at_call 25; (with_reducible refine (CS.out t _ qa qc ca cc MA.out.at_ MC.out.at_).mono ?_); rintro x w8 ⟨rfl, hb8⟩; replace PA := hid (obj_keep PA.out hb8); replace PB := hid (obj_keep PB.out hb8); replace PC := hid (obj_keep PC.out hb8); replace MA := hid (MA.out.same fun x hx => Below.block hb8 x (MA.out.lt x hx)); replace MB := hid (MB.out.same fun x hx => Below.block hb8 x (MB.out.lt x hx)); replace MC := hid (MC.out.same fun x hx => Below.block hb8 x (MC.out.lt x hx)); replace BW := hid (BW.out.trans (Below.mono hb8 BW.out.size)); clear hb8)
    | fail)
  clear a0 a1 a2 a3 a4 a5 c0 c1 c2 c3 c4 c5
  obtain ⟨a0, a1, a2, a3, a4, a5⟩ := six_of PA.out
  go_upto_region 7 with (first
    | (go_at_call 26; (with_reducible refine (CM.out t _ qa ca SA MA.out).mono ?_); rintro x w9 ⟨⟨v9, rfl⟩, hc9⟩; have BC := hid (Chg.low BW.out hc9 (fun x hx => (by have := IA.out x hx; omega))); clear BW; have BW := BC; clear BC; replace PA := hid ((Chg.same hc9 _ (lt_of_block PA.out) (fun h => (by have := IA.out _ h; omega))).trans PA.out); replace PB := hid ((Chg.same hc9 _ (lt_of_block PB.out) (fun h => (by have := IA.out _ h; omega))).trans PB.out); replace PC := hid ((Chg.same hc9 _ (lt_of_block PC.out) (fun h => (by have := IA.out _ h; omega))).trans PC.out); replace MB := hid (MB.out.same fun x hx => Chg.same hc9 x (MB.out.lt x hx) (fun h => (by have := IA.out x h; have := IB.out x hx; omega))); replace MC := hid (MC.out.same fun x hx => Chg.same hc9 x (MC.out.lt x hx) (fun h => (by have := IA.out x h; have := IC.out x hx; omega))); clear hc9 MA)
    | fail)
  clear a0 a1 a2 a3 a4 a5
  clear PA IA
  obtain ⟨b0, b1, b2, b3, b4, b5⟩ := six_of PB.out
  obtain ⟨c0, c1, c2, c3, c4, c5⟩ := six_of PC.out
  go_upto_region 8 with (first
    | (go_at_call 25; (with_reducible refine (CS.out t _ qb qc cb cc MB.out.at_ MC.out.at_).mono ?_); rintro x w10 ⟨rfl, hb10⟩; replace PB := hid (obj_keep PB.out hb10); replace PC := hid (obj_keep PC.out hb10); replace MB := hid (MB.out.same fun x hx => Below.block hb10 x (MB.out.lt x hx)); replace MC := hid (MC.out.same fun x hx => Below.block hb10 x (MC.out.lt x hx)); replace BW := hid (BW.out.trans (Below.mono hb10 BW.out.size)); clear hb10)
    | fail)
  clear b0 b1 b2 b3 b4 b5 c0 c1 c2 c3 c4 c5
  clear PC MC IC
  obtain ⟨b0, b1, b2, b3, b4, b5⟩ := six_of PB.out
  have hX10 := hid (show Bb + 1 ≤ w10.heap.size from lt_of_block PB.out)
  go_upto_region 11 with (first
    | (go_at_call 30; (with_reducible refine (CE.out _ qb cb MB.out.at_ BW.out).mono ?_); rintro x w11 ⟨qx, cx, SX, qy, cy, SY, rfl, hlx, hmy, hap, hlo, hlo2, hb11⟩; replace PB := hid (obj_keep PB.out hb11); replace MB := hid (MB.out.same fun x hx => Below.block hb11 x (MB.out.lt x hx)); replace BW := hid (BW.out.trans (Below.mono hb11 BW.out.size)); have LX := hid hlx; have MY := hid hmy; have AP := hid hap; have IX := hid (show ∀ x ∈ foot qx SX, Bb + 1 ≤ x ∧ x < w11.heap.size from fun x hx => ⟨by have := hlo x hx; have := hX10.out; omega, hlx.lt x hx⟩); have IY := hid (show ∀ x ∈ SY, Bb + 1 ≤ x ∧ x < w11.heap.size from fun x hx => ⟨by have := hlo2 x hx; have := hX10.out; omega, hmy.lt x hx⟩); have JX := hid (show (∀ x ∈ foot qx SX, x ∉ SB) ∧ (∀ x ∈ SY, x ∉ SB) from ⟨fun x hx h => (by have := hlo x hx; have := (IB.out x h).2; have := hX10.out; omega), fun x hx h => (by have := hlo2 x hx; have := (IB.out x h).2; have := hX10.out; omega)⟩); have hn11 : Bb + 1 ≤ w11.heap.size := (by have := hb11.size; have := hX10.out; omega); clear hb11 hlx hmy hap hlo hlo2)
    | fail)
  clear b0 b1 b2 b3 b4 b5
  obtain ⟨Yy, hYy⟩ : ∃ Yy, Yy = w11.heap.size := ⟨_, rfl⟩
  obtain ⟨V, hV⟩ : ∃ V, V = w11.alloc (.cells #[.int .i64 rr.kind, .string rr.name, .string rr.num, .int .u64 rr.bits, .int .i64 rr.var, .slice qy rr.args.length cy] 25) := ⟨_, rfl⟩
  rw [← hV, ← hYy]
  have hbV := hid (show Below w11.heap.size w11 V by rw [hV]; exact (Below.refl _ _).alloc (Nat.le_refl _) _)
  have PY := hid (show V.heap[Yy]? = some (tobj rr qy cy) by rw [hV, hYy]; exact heap_alloc_new w11 _)
  replace PB := hid (obj_keep PB.out hbV.out)
  replace MB := hid (MB.out.same fun x hx => Below.block hbV.out x (MB.out.lt x hx))
  replace MY := hid (MY.out.same fun x hx => Below.block hbV.out x (MY.out.lt x hx))
  replace LX := hid (LX.out.chg (Chg.of_below (S := []) hbV.out) (fun x hx => by simp))
  replace BW := hid (BW.out.trans (hbV.out.mono BW.out.size))
  have hsYy : V.heap.size = Yy + 1 := by rw [hV, hYy]; simp
  rw [← hYy] at IX IY hn11
  clear hV hbV hYy hX10
  obtain ⟨w12, rfl⟩ : ∃ w12, w12 = V := ⟨_, rfl⟩
  obtain ⟨b0, b1, b2, b3, b4, b5⟩ := six_of PB.out
  go_upto_region 12 with (first
    | (go_at_call 30; (with_reducible refine (CE.out _ qb cb MB.out.at_ BW.out).mono ?_); rintro x w13 ⟨qz, cz, SZ, qw, cw, SW, rfl, hlx, hmy, hap, hlo, hlo2, hb13⟩; replace PB := hid (obj_keep PB.out hb13); replace PY := hid (obj_keep PY.out hb13); replace MB := hid (MB.out.same fun x hx => Below.block hb13 x (MB.out.lt x hx)); replace MY := hid (MY.out.same fun x hx => Below.block hb13 x (MY.out.lt x hx)); replace LX := hid (LX.out.chg (Chg.of_below (S := []) hb13) (fun x hx => (by simp))); replace BW := hid (BW.out.trans (Below.mono hb13 BW.out.size)); have LZ := hid hlx; have MW := hid hmy; have IZ := hid (show ∀ x ∈ foot qz SZ, Yy + 1 ≤ x ∧ x < w13.heap.size from fun x hx => ⟨by have := hlo x hx; omega, hlx.lt x hx⟩); have IW := hid (show ∀ x ∈ SW, Yy + 1 ≤ x ∧ x < w13.heap.size from fun x hx => ⟨by have := hlo2 x hx; omega, hmy.lt x hx⟩); have hn13 : Yy + 1 ≤ w13.heap.size := (by have := hb13.size; omega); clear hb13 hlx hmy hap hlo hlo2)
    | fail)
  clear b0 b1 b2 b3 b4 b5
  clear hsYy
  obtain ⟨Zz, hZz⟩ : ∃ Zz, Zz = w13.heap.size := ⟨_, rfl⟩
  obtain ⟨V, hV⟩ : ∃ V, V = w13.alloc (.cells #[.int .i64 rr.kind, .string rr.name, .string rr.num, .int .u64 rr.bits, .int .i64 rr.var, .slice qw rr.args.length cw] 25) := ⟨_, rfl⟩
  rw [← hV, ← hZz]
  have hbV := hid (show Below w13.heap.size w13 V by rw [hV]; exact (Below.refl _ _).alloc (Nat.le_refl _) _)
  have PZ := hid (show V.heap[Zz]? = some (tobj rr qw cw) by rw [hV, hZz]; exact heap_alloc_new w13 _)
  replace PB := hid (obj_keep PB.out hbV.out)
  replace PY := hid (obj_keep PY.out hbV.out)
  replace MB := hid (MB.out.same fun x hx => Below.block hbV.out x (MB.out.lt x hx))
  replace MY := hid (MY.out.same fun x hx => Below.block hbV.out x (MY.out.lt x hx))
  replace MW := hid (MW.out.same fun x hx => Below.block hbV.out x (MW.out.lt x hx))
  replace LX := hid (LX.out.chg (Chg.of_below (S := []) hbV.out) (fun x hx => by simp))
  replace LZ := hid (LZ.out.chg (Chg.of_below (S := []) hbV.out) (fun x hx => by simp))
  replace BW := hid (BW.out.trans (hbV.out.mono BW.out.size))
  have hsZz : V.heap.size = Zz + 1 := by rw [hV, hZz]; simp
  rw [← hZz] at IZ IW hn13
  clear hV hbV hZz
  obtain ⟨w14, rfl⟩ : ∃ w14, w14 = V := ⟨_, rfl⟩
  go_upto_region 14 with fail
  obtain ⟨V, hV⟩ : ∃ V, V = w14.alloc (.cells #[.int .i64 0, .string ⟨#[]⟩, .string ⟨#[]⟩, .int .u64 0, .int .i64 0, .slice none 0 0] 25) := ⟨_, rfl⟩
  rw [← hV]
  have hbV := hid (show Below w14.heap.size w14 V by rw [hV]; exact (Below.refl _ _).alloc (Nat.le_refl _) _)
  have PR := hid (show V.heap[Zz + 1]? = some (tobj noT none 0) by rw [hV, ← hsZz]; exact heap_alloc_new w14 _)
  replace PB := hid (obj_keep PB.out hbV.out)
  replace PY := hid (obj_keep PY.out hbV.out)
  replace PZ := hid (obj_keep PZ.out hbV.out)
  replace MB := hid (MB.out.same fun x hx => Below.block hbV.out x (MB.out.lt x hx))
  replace MY := hid (MY.out.same fun x hx => Below.block hbV.out x (MY.out.lt x hx))
  replace MW := hid (MW.out.same fun x hx => Below.block hbV.out x (MW.out.lt x hx))
  replace LX := hid (LX.out.chg (Chg.of_below (S := []) hbV.out) (fun x hx => by simp))
  replace LZ := hid (LZ.out.chg (Chg.of_below (S := []) hbV.out) (fun x hx => by simp))
  replace BW := hid (BW.out.trans (hbV.out.mono BW.out.size))
  clear hV hbV hsZz
  obtain ⟨w15, rfl⟩ : ∃ w15, w15 = V := ⟨_, rfl⟩
  obtain ⟨b0, b1, b2, b3, b4, b5⟩ := six_of PB.out
  go_upto_region 15 with (first
    | (go_at_call 31; (with_reducible refine (CC.out _ qb cb MB.out.at_).mono ?_); rintro x w16 ⟨rfl, hb16⟩; replace PB := hid (obj_keep PB.out hb16); replace PY := hid (obj_keep PY.out hb16); replace PZ := hid (obj_keep PZ.out hb16); replace PR := hid (obj_keep PR.out hb16); replace MB := hid (MB.out.same fun x hx => Below.block hb16 x (MB.out.lt x hx)); replace MY := hid (MY.out.same fun x hx => Below.block hb16 x (MY.out.lt x hx)); replace MW := hid (MW.out.same fun x hx => Below.block hb16 x (MW.out.lt x hx)); replace LX := hid (LX.out.chg (Chg.of_below (S := []) hb16) (fun x hx => (by simp))); replace LZ := hid (LZ.out.chg (Chg.of_below (S := []) hb16) (fun x hx => (by simp))); replace BW := hid (BW.out.trans (Below.mono hb16 BW.out.size)); clear hb16)
    | fail)
  clear b0 b1 b2 b3 b4 b5
  have hX16 := hid (show Zz + 1 < w16.heap.size from lt_of_block PR.out)
  by_cases hv0 : v = 0
  · obtain rfl : v = 0 := hv0
    obtain ⟨b0, b1, b2, b3, b4, b5⟩ := six_of PB.out
    obtain ⟨⟨r0, r1, r2, r3, r4, r5⟩, _⟩ := six_free (show w16.heap[Zz + 1]? = some (.cells #[.int .i64 0, .string ⟨#[]⟩, .string ⟨#[]⟩, .int .u64 0, .int .i64 0, .slice none 0 0] 25 (0, 0)) from PR.out)
    go_upto_region 17 with (first
      | (go_at_call 32; (with_reducible refine (CX.out rfl _ qb cb MB.out.at_).mono ?_); rintro x w17 ⟨qp, cp, SP, qr, cr, SR, rfl, hlx, hmy, hap, hlo, hlo2, hb17⟩; clear r0 r1 r2 r3 r4 r5; replace PB := hid (obj_keep PB.out hb17); replace PY := hid (obj_keep PY.out hb17); replace PZ := hid (obj_keep PZ.out hb17); replace PR := hid (obj_keep PR.out hb17); replace MB := hid (MB.out.same fun x hx => Below.block hb17 x (MB.out.lt x hx)); replace MY := hid (MY.out.same fun x hx => Below.block hb17 x (MY.out.lt x hx)); replace MW := hid (MW.out.same fun x hx => Below.block hb17 x (MW.out.lt x hx)); replace LX := hid (LX.out.chg (Chg.of_below (S := []) hb17) (fun x hx => (by simp))); replace LZ := hid (LZ.out.chg (Chg.of_below (S := []) hb17) (fun x hx => (by simp))); replace BW := hid (BW.out.trans (Below.mono hb17 BW.out.size)); have LP := hid hlx; have MQ := hid hmy; have IP := hid (show ∀ x ∈ foot qp SP, Zz + 2 ≤ x from fun x hx => (by have := hlo x hx; have := hX16.out; omega)); have IQ := hid (show ∀ x ∈ SR, Zz + 2 ≤ x from fun x hx => (by have := hlo2 x hx; have := hX16.out; omega)); clear hb17 hlx hmy hap hlo hlo2; obtain ⟨⟨z0, z1, z2, z3, z4, z5⟩, ⟨f0, f1, f2, f3, f4, f5⟩⟩ := six_free (show w17.heap[Zz + 1]? = some (.cells #[.int .i64 0, .string ⟨#[]⟩, .string ⟨#[]⟩, .int .u64 0, .int .i64 0, .slice none 0 0] 25 (0, 0)) from PR.out))
      | fail)
    clear b0 b1 b2 b3 b4 b5
    clear z0 z1 z2 z3 z4 z5 f0 f1 f2 f3 f4 f5 PB MB IB hX16
    obtain ⟨V, hV⟩ : ∃ V, V = ((((((w17.setCell ⟨Zz + 1, 0, none⟩ (.int .i64 rr.kind)).setCell ⟨Zz + 1, 1, none⟩ (.string rr.name)).setCell ⟨Zz + 1, 2, none⟩ (.string rr.num)).setCell ⟨Zz + 1, 3, none⟩ (.int .u64 rr.bits)).setCell ⟨Zz + 1, 4, none⟩ (.int .i64 rr.var)).setCell ⟨Zz + 1, 5, none⟩ (.slice qr rr.args.length cr)) := ⟨_, rfl⟩
    rw [← hV]
    have hgV := hid (show Chg [Zz + 1] w17 V by rw [hV]; exact Chg.of_grown (set6_grown w17 (Zz + 1) (.int .i64 rr.kind) (.string rr.name) (.string rr.num) (.int .u64 rr.bits) (.int .i64 rr.var) (.slice qr rr.args.length cr)) (by intro x e; cases e; simp))
    have NR := hid (show V.heap[Zz + 1]? = some (tobj rr qr cr) by rw [hV]; exact set6 PR.out (.int .i64 rr.kind) (.string rr.name) (.string rr.num) (.int .u64 rr.bits) (.int .i64 rr.var) (.slice qr rr.args.length cr))
    clear hV PR
    replace PY := hid ((Chg.same hgV.out _ (lt_of_block PY.out) ((by simp <;> omega))).trans PY.out); replace PZ := hid ((Chg.same hgV.out _ (lt_of_block PZ.out) ((by simp <;> omega))).trans PZ.out); replace MY := hid (MY.out.same fun x hx => Chg.same hgV.out x (MY.out.lt x hx) ((by have := IY.out x hx; simp <;> omega))); replace MW := hid (MW.out.same fun x hx => Chg.same hgV.out x (MW.out.lt x hx) ((by have := IW.out x hx; simp <;> omega))); replace MQ := hid (MQ.out.same fun x hx => Chg.same hgV.out x (MQ.out.lt x hx) ((by have := IQ.out x hx; simp <;> omega))); replace LX := hid (LX.out.chg hgV.out (fun x hx => (by have := IX.out x hx; simp <;> omega))); replace LZ := hid (LZ.out.chg hgV.out (fun x hx => (by have := IZ.out x hx; simp <;> omega))); replace LP := hid (LP.out.chg hgV.out (fun x hx => (by have := IP.out x hx; simp <;> omega)))
    have BC := hid (Chg.low BW.out hgV.out (fun x hx => by simp at hx; omega))
    clear BW
    have BW := BC
    have PR := NR
    clear BC NR hgV
    obtain ⟨w18, rfl⟩ : ∃ w18, w18 = V := ⟨_, rfl⟩
    obtain ⟨y0, y1, y2, y3, y4, y5⟩ := six_of PY.out
    obtain ⟨r0, r1, r2, r3, r4, r5⟩ := six_of PR.out
    go_upto_region 18 with (first
      | (go_at_call 25; (with_reducible refine (CS.out rr _ qy qr cy cr MY.out.at_ MQ.out.at_).mono ?_); rintro x w19 ⟨rfl, hb19⟩; replace PY := hid (obj_keep PY.out hb19); replace PZ := hid (obj_keep PZ.out hb19); replace PR := hid (obj_keep PR.out hb19); replace MY := hid (MY.out.same fun x hx => Below.block hb19 x (MY.out.lt x hx)); replace MW := hid (MW.out.same fun x hx => Below.block hb19 x (MW.out.lt x hx)); replace MQ := hid (MQ.out.same fun x hx => Below.block hb19 x (MQ.out.lt x hx)); replace LX := hid (LX.out.chg (Chg.of_below (S := []) hb19) (fun x hx => (by simp))); replace LZ := hid (LZ.out.chg (Chg.of_below (S := []) hb19) (fun x hx => (by simp))); replace LP := hid (LP.out.chg (Chg.of_below (S := []) hb19) (fun x hx => (by simp))); replace BW := hid (BW.out.trans (Below.mono hb19 BW.out.size)); clear hb19)
      | fail)
    clear y0 y1 y2 y3 y4 y5 r0 r1 r2 r3 r4 r5
    have CA := hid (show Calls Tryz.prog 19 #[.slice qx ls.length cx, .slice qz ls.length cz, .slice qp ls.length cp] w19 fun e w' => e = .returned (.bool true) ∧ Chg (foot qx SX) w19 w' from by
      have h := again_any ls ls ls qx qz qp ls.length cx cz cp SX w19 LX.out (by omega) (by unfold maxLen; omega) (by unfold maxLen; omega) (fun W hc => (LZ.out.chg hc (fun x hx h => by have := IZ.out x hx; have := IX.out x h; omega)).at_) (fun W hc => (LP.out.chg hc (fun x hx h => by have := IP.out x hx; have := IX.out x h; omega)).at_) LX.out.at_
      rwa [eqL_same] at h)
    clear LX LZ LP
    go_upto_region 19 with (first
      | (go_at_call 19; (with_reducible refine CA.out.mono ?_); rintro x w20 ⟨rfl, hc20⟩; replace PY := hid ((Chg.same hc20 _ (lt_of_block PY.out) (fun h => (by have := IX.out _ h; omega))).trans PY.out); replace PZ := hid ((Chg.same hc20 _ (lt_of_block PZ.out) (fun h => (by have := IX.out _ h; omega))).trans PZ.out); replace PR := hid ((Chg.same hc20 _ (lt_of_block PR.out) (fun h => (by have := IX.out _ h; omega))).trans PR.out); replace MY := hid (MY.out.same fun x hx => Chg.same hc20 x (MY.out.lt x hx) (fun h => AP.out x h hx)); replace MW := hid (MW.out.same fun x hx => Chg.same hc20 x (MW.out.lt x hx) (fun h => (by have := IX.out x h; have := IW.out x hx; omega))); replace MQ := hid (MQ.out.same fun x hx => Chg.same hc20 x (MQ.out.lt x hx) (fun h => (by have := IX.out x h; have := IQ.out x hx; omega))); have BC := hid (Chg.low BW.out hc20 (fun x hx => (by have := IX.out x hx; omega))); clear BW; have BW := BC; clear BC hc20 CA)
      | fail)
    obtain ⟨y0, y1, y2, y3, y4, y5⟩ := six_of PY.out
    go_upto_region 20 with (first
      | (go_at_call 26; (with_reducible refine (CM.out rr _ qy cy SY MY.out).mono ?_); rintro x w21 ⟨⟨v21, rfl⟩, hc21⟩; have BC := hid (Chg.low BW.out hc21 (fun x hx => (by have := IY.out x hx; omega))); clear BW; have BW := BC; clear BC; replace PY := hid ((Chg.same hc21 _ (lt_of_block PY.out) (fun h => (by have := IY.out _ h; omega))).trans PY.out); replace PZ := hid ((Chg.same hc21 _ (lt_of_block PZ.out) (fun h => (by have := IY.out _ h; omega))).trans PZ.out); replace PR := hid ((Chg.same hc21 _ (lt_of_block PR.out) (fun h => (by have := IY.out _ h; omega))).trans PR.out); replace MW := hid (MW.out.same fun x hx => Chg.same hc21 x (MW.out.lt x hx) (fun h => (by have := IY.out x h; have := IW.out x hx; omega))); replace MQ := hid (MQ.out.same fun x hx => Chg.same hc21 x (MQ.out.lt x hx) (fun h => (by have := IY.out x h; have := IQ.out x hx; omega))); clear hc21)
      | fail)
    clear y0 y1 y2 y3 y4 y5
    clear PY MY
    obtain ⟨z0, z1, z2, z3, z4, z5⟩ := six_of PZ.out
    obtain ⟨r0, r1, r2, r3, r4, r5⟩ := six_of PR.out
    go_wp2_with (first
      | (go_at_call 25; (with_reducible refine (CS.out rr _ qw qr cw cr MW.out.at_ MQ.out.at_).mono ?_); rintro x w22 ⟨rfl, hb22⟩; replace PZ := hid (obj_keep PZ.out hb22); replace PR := hid (obj_keep PR.out hb22); replace MW := hid (MW.out.same fun x hx => Below.block hb22 x (MW.out.lt x hx)); replace MQ := hid (MQ.out.same fun x hx => Below.block hb22 x (MQ.out.lt x hx)); replace BW := hid (BW.out.trans (Below.mono hb22 BW.out.size)); clear hb22)
      | fail)
    go_ret
    exact ⟨rfl, BW.out⟩
  · have hq : (v == 0) = false := beq_eq_false_iff_ne.2 hv0
    obtain ⟨rfl, rfl⟩ := CN.out hv0
    clear PB MB IB hX16 hv0
    have LP := hid (nil_listM w16)
    have MQ := hid (noT_mine w16)
    have IQ := hid (show ∀ x ∈ ([] : List Nat), Zz + 2 ≤ x from fun x hx => (by cases hx))
    have IP := hid (show ∀ x ∈ foot none [], Zz + 2 ≤ x from fun x hx => (by cases hx))
    go_upto_region 17 with fail
    obtain ⟨w18, rfl⟩ : ∃ w18, w18 = w16 := ⟨_, rfl⟩
    obtain ⟨y0, y1, y2, y3, y4, y5⟩ := six_of PY.out
    obtain ⟨r0, r1, r2, r3, r4, r5⟩ := six_of PR.out
    go_upto_region 18 with (first
      | (go_at_call 25; (with_reducible refine (CS.out noT _ qy none cy 0 MY.out.at_ MQ.out.at_).mono ?_); rintro x w19 ⟨rfl, hb19⟩; replace PY := hid (obj_keep PY.out hb19); replace PZ := hid (obj_keep PZ.out hb19); replace PR := hid (obj_keep PR.out hb19); replace MY := hid (MY.out.same fun x hx => Below.block hb19 x (MY.out.lt x hx)); replace MW := hid (MW.out.same fun x hx => Below.block hb19 x (MW.out.lt x hx)); replace MQ := hid (MQ.out.same fun x hx => Below.block hb19 x (MQ.out.lt x hx)); replace LX := hid (LX.out.chg (Chg.of_below (S := []) hb19) (fun x hx => (by simp))); replace LZ := hid (LZ.out.chg (Chg.of_below (S := []) hb19) (fun x hx => (by simp))); replace LP := hid (LP.out.chg (Chg.of_below (S := []) hb19) (fun x hx => (by simp))); replace BW := hid (BW.out.trans (Below.mono hb19 BW.out.size)); clear hb19)
      | fail)
    clear y0 y1 y2 y3 y4 y5 r0 r1 r2 r3 r4 r5
    have CA := hid (show Calls Tryz.prog 19 #[.slice qx 0 cx, .slice qz 0 cz, .slice none 0 0] w19 fun e w' => e = .returned (.bool true) ∧ Chg (foot qx SX) w19 w' from by
      have h := again_any [] [] [] qx qz none 0 cx cz 0 SX w19 LX.out (by simp) (by simp) (by simp) (fun W hc => (LZ.out.chg hc (fun x hx h => by have := IZ.out x hx; have := IX.out x h; omega)).at_) (fun W hc => (LP.out.chg hc (fun x hx h => by have := IP.out x hx; have := IX.out x h; omega)).at_) LX.out.at_
      rwa [eqL_same] at h)
    clear LX LZ LP
    go_upto_region 19 with (first
      | (go_at_call 19; (with_reducible refine CA.out.mono ?_); rintro x w20 ⟨rfl, hc20⟩; replace PY := hid ((Chg.same hc20 _ (lt_of_block PY.out) (fun h => (by have := IX.out _ h; omega))).trans PY.out); replace PZ := hid ((Chg.same hc20 _ (lt_of_block PZ.out) (fun h => (by have := IX.out _ h; omega))).trans PZ.out); replace PR := hid ((Chg.same hc20 _ (lt_of_block PR.out) (fun h => (by have := IX.out _ h; omega))).trans PR.out); replace MY := hid (MY.out.same fun x hx => Chg.same hc20 x (MY.out.lt x hx) (fun h => AP.out x h hx)); replace MW := hid (MW.out.same fun x hx => Chg.same hc20 x (MW.out.lt x hx) (fun h => (by have := IX.out x h; have := IW.out x hx; omega))); replace MQ := hid (MQ.out.same fun x hx => Chg.same hc20 x (MQ.out.lt x hx) (fun h => (by have := IX.out x h; have := IQ.out x hx; omega))); have BC := hid (Chg.low BW.out hc20 (fun x hx => (by have := IX.out x hx; omega))); clear BW; have BW := BC; clear BC hc20 CA)
      | fail)
    obtain ⟨y0, y1, y2, y3, y4, y5⟩ := six_of PY.out
    go_upto_region 20 with (first
      | (go_at_call 26; (with_reducible refine (CM.out noT _ qy cy SY MY.out).mono ?_); rintro x w21 ⟨⟨v21, rfl⟩, hc21⟩; have BC := hid (Chg.low BW.out hc21 (fun x hx => (by have := IY.out x hx; omega))); clear BW; have BW := BC; clear BC; replace PY := hid ((Chg.same hc21 _ (lt_of_block PY.out) (fun h => (by have := IY.out _ h; omega))).trans PY.out); replace PZ := hid ((Chg.same hc21 _ (lt_of_block PZ.out) (fun h => (by have := IY.out _ h; omega))).trans PZ.out); replace PR := hid ((Chg.same hc21 _ (lt_of_block PR.out) (fun h => (by have := IY.out _ h; omega))).trans PR.out); replace MW := hid (MW.out.same fun x hx => Chg.same hc21 x (MW.out.lt x hx) (fun h => (by have := IY.out x h; have := IW.out x hx; omega))); replace MQ := hid (MQ.out.same fun x hx => Chg.same hc21 x (MQ.out.lt x hx) (fun h => (by have := IY.out x h; have := IQ.out x hx; omega))); clear hc21)
      | fail)
    clear y0 y1 y2 y3 y4 y5
    clear PY MY
    obtain ⟨z0, z1, z2, z3, z4, z5⟩ := six_of PZ.out
    obtain ⟨r0, r1, r2, r3, r4, r5⟩ := six_of PR.out
    go_wp2_with (first
      | (go_at_call 25; (with_reducible refine (CS.out noT _ qw none cw 0 MW.out.at_ MQ.out.at_).mono ?_); rintro x w22 ⟨rfl, hb22⟩; replace PZ := hid (obj_keep PZ.out hb22); replace PR := hid (obj_keep PR.out hb22); replace MW := hid (MW.out.same fun x hx => Below.block hb22 x (MW.out.lt x hx)); replace MQ := hid (MQ.out.same fun x hx => Below.block hb22 x (MQ.out.lt x hx)); replace BW := hid (BW.out.trans (Below.mono hb22 BW.out.size)); clear hb22)
      | fail)
    go_ret
    exact ⟨rfl, BW.out⟩
end Go.Proofs.YtkapejcbmonfkaaGreatDoor

namespace Go.Proofs.YtkapejcbmonfkaaGreatDoor
open Go.ChangeShapes Go.WideShapes Go.ChangeAt Go.RowKit Go.Joins Go.Deep

theorem readsL : Tryz.prog.readableRec 23 = true ∧ 23 < Tryz.prog.types.size := ⟨by kernel_rfl, of_decide_eq_true (by kernel_rfl)⟩
section
variable {H : Type} {enc : TypeId × Value → H} {W : World}
set_option maxRecDepth 100000 in
theorem open_list {v : Value} {d : DataW H} {p : List MemPlace} {sp : Nat → Bool} {held : Bool} {r : Reach} {b0 : Nat} (hval : Value.okWide Tryz.prog W r b0 23 v) (h : DataW.Trod enc Tryz.prog W 0 sp held 23 v d p) :
    ∃ (l : List Tm) (q : Option Addr) (cap : Nat), v = .slice q l.length cap ∧ ListAt W l q ∧ AllR DomA l ∧ (l = [] ∨ ∃ es rest, d = .slice es rest ∧ es.length = l.length) := by
  obtain ⟨a1, len1, cap1, rfl⟩ := okWide_slice Tryz.underlying23 hval
  obtain ⟨fuel, hf⟩ := h
  rcases open_slice Tryz.underlying23 hf with ⟨hcs, hx⟩ | ⟨a, len, cap, m, n, D, Pl, hcs, hb, hl, hm, hmm, hx, hel⟩
  · simp [Value.cells] at hcs
    obtain ⟨rfl, rfl, rfl⟩ := hcs
    refine ⟨[], none, 0, rfl, .inl rfl, ?_, Or.inl rfl⟩
    unfold AllR
    trivial
  · simp [Value.cells] at hcs
    obtain ⟨rfl, rfl, rfl⟩ := hcs
    simp only [Prod.mk.injEq] at hx
    obtain ⟨rfl, -⟩ := hx
    have hlm : len1 ≤ m := by rw [hmm]; split <;> omega
    have each : ∀ i, i < len1 → ∃ q : Tm × Option Addr × Nat, (∀ j, W.cell? ((a.add (i * 6)).add j) = ([Value.int .i64 q.1.kind, .string q.1.name, .string q.1.num, .int .u64 q.1.bits, .int .i64 q.1.var, .slice q.2.1 q.1.args.length q.2.2] : List Value)[j]? ∨ 6 ≤ j) ∧ TmAt W q.1 q.2.1 ∧ AllT DomA q.1 := by
      intro i hi
      obtain ⟨cs', h1, h2⟩ := hel i (by omega)
      rw [show Tryz.prog.cellsOf 25 = 6 by kernel_rfl] at h1
      obtain ⟨t, p, c, rfl, h5, h6⟩ := open_tree _ cs' _ h2
      obtain ⟨_, hl2, hcell⟩ := World.cells?_some h1
      refine ⟨(t, p, c), fun j => ?_, h5, h6⟩
      by_cases hj : j < 6
      · left
        have := hcell j hj
        simpa using this
      · right; omega
    obtain ⟨q, hq⟩ := choose_lt each
    refine ⟨(List.range len1).map fun i => (q i).1, some a, cap1, by simp, ?_, ?_, Or.inr ⟨_, _, rfl, by simp⟩⟩
    · by_cases h0 : len1 = 0
      · left; subst h0; rfl
      · right
        obtain ⟨xb, xo, spot⟩ := a
        have hc0 := (hq 0 (by omega)).1 0
        have hspot : spot = none := by
          rcases hc0 with hc | hc
          · simpa [Addr.add] using World.cell?_spot hc
          · omega
        subst hspot
        refine ⟨xb, xo, rfl, RowT.mk fun k hk => ?_⟩
        have hk' : k < len1 := by simpa using hk
        obtain ⟨hc, ht, -⟩ := hq k hk'
        refine ⟨(q k).2.1, (q k).2.2, ?_, by simpa using ht⟩
        have c : ∀ j, j < 6 → W.cell? ⟨xb, xo + k * 6 + j, none⟩ = ([Value.int .i64 (q k).1.kind, .string (q k).1.name, .string (q k).1.num, .int .u64 (q k).1.bits, .int .i64 (q k).1.var, .slice (q k).2.1 (q k).1.args.length (q k).2.2] : List Value)[j]? := fun j hj => by
          rcases hc j with h | h
          · rw [← h, Addr.add_lit, Addr.add_lit]
          · omega
        have e : ((List.range len1).map fun i => (q i).1)[k] = (q k).1 := by simp
        rw [e]
        exact ⟨(c 0 (by omega)).trans rfl, (c 1 (by omega)).trans rfl, (c 2 (by omega)).trans rfl, (c 3 (by omega)).trans rfl, (c 4 (by omega)).trans rfl, (c 5 (by omega)).trans rfl⟩
    · refine AllR.mk fun k hk => ?_
      have hk' : k < len1 := by simpa using hk
      simpa using (hq k hk').2.2
set_option maxRecDepth 100000 in
/-- A list's length: an argument's weight is bounded. -/
theorem list_reach {ts : List TypeId} {ds : List (DataW H)} (hsz : (DataW.weightsEach Tryz.prog ts ds).all (· ≤ reachBytes) = true) {j : Nat} {d : DataW H} {l : List Tm} (ht : ts[j]? = some 23) (hd : ds[j]? = some d) (h : l = [] ∨ ∃ es rest, d = .slice es rest ∧ es.length = l.length) :
    l.length ≤ 4398046511104 := by
  rcases h with rfl | ⟨es, rest, rfl, he⟩
  · simp
  · have := sized_slice hsz ht hd Tryz.underlying23
    rw [show Tryz.prog.bytesOf 25 = 80 by kernel_rfl] at this
    simp only [reachBytes] at this
    omega
end
end Go.Proofs.YtkapejcbmonfkaaGreatDoor
