/- Walks: List and Elements of the program and of the document, of anything. No condition but those that each theorem names. The law TermLists: it answers true of any trees as elements and end, where the tables of unicode/utf8 lie as its text lays them. A list of trees among a law's arguments, opened: how it lies, each node within bounds, and its length. -/
import Derived.Test.YtkapejcbmonfkaaGreatDoorT64
import Derived.Test.YtkapejcbmonfkaaGreatDoorT56m
import Derived.Test.YtkapejcbmonfkaaGreatDoorT36m
namespace Go.Proofs.YtkapejcbmonfkaaGreatDoor
open Go.RowKit

/-- The term of no kind. -/
def noT : Tm := leaf 0 ⟨#[]⟩ ⟨#[]⟩ 0
/-- What List answers. -/
def listA (l : List Tm) (e : Tm) : Tm := if listErr l e = 0 then listT l e else noT
theorem noT_mine (w : World) : MineT w noT none 0 [] := leaf_mine w 0 ⟨#[]⟩ ⟨#[]⟩ 0
theorem checks_each {l : List Tm} (h : checksErr vName numOk bitsOk l = 0) (hD : AllR DomA l) : ∀ k (hk : k < l.length), Valid l[k] := by
  induction l with
  | nil => intro k hk; simp at hk
  | cons t l ih =>
    unfold checksErr at h
    unfold AllR at hD
    by_cases h1 : checkErr vName numOk bitsOk t = 0
    · rw [if_pos h1] at h
      intro k hk
      cases k with
      | zero => exact ⟨hD.1, h1⟩
      | succ k => simpa using ih h hD.2 k (by simpa using hk)
    · rw [if_neg h1] at h; exact absurd h h1
section
variable (l : List Tm) (e : Tm) (pl pe : Option Addr) (cl ce : Nat) (w : World)
theorem list_any (hl : ListAt w l pl) (he : TmAt w e pe) (hX : Utf w) (hD : AllR DomA l) (hDe : AllT DomA e) (hlm : l.length ≤ 4398046511104) :
    Calls Tryz.prog 28 #[.slice pl l.length cl, e.val pe ce] w fun x w' => ∃ q c S, x = .returned (.tuple #[(listA l e).val q c, .int .i64 (listErr l e)]) ∧ MineT w' (listA l e) q c S ∧ (∀ k ∈ S, w.heap.size ≤ k) ∧ Below w.heap.size w w' := by
  have hm : l.length ≤ maxLen := by unfold maxLen; omega
  by_cases h1 : checksErr vName numOk bitsOk l = 0
  · by_cases h2 : checkErr vName numOk bitsOk e = 0
    · by_cases h3 : 4000 < tot l e l.length
      · have hE : listErr l e = 24 := by unfold listErr; rw [if_pos h1, if_pos h2, if_pos h3]
        have hA : listA l e = noT := by unfold listA; rw [hE, if_neg (by omega)]
        rw [hE, hA]
        exact (list_bad3 l e pl pe cl ce w hl he hX hD hDe hm h1 h2 h3 hlm).mono fun x w' ⟨g1, g2⟩ => ⟨none, 0, [], g1, noT_mine _, by simp, g2⟩
      · have hE : listErr l e = 0 := by unfold listErr; rw [if_pos h1, if_pos h2, if_neg h3]
        have hA : listA l e = listT l e := by unfold listA; rw [if_pos hE]
        rw [hE, hA]
        exact list_good l e pl pe cl ce w hl he hX hD hDe hm h1 h2 (by omega) (fun k hk => (checks_each h1 hD k hk).good.cp) (Valid.good ⟨hDe, h2⟩).cp
    · have hE : listErr l e = checkErr vName numOk bitsOk e := by unfold listErr; rw [if_pos h1, if_neg h2]
      have hA : listA l e = noT := by unfold listA; rw [hE, if_neg h2]
      rw [hE, hA]
      exact (list_bad2 l e pl pe cl ce w hl he hX hD hDe hm h1 h2).mono fun x w' ⟨g1, g2⟩ => ⟨none, 0, [], g1, noT_mine _, by simp, g2⟩
  · have hE : listErr l e = checksErr vName numOk bitsOk l := by unfold listErr; rw [if_neg h1]
    have hA : listA l e = noT := by unfold listA; rw [hE, if_neg h1]
    rw [hE, hA]
    exact (list_bad1 l e pl pe cl ce w hl he hX hD hDe hm h1).mono fun x w' ⟨g1, g2⟩ => ⟨none, 0, [], g1, noT_mine _, by simp, g2⟩
end
theorem DomA.plain (k : Int) (s : ByteArray) (hs : s.size ≤ 9223372036854775807) (hk : (Lit.int .i64 k).wf = true) {l : List Tm} : DomA (.mk k s ⟨#[]⟩ 0 0 l) :=
  ⟨hs, (by decide : (⟨#[]⟩ : ByteArray).size ≤ 9223372036854775807), (by decide : (0 : Int) ≤ 0), (by decide : (0 : Int) < 18446744073709551616), (by decide : (Lit.int .i64 0).wf = true), hk⟩
theorem listT_dom : ∀ {l : List Tm} {e : Tm}, AllR DomA l → AllT DomA e → AllT DomA (listT l e)
  | [], _, _, h => h
  | t :: l, e, h, he => by
    unfold AllR at h
    show AllT DomA (.mk 5 ⟨#[46]⟩ ⟨#[]⟩ 0 0 [t, listT l e])
    unfold AllT AllR AllR AllR
    exact ⟨DomA.plain _ _ (by decide) (by decide), h.1, listT_dom h.2 he, trivial⟩
/-- What Elements answers: elements and rest in memory of their own. -/
def elemsA (t : Tm) : List Tm × Tm := if checkErr vName numOk bitsOk t = 0 then elems t else ([], noT)
/-- A list and a rest, in memory of their own. -/
structure PairM (B : Nat) (w' : World) (t : Tm) (q : Option Addr) (n c : Nat) (S : List Nat) (r : Option Addr) (cr : Nat) (S2 : List Nat) : Prop where
  list : ListM w' q n c (elemsA t).1 S
  rest : MineT w' (elemsA t).2 r cr S2
  apart : ∀ x ∈ foot q S, x ∉ S2
  low : ∀ x ∈ foot q S, B ≤ x
  low2 : ∀ x ∈ S2, B ≤ x
theorem nil_listM (w : World) : ListM w none 0 0 [] [] := ⟨rfl, .inl ⟨rfl, rfl, rfl⟩, fun g h => (by cases h), fun x hx => (by cases hx)⟩
theorem ElemsAt.pair {B : Nat} {w' : World} {t : Tm} {v y : Value} {L : Row} {S S2 : List Nat} (h : ElemsAt B w' t v y L S S2) (hv : checkErr vName numOk bitsOk t = 0) : ∃ q n c r cr, v = .slice q n c ∧ y = (elemsA t).2.val r cr ∧ PairM B w' t q n c S r cr S2 := by
  have hA : elemsA t = elems t := by unfold elemsA; rw [if_pos hv]
  obtain ⟨q, n, c, rfl, h1, h2⟩ := h.list
  obtain ⟨r, cr, rfl, h3⟩ := h.rest
  refine ⟨q, n, c, r, cr, rfl, by rw [hA], ⟨?_, by rw [hA]; exact h3, fun x hx hx2 => ?_, fun x hx => ?_, h.low⟩⟩
  · rw [hA, ← h.same]; exact h1.listM
  · unfold foot at hx
    cases q with
    | none => exact h.apart x hx hx2
    | some a =>
      rcases List.mem_cons.1 hx with rfl | hx
      · exact h2 _ hx2 rfl
      · exact h.apart x hx hx2
  · unfold foot at hx
    cases q with
    | none => exact h1.low x hx
    | some a =>
      rcases List.mem_cons.1 hx with rfl | hx
      · exact ownBlock_le h1.row rfl
      · exact h1.low x hx
theorem elements_any (t : Tm) (p : Option Addr) (cap : Nat) (w : World) (hT : TmAt w t p) (hD : AllT DomA t) (hX : Utf w) :
    Calls Tryz.prog 30 #[t.val p cap] w fun e w' => ∃ q n c S r cr S2, e = .returned (.tuple #[.slice q n c, (elemsA t).2.val r cr, .int .i64 (checkErr vName numOk bitsOk t)]) ∧ PairM w.heap.size w' t q n c S r cr S2 ∧ Below w.heap.size w w' := by
  by_cases h : checkErr vName numOk bitsOk t = 0
  · rw [h]
    exact (elements_good t p cap w hT ⟨hD, h⟩ hX).mono fun e w' ⟨v, y, L, S, S2, h1, h2, h3⟩ => by
      obtain ⟨q, n, c, r, cr, rfl, rfl, h4⟩ := h2.pair h
      exact ⟨q, n, c, S, r, cr, S2, h1, h4, h3⟩
  · have hA : elemsA t = ([], noT) := by unfold elemsA; rw [if_neg h]
    exact (elements_bad t p cap w hT hD h hX).mono fun e w' ⟨h1, h2⟩ => ⟨none, 0, 0, [], none, 0, [], by rw [hA]; exact h1, ⟨by rw [hA]; exact nil_listM _, by rw [hA]; exact noT_mine _, fun x hx => (by cases hx), fun x hx => (by cases hx), fun x hx => (by cases hx)⟩, h2⟩
end Go.Proofs.YtkapejcbmonfkaaGreatDoor

namespace Go.Proofs.YtkapejcbmonfkaaGreatDoor
open Go.RowKit

theorem ListM.at_ {w : World} {q : Option Addr} {n c : Nat} {l : List Tm} {S : List Nat} (h : ListM w q n c l S) : ListAt w l q := by
  rcases h.row with ⟨_, k, _⟩ | ⟨g, arr, e, _⟩
  · exact .inl (List.length_eq_zero_iff.1 (by rw [← h.len, k]))
  · exact .inr ⟨g, 0, e, (h.mine g e).2.at_⟩
theorem Chg.low {w w1 w2 : World} {S : List Nat} (h : Below w.heap.size w w1) (hc : Chg S w1 w2) (hs : ∀ x ∈ S, w.heap.size ≤ x) : Below w.heap.size w w2 :=
  ⟨hc.os.trans h.os, hc.tape.trans h.tape, hc.output.trans h.output, Nat.le_trans h.size hc.size, fun k hk => (hc.same k (Nat.lt_of_lt_of_le hk h.size) (fun e => by have := hs k e; omega)).trans (h.block k hk)⟩
end Go.Proofs.YtkapejcbmonfkaaGreatDoor

namespace Go.Proofs.YtkapejcbmonfkaaGreatDoor
open Go.ChangeShapes Go.WideShapes Go.ChangeAt Go.RowKit Go.Joins Go.Deep

theorem readsL : Tryz.prog.readableRec 23 = true ∧ 23 < Tryz.prog.types.size := ⟨by kernel_rfl, of_decide_eq_true (by kernel_rfl)⟩
section
variable {H : Type} {enc : TypeId × Value → H} {W : World}
set_option maxRecDepth 100000 in
theorem open_list {v : Value} {d : DataW H} {p : List MemPlace} {sp : Nat → Bool} {held : Bool} {r : Reach} {b0 : Nat} (hval : Value.okWide Tryz.prog W r b0 23 v) (h : DataW.Trod enc Tryz.prog W 0 sp held 23 v d p) :
    ∃ (l : List Tm) (q : Option Addr) (cap : Nat), v = .slice q l.length cap ∧ ListAt W l q ∧ AllR DomA l ∧ (l = [] ∨ ∃ es rest, d = .slice es rest ∧ es.length = l.length) := by
  obtain ⟨a1, len1, cap1, rfl⟩ := okWide_slice Tryz.underlying23 hval
  obtain ⟨fuel, hf⟩ := h
  rcases open_slice Tryz.underlying23 hf with ⟨hcs, hx⟩ | ⟨a, len, cap, m, n, D, Pl, hcs, hb, hl, hm, hmm, hx, hel⟩
  · simp [Value.cells] at hcs
    obtain ⟨rfl, rfl, rfl⟩ := hcs
    refine ⟨[], none, 0, rfl, .inl rfl, ?_, Or.inl rfl⟩
    unfold AllR
    trivial
  · simp [Value.cells] at hcs
    obtain ⟨rfl, rfl, rfl⟩ := hcs
    simp only [Prod.mk.injEq] at hx
    obtain ⟨rfl, -⟩ := hx
    have hlm : len1 ≤ m := by rw [hmm]; split <;> omega
    have each : ∀ i, i < len1 → ∃ q : Tm × Option Addr × Nat, (∀ j, W.cell? ((a.add (i * 6)).add j) = ([Value.int .i64 q.1.kind, .string q.1.name, .string q.1.num, .int .u64 q.1.bits, .int .i64 q.1.var, .slice q.2.1 q.1.args.length q.2.2] : List Value)[j]? ∨ 6 ≤ j) ∧ TmAt W q.1 q.2.1 ∧ AllT DomA q.1 := by
      intro i hi
      obtain ⟨cs', h1, h2⟩ := hel i (by omega)
      rw [show Tryz.prog.cellsOf 25 = 6 by kernel_rfl] at h1
      obtain ⟨t, p, c, rfl, h5, h6⟩ := open_tree _ cs' _ h2
      obtain ⟨_, hl2, hcell⟩ := World.cells?_some h1
      refine ⟨(t, p, c), fun j => ?_, h5, h6⟩
      by_cases hj : j < 6
      · left
        have := hcell j hj
        simpa using this
      · right; omega
    obtain ⟨q, hq⟩ := choose_lt each
    refine ⟨(List.range len1).map fun i => (q i).1, some a, cap1, by simp, ?_, ?_, Or.inr ⟨_, _, rfl, by simp⟩⟩
    · by_cases h0 : len1 = 0
      · left; subst h0; rfl
      · right
        obtain ⟨xb, xo, spot⟩ := a
        have hc0 := (hq 0 (by omega)).1 0
        have hspot : spot = none := by
          rcases hc0 with hc | hc
          · simpa [Addr.add] using World.cell?_spot hc
          · omega
        subst hspot
        refine ⟨xb, xo, rfl, RowT.mk fun k hk => ?_⟩
        have hk' : k < len1 := by simpa using hk
        obtain ⟨hc, ht, -⟩ := hq k hk'
        refine ⟨(q k).2.1, (q k).2.2, ?_, by simpa using ht⟩
        have c : ∀ j, j < 6 → W.cell? ⟨xb, xo + k * 6 + j, none⟩ = ([Value.int .i64 (q k).1.kind, .string (q k).1.name, .string (q k).1.num, .int .u64 (q k).1.bits, .int .i64 (q k).1.var, .slice (q k).2.1 (q k).1.args.length (q k).2.2] : List Value)[j]? := fun j hj => by
          rcases hc j with h | h
          · rw [← h, Addr.add_lit, Addr.add_lit]
          · omega
        have e : ((List.range len1).map fun i => (q i).1)[k] = (q k).1 := by simp
        rw [e]
        exact ⟨(c 0 (by omega)).trans rfl, (c 1 (by omega)).trans rfl, (c 2 (by omega)).trans rfl, (c 3 (by omega)).trans rfl, (c 4 (by omega)).trans rfl, (c 5 (by omega)).trans rfl⟩
    · refine AllR.mk fun k hk => ?_
      have hk' : k < len1 := by simpa using hk
      simpa using (hq k hk').2.2
set_option maxRecDepth 100000 in
/-- A list's length: an argument's weight is bounded. -/
theorem list_reach {ts : List TypeId} {ds : List (DataW H)} (hsz : (DataW.weightsEach Tryz.prog ts ds).all (· ≤ reachBytes) = true) {j : Nat} {d : DataW H} {l : List Tm} (ht : ts[j]? = some 23) (hd : ds[j]? = some d) (h : l = [] ∨ ∃ es rest, d = .slice es rest ∧ es.length = l.length) :
    l.length ≤ 4398046511104 := by
  rcases h with rfl | ⟨es, rest, rfl, he⟩
  · simp
  · have := sized_slice hsz ht hd Tryz.underlying23
    rw [show Tryz.prog.bytesOf 25 = 80 by kernel_rfl] at this
    simp only [reachBytes] at this
    omega
end
end Go.Proofs.YtkapejcbmonfkaaGreatDoor
