/- Walks: Text where nothing is wrong. Walks: few, same. Boxes that hold numbers; the operations where nothing is too long; same. Walks: awake. -/
import Derived.Test.YtldafoojkimdeaaDoorDividesM3
import Derived.Laws.BytesArg
import Derived.Deep.AppendLies
import Derived.Deep.RegionHeld3
import Derived.Deep.AppendSrc
import Derived.Deep.Upon
import Derived.Test.YtldafoojkimdeaaDoorDividesM2
import Derived.Deep.DeepCutAuto
namespace Go.Proofs.YtldafoojkimdeaaDoor
open Go.RowKit Lm

theorem lowD_len (r : Nat) : ∀ f v, (lowD r f v).length ≤ f
  | 0, _ => Nat.le_refl _
  | f + 1, v => by
    unfold lowD
    by_cases h : v = 0
    · rw [if_pos h]; simp
    · rw [if_neg h]; have := lowD_len r f (v / r); simp; exact this

/-- What is written, byte by byte. -/
def txt (n : Bool) (r v : Nat) : List Nat := if v = 0 then [48] else (if n then [45] else []) ++ ((lowD r 4096 v).map dch).reverse
def strOf (L : List Nat) : ByteArray := ⟨(L.map UInt8.ofNat).toArray⟩
theorem strOf_nums (L : List Nat) : strOfNums (L.map fun x : Nat => (x : Int)) = strOf L := by
  unfold strOfNums strOf
  simp [List.map_map, Function.comp_def]

theorem GrowC.str {B : Nat} {w : World} {v : Value} {L : List Nat} (h : GrowC B w v L) (h0 : L ≠ []) : ∃ g cap, v = .slice (some ⟨g, 0, none⟩) L.length cap ∧ (convert 117 9 v).run Tryd.prog w = .ok (.string (strOf L)) w := by
  obtain ⟨g, cap, rfl, _, _⟩ := World.ownsRow.form h (List.length_pos_iff.2 h0)
  refine ⟨g, cap, rfl, ?_⟩
  rw [← strOf_nums]
  refine run_convert_bytes_arg w 117 5 Tryd.underlying117 Tryd.underlying5 g 0 L.length cap _ (by simp) (fun i hi => ?_) 9 Tryd.underlying9
  rw [Nat.zero_add, World.ownsRow.cellAt h i (by omega), bys_get _ _ hi]
  unfold dg
  rw [getD_in _ _ hi]; simp [List.getD, hi]

theorem sign_zero {n : Bool} {A : List Nat} (h : val A = 0) : (num n A).sign = 0 := by unfold num; rw [h]; cases n <;> rfl
theorem sign_not {n : Bool} {A : List Nat} (h : val A ≠ 0) : ((num n A).sign == 0) = false := by
  rw [beq_eq_false_iff_ne]
  intro e
  have := Int.sign_eq_zero_iff_zero.1 e
  unfold num at this
  cases n <;> simp at this <;> omega

theorem hp2 (w : World) (o1 o2 : Obj) {w1 : World} (hb : Below ((w.alloc o1).alloc o2).heap.size ((w.alloc o1).alloc o2) w1) :
    w1.heap[w.heap.size]? = some o1 ∧ Below w.heap.size w w1 ∧ w.heap.size + 2 ≤ w1.heap.size := by
  refine ⟨?_, balloc2 hb, by have := hb.size; simp at this; omega⟩
  rw [hb.block _ (by simp; omega)]
  exact hpS _ (heap_alloc_new w o1)

theorem txt_pos {n : Bool} {r v : Nat} (h : v ≠ 0) (_h2 : 2 ≤ r) : txt n r v = ((lowD r 4096 v).map dch ++ (if n then [45] else [])).reverse := by
  unfold txt
  rw [if_neg h, List.reverse_append]
  cases n <;> rfl
theorem txt_nil {n : Bool} {r v : Nat} : txt n r v ≠ [] ∨ lowD r 4096 v = [] := by
  unfold txt
  by_cases h : v = 0
  · rw [if_pos h]; simp
  · rw [if_neg h]
    by_cases h1 : lowD r 4096 v = []
    · exact .inr h1
    · left; simp [h1]

set_option maxRecDepth 100000 in
set_option maxHeartbeats 2000000 in
theorem text_good (na : Bool) (aa : Option Addr) (la ca : Nat) (A : List Nat) (r : Nat) (w : World) (hA : Rd w aa la ca A) (h2 : 2 ≤ r) (h36 : r ≤ 36) (hbad : tooLong A = false) :
    Calls Tryd.prog 59 #[.agg #[.bool na, .slice aa la ca], .int .i64 (r : Int)] w fun e w' => e = .returned (.tuple #[.string (strOf (txt na r (val A))), .int .i64 0]) ∧ Below w.heap.size w w' := by
  by_cases h0 : val A = 0
  · have hs := sign_zero (n := na) h0
    have HS := hid hs
    have HT := hid (show txt na r (val A) = [48] by unfold txt; rw [if_pos h0])
    clear hs h0
    go_enter Tryd.func59, Tryd.ntmps59
    go_wp2_with (first
      | (go_at_call 77; refine (long1_any _ na aa la ca A _ ((hA.alloc _).alloc _) (by simp [go_sem]) (by simp [go_sem])).mono ?_; rintro e w1 ⟨rfl, hb1⟩; rw [hbad]; obtain ⟨p1, hbw, hsw⟩ := hp2 _ _ _ hb1; obtain ⟨c0, c1, f0, f1⟩ := two_cells p1; have hA1 := hA.keep hbw; clear p1 hb1)
      | (go_at_call 99; refine (isRadix_yes r _ h2 h36).mono ?_; rintro e w2 ⟨rfl, rfl⟩)
      | (go_at_call 28; refine (sign_any na aa la ca A _ hA1).mono ?_; rintro e w3 ⟨rfl, rfl⟩; rw [HS.out]))
    refine bodyPost_ret (v := .tuple #[.string (strOf (txt na r (val A))), .int .i64 0]) (by simp [results, Tryd.results59, go_sem]; rw [HT.out]; rfl) rfl ⟨rfl, ?_⟩
    exact hbw.trans (((Below.refl _ _).alloc (Nat.le_refl _) _).mono hbw.size)
  · have hs := sign_not (n := na) h0
    have hlen := len_of_bl A 128 (by unfold tooLong at hbad; simpa using hbad)
    have HL := hid hlen
    have HN := hid h0
    have HV := hid (tl_val A)
    have HT := hid (txt_pos (n := na) (v := val A) h0 h2)
    clear h0
    obtain ⟨i0, hi, hz0, hz1, hz2⟩ := info_parts Tryd.info5
    cases na with
    | false =>
      have HT' : Hid (txt false r (val A) = ((lowD r 4096 (val A)).map dch).reverse) := hid (by rw [HT.out]; simp)
      have HE : Hid (((lowD r 4096 (val A)).map dch).reverse ≠ []) := hid (by rw [lowD_step _ _ _ HN.out]; simp)
      go_enter Tryd.func59, Tryd.ntmps59
      go_wp2_with (first
        | (go_at_call 77; refine (long1_any _ false aa la ca A _ ((hA.alloc _).alloc _) (by simp [go_sem]) (by simp [go_sem])).mono ?_; rintro e w1 ⟨rfl, hb1⟩; rw [hbad]; obtain ⟨p1, hbw, hsw⟩ := hp2 _ _ _ hb1; obtain ⟨c0, c1, f0, f1⟩ := two_cells p1; have P1 := hid p1; have hA1 := hA.keep hbw; clear p1 hb1)
        | (go_at_call 99; refine (isRadix_yes r _ h2 h36).mono ?_; rintro e w2 ⟨rfl, rfl⟩)
        | (go_at_call 28; refine (sign_any false aa la ca A _ hA1).mono ?_; rintro e w3 ⟨rfl, rfl⟩; have hbx : Below w.heap.size w (w1.alloc (.cells #[.bool false, .slice aa la ca] 24)) := hbw.trans (((Below.refl _ _).alloc (Nat.le_refl _) _).mono hbw.size); have hA2 := hA1.alloc (.cells #[.bool false, .slice aa la ca] 24); have P2 := hid (hpS (.cells #[.bool false, .slice aa la ca] 24) P1.out); generalize w1.alloc (.cells #[.bool false, .slice aa la ca] 24) = wx at *; obtain ⟨d0, d1, _, _⟩ := two_cells P2.out; clear c0 c1 f0 f1 P1 hA1)
        | (go_at_call 71; refine (trim_any aa la ca A _ hA2).mono ?_; rintro e w3 ⟨rfl, rfl⟩)
        | (go_at_call 106; refine (lowDigits_any aa _ ca _ r _ hA2.tl (tl_top A) HL.out h2 h36).mono ?_; rintro e w4 ⟨v, rfl, hG, hb4⟩; rw [HV.out] at hG; have hGC := hG.bytes; have P3 := hid (heap_keep P2.out hb4); obtain ⟨e0, _, _, _⟩ := two_cells P3.out; have hby := hbx.trans (hb4.mono hbx.size); have hsx := hbx.size; have hsy := hb4.size; clear hG d0 d1 P2 hb4)
        | (go_at_call 107; refine (reverse_any _ _ _ _ hGC (by rw [List.length_map]; exact Nat.le_trans (lowD_len _ _ _) (by omega))).mono ?_; rintro e w6 ⟨rfl, hG6, hb6⟩; obtain ⟨g, cap, rfl, hconv⟩ := hG6.str (HE.out); simp only [List.length_reverse, List.length_map] at hconv; have hbz := hby.trans (hb6.mono hsx)))
      refine bodyPost_ret (v := .tuple #[.string (strOf (txt false r (val A))), .int .i64 0]) (by simp [results, Tryd.results59, go_sem]; rw [HT'.out]) rfl ⟨rfl, hbz⟩
    | true =>
      go_enter Tryd.func59, Tryd.ntmps59
      go_wp2_with (first
        | (go_at_call 77; refine (long1_any _ true aa la ca A _ ((hA.alloc _).alloc _) (by simp [go_sem]) (by simp [go_sem])).mono ?_; rintro e w1 ⟨rfl, hb1⟩; rw [hbad]; obtain ⟨p1, hbw, hsw⟩ := hp2 _ _ _ hb1; obtain ⟨c0, c1, f0, f1⟩ := two_cells p1; have P1 := hid p1; have hA1 := hA.keep hbw; clear p1 hb1)
        | (go_at_call 99; refine (isRadix_yes r _ h2 h36).mono ?_; rintro e w2 ⟨rfl, rfl⟩)
        | (go_at_call 28; refine (sign_any true aa la ca A _ hA1).mono ?_; rintro e w3 ⟨rfl, rfl⟩; have hbx : Below w.heap.size w (w1.alloc (.cells #[.bool true, .slice aa la ca] 24)) := hbw.trans (((Below.refl _ _).alloc (Nat.le_refl _) _).mono hbw.size); have hA2 := hA1.alloc (.cells #[.bool true, .slice aa la ca] 24); have P2 := hid (hpS (.cells #[.bool true, .slice aa la ca] 24) P1.out); generalize w1.alloc (.cells #[.bool true, .slice aa la ca] 24) = wx at *; obtain ⟨d0, d1, _, _⟩ := two_cells P2.out; clear c0 c1 f0 f1 P1 hA1)
        | (go_at_call 71; refine (trim_any aa la ca A _ hA2).mono ?_; rintro e w3 ⟨rfl, rfl⟩)
        | (go_at_call 106; refine (lowDigits_any aa _ ca _ r _ hA2.tl (tl_top A) HL.out h2 h36).mono ?_; rintro e w4 ⟨v, rfl, hG, hb4⟩; rw [HV.out] at hG; have hGC := hG.bytes; have P3 := hid (heap_keep P2.out hb4); obtain ⟨e0, _, _, _⟩ := two_cells P3.out; have hby := hbx.trans (hb4.mono hbx.size); have hsx := hbx.size; have hsy := hb4.size; clear hG d0 d1 P2 hb4)
        | (at_builtin; refine wpList_append_own _ rfl _ _ 117 rfl wx.heap.size 5 i0 (.int .u8 0) 1 1 Tryd.underlying117 hi hz0 hz1 hz2 rfl (by decide) _ _ _ rfl (World.ownsRow.alloc hGC _) ⟨w4.heap.size, 0, none⟩ 1 1 [.int .u8 45] rfl rfl ?c1 ?c2 ?c3 ?c4 ?c5 ?_))
      case c1 =>
        intro j u hj
        match j, hj with
        | 0, hj => simp at hj; subst hj; simp [Addr.add]
      case c2 => intro u hu; simp at hu; subst hu; rfl
      case c3 => have := lowD_len r 4096 (val A); unfold maxLen; simp; omega
      case c4 => have := lowD_len r 4096 (val A); simp; omega
      case c5 => simp; omega
      intro v' w5 hown' hgrow _
      have hG5 : GrowC wx.heap.size w5 v' ((lowD r 4096 (val A)).map dch ++ [45]) := by
        unfold GrowC
        have e : bys ((lowD r 4096 (val A)).map dch ++ [45]) = bys ((lowD r 4096 (val A)).map dch) ++ [.int .u8 45] := by simp [bys]
        rw [e, List.length_append, List.length_map]; exact hown'
      have hb5 : Below w.heap.size w w5 := (hby.alloc (by omega) _).grown hgrow (by simp; omega) (fun k hk => by have := (World.ownsRow.lt hGC k hk).1; omega)
      clear hgrow hown'
      go_wp2_with (go_at_call 107; refine (reverse_any _ _ _ _ hG5 (by rw [List.length_append, List.length_map]; have := lowD_len r 4096 (val A); simp; omega)).mono ?_; rintro e w6 ⟨rfl, hG6, hb6⟩; obtain ⟨g, cap, rfl, hconv⟩ := hG6.str (by simp); simp only [List.length_reverse, List.length_append, List.length_map, List.length_singleton] at hconv; have hbz := hb5.trans (hb6.mono hsx))
      refine bodyPost_ret (v := .tuple #[.string (strOf (txt true r (val A))), .int .i64 0]) (by simp [results, Tryd.results59, go_sem]; rw [HT.out]; simp) rfl ⟨rfl, hbz⟩
end Go.Proofs.YtldafoojkimdeaaDoor

namespace Go.Proofs.YtldafoojkimdeaaDoor
open Go.RowKit Lm

theorem Tryd.underlying22' : Tryd.prog.underlying 22 = some (.slice 43) := Tryd.underlying22

theorem lims_news {w : World} {b off : Nat} {A : List Nat} {la : Nat} (h : ∀ i, i < la → w.cell? ⟨b, off + i, none⟩ = some (.int .u32 (dg A i : Int))) (m : Nat) (hm : m ≤ la) (hA : A.length = la) :
    ∀ j u, (lims (A.take m))[j]? = some u → w.cell? ((⟨b, off, none⟩ : Addr).add j) = some u := by
  intro j u hu
  have hj : j < m := by
    rcases Nat.lt_or_ge j m with h1 | h1
    · exact h1
    · rw [List.getElem?_eq_none (by rw [lims_len, List.length_take]; omega)] at hu; cases hu
  have hadd : (⟨b, off, none⟩ : Addr).add j = ⟨b, off + j, none⟩ := by unfold Addr.add; split <;> simp_all
  rw [hadd, h j (by omega)]
  rw [lims_get _ _ (by rw [List.length_take]; omega), dg_take _ _ _ hj] at hu
  exact hu
theorem lims_one (L : List Nat) : ∀ u ∈ lims L, u.oneCell' = true := by
  intro u hu
  unfold lims at hu
  obtain ⟨x, _, rfl⟩ := List.mem_map.1 hu
  rfl

/-- An empty slice that is not nil. -/
theorem few_made (w : World) : (w.alloc (.cells #[] 43)).drew.ownsRow w.heap.size 43 1 (.slice (some ⟨w.heap.size, 0, none⟩) 0 0) 0 [] :=
  (World.ownsRow_made (base := w.heap.size) (e := 43) (size := 1) w #[] 0 (by simp) (by unfold maxLen; omega) rfl).drew

theorem grown_put (w : World) (p : Addr) (u : Value) : w.grownBy (w.setCell p u) (some p.block) :=
  ⟨rfl, rfl, rfl, by simp, fun k _ hk => heap_setCell_other w p k u (fun e => hk (by simp [e]))⟩
theorem Grow.set {B : Nat} {w : World} {v : Value} {L : List Nat} (h : Grow B w v L) {p : Addr} (hp : v.ownBlock ≠ some p.block) (u : Value) : Grow B (w.setCell p u) v L :=
  World.ownsRow.kept h (grown_put w p u) (.inr hp)

theorem frozen_new (w : World) (k i : Nat) (h : w.heap.size ≤ k) : w.frozen? ⟨k, i, none⟩ = false := by
  simp [World.frozen?, h]

set_option maxRecDepth 100000 in
set_option maxHeartbeats 1000000 in
theorem few_pos (na : Bool) (b off la ca : Nat) (A : List Nat) (n m : Nat) (w : World) (hA : Rd w (some ⟨b, off, none⟩) la ca A) (hcell : Hid (∀ i, i < la → w.cell? ⟨b, off + i, none⟩ = some (.int .u32 (dg A i : Int)))) (h0 : 0 < m) (hm : m ≤ la) (hn : Hid (min n la = m)) (hb : m ≤ 1000) :
    Calls Tryd.prog 65 #[.agg #[.bool na, .slice (some ⟨b, off, none⟩) la ca], .int .i64 (n : Int)] w fun e w' => ∃ ao' cap', e = .returned (.agg #[.bool na, .slice ao' m cap']) ∧ Rd w' ao' m cap' (A.take m) ∧ Below w.heap.size w w' := by
  obtain ⟨i0, hi, hz0, hz1, hz2⟩ := info_parts Tryd.info43
  have hr := hA.room
  have hbw : b < w.heap.size := World.block_lt_of_cell? w _ (hcell.out 0 (by omega))
  have hmin : min (n : Int) (la : Int) = (m : Int) := by have := hn.out; omega
  have hl0 : (0 : Int) ≤ (m : Int) := by omega
  have hl1 : (m : Int) ≤ (ca : Int) := by omega
  go_enter Tryd.func65, Tryd.ntmps65
  go_wp2_with fail
  have hz : ∃ wz, wz = (w.alloc (.cells #[.bool na, .slice (some ⟨b, off, none⟩) la ca] 24)).alloc (.cells #[.bool false, .slice none 0 0] 24) := ⟨_, rfl⟩
  obtain ⟨wz, hz⟩ := hz
  obtain ⟨z0, z1, zf0, zf1⟩ : wz.cell? ⟨w.heap.size, 0, none⟩ = some (.bool na) ∧ wz.cell? ⟨w.heap.size, 1, none⟩ = some (.slice (some ⟨b, off, none⟩) la ca) ∧ wz.frozen? ⟨w.heap.size, 0, none⟩ = false ∧ wz.frozen? ⟨w.heap.size, 1, none⟩ = false :=
    two_cells (by rw [hz]; exact hpS _ (heap_alloc_new w _))
  obtain ⟨y0, y1, yf0, yf1⟩ : wz.cell? ⟨w.heap.size + 1, 0, none⟩ = some (.bool false) ∧ wz.cell? ⟨w.heap.size + 1, 1, none⟩ = some (.slice none 0 0) ∧ wz.frozen? ⟨w.heap.size + 1, 0, none⟩ = false ∧ wz.frozen? ⟨w.heap.size + 1, 1, none⟩ = false :=
    two_cells (by rw [hz]; have := heap_alloc_new (w.alloc (.cells #[.bool na, .slice (some ⟨b, off, none⟩) la ca] 24)) (.cells #[.bool false, .slice none 0 0] 24); simpa using this)
  have hzb : Below w.heap.size w wz := by rw [hz]; exact ((Below.refl _ _).alloc (Nat.le_refl _) _).alloc (by simp) _
  have hzl : w.heap.size + 1 < wz.heap.size := by rw [hz]; simp
  rw [← hz]
  clear hz
  have hcz := fun i hi => (hzb.cell (p := ⟨b, off + i, none⟩) hbw).trans (hcell.out i hi)
  have hbz : Below wz.heap.size wz (wz.alloc (.cells #[] 43)).drew := ((Below.refl _ wz).alloc (Nat.le_refl _) _).drew
  have HN := hid (lims_news (w := (wz.alloc (.cells #[] 43)).drew) (fun i hi => (hbz.cell (p := ⟨b, off + i, none⟩) (World.block_lt_of_cell? wz _ (hcz i hi))).trans (hcz i hi)) m hm hA.size)
  clear hcz hbz
  have n0 := World.new_ne wz _ z0
  have n1 := World.new_ne wz _ z1
  have n2 := World.new_ne wz _ y0
  have n3 := World.new_ne wz _ y1
  have q0 : (wz.alloc (.cells #[] 43)).frozen? ⟨w.heap.size + 1, 0, none⟩ = false := by rw [World.frozen?_alloc_past _ _ _ hzl]; exact yf0
  have q1 : (wz.alloc (.cells #[] 43)).frozen? ⟨w.heap.size + 1, 1, none⟩ = false := by rw [World.frozen?_alloc_past _ _ _ hzl]; exact yf1
  go_region_held3 (fun w' => w'.cell? ⟨w.heap.size, 0, none⟩ = some (.bool na) ∧ w'.cell? ⟨w.heap.size, 1, none⟩ = some (.slice (some ⟨b, off, none⟩) la ca))
    (first
      | go_keep
      | (go_split_ands
         refine ⟨?_, ?_⟩
         · (rw [hgrow.cell_far _ (by simp; omega) (by simp [Value.ownBlock]; omega)]; assumption)
         · (rw [hgrow.cell_far _ (by simp; omega) (by simp [Value.ownBlock]; omega)]; assumption)))
    ((refine step_append_lies _ (by rfl) _ _ _ (by rfl) wz.heap.size 43 i0 _ 1 4 Tryd.underlying22 hi hz0 hz1 hz2 rfl (by omega) (.slice (some ⟨wz.heap.size, 0, none⟩) 0 0) 0 [] (by rfl) (few_made wz)
        ⟨b, off, none⟩ m ca (lims (A.take m)) (by rfl) (by rw [lims_len, List.length_take, hA.size]; omega) HN.out (lims_one _)
        h0 (by unfold maxLen; omega) (by omega) (by simp) (wz.heap.size + 1) (by simp) ?_; intro gg cap w1 hown1 hgrow hat hlt
      have x0 : w1.cell? ⟨w.heap.size + 1, 0, none⟩ = some (.bool false) := by
        rw [hgrow.cell_far _ (by simp; omega) (by simp [Value.ownBlock]; omega)]; simp [World.cell?_alloc_past _ _ _ hzl, y0]
      have x1 : w1.cell? ⟨w.heap.size + 1, 1, none⟩ = some (.slice none 0 0) := by
        rw [hgrow.cell_far _ (by simp; omega) (by simp [Value.ownBlock]; omega)]; simp [World.cell?_alloc_past _ _ _ hzl, y1]
      have xf0 : w1.frozen? ⟨w.heap.size + 1, 0, none⟩ = false := by
        rw [hgrow.frozen_far _ (by simp; omega) (by simp [Value.ownBlock]; omega)]; simpa using q0
      have xf1 : w1.frozen? ⟨w.heap.size + 1, 1, none⟩ = false := by
        rw [hgrow.frozen_far _ (by simp; omega) (by simp [Value.ownBlock]; omega)]; simpa using q1))
  all_goals
    go_wp2
    refine bodyPost_ret (v := .agg #[.bool na, .slice (some ⟨gg, 0, none⟩) m cap]) (by simp [results, Tryd.results65, go_sem, x0, x1]) rfl ?_
    have hs := hA.size
    have hgg : gg ≠ w.heap.size + 1 := by
      rcases hat with h | h
      · simp [Value.ownBlock] at h; omega
      · omega
    have hG : Grow wz.heap.size w1 (.slice (some ⟨gg, 0, none⟩) m cap) (A.take m) := by
      unfold Grow
      rw [Nat.zero_add, List.nil_append] at hown1
      rw [List.length_take, hs, Nat.min_eq_left hm]; exact hown1
    have hG2 := (hG.set (p := ⟨w.heap.size + 1, 0, none⟩) (by simp [Value.ownBlock]; exact hgg) (.bool na)).set (p := ⟨w.heap.size + 1, 1, none⟩) (by simp [Value.ownBlock]; exact hgg) (.slice (some ⟨gg, 0, none⟩) m cap)
    obtain ⟨ao, cap', e, hrd⟩ := hG2.rd (hA.ok.take m) (by rw [List.length_take]; omega)
    simp only [Value.slice.injEq] at e
    obtain ⟨e1, e2, e3⟩ := e
    subst e1; subst e3
    rw [List.length_take, hs, Nat.min_eq_left hm] at hrd
    refine ⟨_, _, rfl, hrd, ?_⟩
    exact ((hzb.trans ((((Below.refl wz.heap.size wz).alloc (Nat.le_refl _) _).drew.grown hgrow (by simp) (fun k hk => by simp [Value.ownBlock] at hk; omega)).mono hzb.size)).setCell (by simp) _).setCell (by simp) _

/-- Nothing is appended, at a step of a region that draws its order. -/
theorem step_append_zero {ops : Array Oper} {o : Oper} {a : Act} {w : World} {K : Act → World → Prop} {Q : Exit → Act → World → Prop} {E : Prop} (hgd : o.guard = none) (s x : Operand)
    (ho : o.op = .call { callee := .builtin .append, args := #[s, x], argTypes := #[22, 22] }) (ao A : Option Addr) (c : Nat) (hs : a.eval s = .slice ao 0 0) (hx : a.eval x = .slice A 0 c)
    (h : K (a.put o.dst (.slice ao 0 0)) w) : if Region.wanted o (yielded ops a.tmps) = true then Oper.wp Tryd.prog o a w K Q else E := by
  have hw : Region.wanted o (yielded ops a.tmps) = true := by simp [Region.wanted, hgd]
  rw [if_pos hw]
  obtain ⟨i0, hi, hz0, hz1, hz2⟩ := info_parts Tryd.info43
  have hS : Src Tryd.prog i0.size 22 (.slice A 0 c) 0 [] w := by
    cases A with
    | none => exact Src.ofNil w Tryd.underlying22 c
    | some ad => exact Src.ofSlice w Tryd.underlying22 ad 0 c [] (by simp) (by simp) (by simp)
  have hr := run_append_nothing (P := Tryd.prog) w 22 22 o.type 43 i0 Tryd.underlying22 hi ao 0 0 (Nat.le_refl _) _ hS
  unfold Oper.wp execOp
  simp only [ho, resolve, invoke, builtin, Sem.run_bind, Sem.run_pure, Result.andThen_ok, List.map_toArray, List.map_cons, List.map_nil, hs, hx, hr]
  exact h

set_option maxRecDepth 100000 in
set_option maxHeartbeats 1000000 in
theorem few_nil (na : Bool) (aa : Option Addr) (ca : Nat) (n : Nat) (w : World) (hn : n ≤ 1000) :
    Calls Tryd.prog 65 #[.agg #[.bool na, .slice aa 0 ca], .int .i64 (n : Int)] w fun e w' => ∃ ao' cap', e = .returned (.agg #[.bool na, .slice ao' 0 cap']) ∧ Below w.heap.size w w' := by
  obtain ⟨i0, hi, hz0, hz1, hz2⟩ := info_parts Tryd.info43
  have hmin : min (n : Int) 0 = 0 := by omega
  have hl1 : (0 : Int) ≤ (ca : Int) := by omega
  cases aa with
  | none =>
    go_enter Tryd.func65, Tryd.ntmps65
    go_wp2_with fail
    go_region_held3 (fun w' => w'.cell? ⟨w.heap.size, 0, none⟩ = some (.bool na) ∧ w'.cell? ⟨w.heap.size, 1, none⟩ = some (.slice none 0 ca))
      (first
        | go_keep)
      ((refine step_append_zero (by rfl) _ _ (by rfl) _ _ _ (by rfl) (by rfl) ?_))
    all_goals
      go_wp2
      refine bodyPost_ret (v := .agg #[.bool na, .slice (some ⟨w.heap.size + 1 + 1, 0, none⟩) 0 0]) (by simp [results, Tryd.results65, go_sem]) rfl ⟨_, _, rfl, ?_⟩
      exact ((((Below.refl _ _).alloc (Nat.le_refl _) _).alloc (by simp) _).alloc (by simp; omega) _).drew
  | some ad =>
    go_enter Tryd.func65, Tryd.ntmps65
    go_wp2_with fail
    go_region_held3 (fun w' => w'.cell? ⟨w.heap.size, 0, none⟩ = some (.bool na) ∧ w'.cell? ⟨w.heap.size, 1, none⟩ = some (.slice (some ad) 0 ca))
      (first
        | go_keep)
      ((refine step_append_zero (by rfl) _ _ (by rfl) _ _ _ (by rfl) (by rfl) ?_))
    all_goals
      go_wp2
      refine bodyPost_ret (v := .agg #[.bool na, .slice (some ⟨w.heap.size + 1 + 1, 0, none⟩) 0 0]) (by simp [results, Tryd.results65, go_sem]) rfl ⟨_, _, rfl, ?_⟩
      exact ((((Below.refl _ _).alloc (Nat.le_refl _) _).alloc (by simp) _).alloc (by simp; omega) _).drew

/-- Both: so many of the lowest limbs. -/
theorem few_any (na : Bool) (aa : Option Addr) (la ca : Nat) (A : List Nat) (n : Nat) (w : World) (hA : Rd w aa la ca A) (hn0 : 0 < n) (hn : n ≤ 1000) :
    Calls Tryd.prog 65 #[.agg #[.bool na, .slice aa la ca], .int .i64 (n : Int)] w fun e w' => ∃ ao' len' cap', e = .returned (.agg #[.bool na, .slice ao' len' cap']) ∧ Rd w' ao' len' cap' (A.take n) ∧ Below w.heap.size w w' := by
  by_cases h0 : min n la = 0
  · have hl : la = 0 := by omega
    subst hl
    have hA0 : A = [] := List.eq_nil_of_length_eq_zero hA.size
    refine (few_nil na aa ca n w hn).mono ?_
    rintro e w' ⟨ao', cap', rfl, hb⟩
    exact ⟨ao', 0, cap', rfl, by subst hA0; exact ⟨by simp, by simpa using Ok.nil, Nat.zero_le _, by omega, fun h => by omega⟩, hb⟩
  · obtain ⟨b, off, rfl, hcell⟩ := hA.cells (by omega)
    refine (few_pos na b off la ca A n (min n la) w hA hcell (by omega) (by omega) rfl (by omega)).mono ?_
    rintro e w' ⟨ao', cap', rfl, hrd, hb⟩
    refine ⟨ao', _, cap', rfl, ?_, hb⟩
    have e1 : A.take (min n la) = A.take n := by rw [← hA.size, ← List.take_take, List.take_length]
    rw [← e1]; exact hrd
end Go.Proofs.YtldafoojkimdeaaDoor

namespace Go.Proofs.YtldafoojkimdeaaDoor
open Go.RowKit Lm

/-- A number that is not too long. -/
def Sm (v : Int) : Prop := bl v.natAbs ≤ 4096
theorem sm_of {v : Int} {k : Nat} (h : v.natAbs < 2 ^ k) (hk : k ≤ 4096) : Sm v := Nat.le_trans ((bl_le _ _).2 h) hk
theorem Sm.short {n : Bool} {A : List Nat} {v : Int} (e : num n A = v) (h : Sm v) : tooLong A = false := by
  unfold tooLong; unfold Sm at h; rw [← e, num_abs] at h; simp; exact h

theorem Num.read {base : Nat} {w : World} {n : Bool} {ao : Option Addr} {len : Nat} {v : Int} (h : Num base w n ao len v) : ∃ C, Rd w ao len len C ∧ num n C = v := by
  obtain ⟨L, h1, _, h3, _⟩ := h.rd
  exact ⟨L, h1, h3⟩
theorem Fits.read {w w' : World} {n : Bool} {ao : Option Addr} {len : Nat} {c v : Int} (h : Fits w w' n ao len c v) (hs : Sm v) : c = 0 ∧ ∃ C, Rd w' ao len len C ∧ num n C = v := by
  rcases h with ⟨_, h1, h2⟩ | ⟨h1, _⟩
  · exact ⟨h1, h2.read⟩
  · unfold Sm at hs; omega

/-- A variable's block that holds a number. -/
def Bx (w : World) (g : Nat) (v : Int) : Prop := ∃ n ao len cap A, w.heap[g]? = some (.cells #[.bool n, .slice ao len cap] 24 (0, 0)) ∧ Rd w ao len cap A ∧ num n A = v

theorem Bx.lt {w : World} {g : Nat} {v : Int} (h : Bx w g v) : g < w.heap.size := by
  obtain ⟨n, ao, len, cap, A, h1, _⟩ := h
  exact lt_of_block h1
theorem Bx.keep {w w' : World} {g : Nat} {v : Int} (h : Bx w g v) (hb : Below w.heap.size w w') : Bx w' g v := by
  obtain ⟨n, ao, len, cap, A, h1, h2, h3⟩ := h
  exact ⟨n, ao, len, cap, A, heap_keep h1 hb, h2.keep hb, h3⟩
theorem Bx.alloc {w : World} {g : Nat} {v : Int} (h : Bx w g v) (o : Obj) : Bx (w.alloc o) g v := h.keep ((Below.refl _ _).alloc (Nat.le_refl _) _)
theorem Bx.drew {w : World} {g : Nat} {v : Int} (h : Bx w g v) : Bx w.drew g v := h.keep (Below.refl _ _).drew
theorem Bx.new {w : World} {n : Bool} {ao : Option Addr} {len cap : Nat} {A : List Nat} {v : Int} (h : Rd w ao len cap A) (e : num n A = v) : Bx (w.alloc (.cells #[.bool n, .slice ao len cap] 24)) w.heap.size v :=
  ⟨n, ao, len, cap, A, heap_alloc_new w _, h.alloc _, e⟩

/-- Limbs lie in no struct's block. -/
theorem Rd.pair24 {w : World} {ao : Option Addr} {len cap : Nat} {A : List Nat} (h : Rd w ao len cap A) {b : Nat} {x y : Value} (hp : w.heap[b]? = some (.cells #[x, y] 24 (0, 0))) (hx : ∀ z, x ≠ .int .u32 z) (hy : ∀ z, y ≠ .int .u32 z) (x' y' : Value) :
    Rd ((w.setCell ⟨b, 0, none⟩ x').setCell ⟨b, 1, none⟩ y') ao len cap A :=
  ⟨h.size, h.ok, h.room, h.most, fun h0 => by
    obtain ⟨g, off, e, hc⟩ := h.cells h0
    refine ⟨g, off, e, fun i hi => ?_⟩
    have hgb : g ≠ b := by
      rintro rfl
      have := hc i hi
      simp [World.cell?, hp] at this
      rcases Nat.lt_or_ge (off + i) 2 with h2 | h2
      · rcases (show off + i = 0 ∨ off + i = 1 by omega) with h3 | h3
        · rw [h3] at this; simp at this; exact hx _ this
        · rw [h3] at this; simp at this; exact hy _ this
      · rw [List.getElem?_eq_none (by simp; omega)] at this; cases this
    rw [World.cell?_setCell_other _ _ _ _ (fun e => hgb (congrArg Addr.block e).symm), World.cell?_setCell_other _ _ _ _ (fun e => hgb (congrArg Addr.block e).symm)]
    exact hc i hi⟩
theorem Bx.put_other {w : World} {g b : Nat} {v u : Int} (h : Bx w g v) (hb : Bx w b u) (hg : g ≠ b) (x' y' : Value) : Bx ((w.setCell ⟨b, 0, none⟩ x').setCell ⟨b, 1, none⟩ y') g v := by
  obtain ⟨n, ao, len, cap, A, h1, h2, h3⟩ := h
  obtain ⟨n', ao', len', cap', A', k1, _⟩ := hb
  exact ⟨n, ao, len, cap, A, heap_set (heap_set h1 hg) hg, h2.pair24 k1 (by simp) (by simp) _ _, h3⟩
theorem Bx.put {w : World} {b : Nat} {u : Int} (hb : Bx w b u) {n : Bool} {ao : Option Addr} {len cap : Nat} {A : List Nat} {v : Int} (h : Rd w ao len cap A) (e : num n A = v) :
    Bx ((w.setCell ⟨b, 0, none⟩ (.bool n)).setCell ⟨b, 1, none⟩ (.slice ao len cap)) b v := by
  obtain ⟨n', ao', len', cap', A', k1, _⟩ := hb
  exact ⟨n, ao, len, cap, A, set_pair k1 _ _, h.pair24 k1 (by simp) (by simp) _ _, e⟩
theorem below_put {B : Nat} {w w' : World} (h : Below B w w') {b : Nat} (hb : B ≤ b) (x' y' : Value) : Below B w ((w'.setCell ⟨b, 0, none⟩ x').setCell ⟨b, 1, none⟩ y') := (h.setCell hb _).setCell hb _

theorem add_ok {na : Bool} {aa : Option Addr} {la ca : Nat} {A : List Nat} {nb : Bool} {ab : Option Addr} {lb cb : Nat} {B : List Nat} {va vb : Int} (w : World) (hA : Rd w aa la ca A) (hB : Rd w ab lb cb B) (ea : num na A = va) (eb : num nb B = vb) (sa : Sm va) (sb : Sm vb) (sr : Sm (va + vb)) :
    Calls Tryd.prog 35 #[.agg #[.bool na, .slice aa la ca], .agg #[.bool nb, .slice ab lb cb]] w fun e w' => ∃ n' ao' len' C, e = .returned (.tuple #[.agg #[.bool n', .slice ao' len' len'], .int .i64 0]) ∧ Rd w' ao' len' len' C ∧ num n' C = va + vb ∧ Below w.heap.size w w' := by
  refine (Add_any na aa la ca A nb ab lb cb B w hA hB).mono ?_
  rintro e w' ⟨n', ao', len', c, rfl, hans, hb⟩
  rw [sa.short ea, sb.short eb, ea, eb] at hans
  rcases hans with ⟨h, _⟩ | ⟨_, hf⟩
  · cases h
  · obtain ⟨rfl, C, h1, h2⟩ := hf.read sr
    exact ⟨n', ao', len', C, rfl, h1, h2, hb⟩
theorem sub_ok {na : Bool} {aa : Option Addr} {la ca : Nat} {A : List Nat} {nb : Bool} {ab : Option Addr} {lb cb : Nat} {B : List Nat} {va vb : Int} (w : World) (hA : Rd w aa la ca A) (hB : Rd w ab lb cb B) (ea : num na A = va) (eb : num nb B = vb) (sa : Sm va) (sb : Sm vb) (sr : Sm (va - vb)) :
    Calls Tryd.prog 36 #[.agg #[.bool na, .slice aa la ca], .agg #[.bool nb, .slice ab lb cb]] w fun e w' => ∃ n' ao' len' C, e = .returned (.tuple #[.agg #[.bool n', .slice ao' len' len'], .int .i64 0]) ∧ Rd w' ao' len' len' C ∧ num n' C = va - vb ∧ Below w.heap.size w w' := by
  refine (Sub_any na aa la ca A nb ab lb cb B w hA hB).mono ?_
  rintro e w' ⟨n', ao', len', c, rfl, hans, hb⟩
  rw [sa.short ea, sb.short eb, ea, eb] at hans
  rcases hans with ⟨h, _⟩ | ⟨_, hf⟩
  · cases h
  · obtain ⟨rfl, C, h1, h2⟩ := hf.read sr
    exact ⟨n', ao', len', C, rfl, h1, h2, hb⟩
theorem mul_ok {na : Bool} {aa : Option Addr} {la ca : Nat} {A : List Nat} {nb : Bool} {ab : Option Addr} {lb cb : Nat} {B : List Nat} {va vb : Int} (w : World) (hA : Rd w aa la ca A) (hB : Rd w ab lb cb B) (ea : num na A = va) (eb : num nb B = vb) (sa : Sm va) (sb : Sm vb) (sr : Sm (va * vb)) :
    Calls Tryd.prog 37 #[.agg #[.bool na, .slice aa la ca], .agg #[.bool nb, .slice ab lb cb]] w fun e w' => ∃ n' ao' len' C, e = .returned (.tuple #[.agg #[.bool n', .slice ao' len' len'], .int .i64 0]) ∧ Rd w' ao' len' len' C ∧ num n' C = va * vb ∧ Below w.heap.size w w' := by
  refine (mul_good na aa la ca A nb ab lb cb B w hA hB (by rw [sa.short ea, sb.short eb]; rfl)).mono ?_
  rintro e w' ⟨n', ao', len', c, rfl, hf, hb⟩
  rw [ea, eb] at hf
  obtain ⟨rfl, C, h1, h2⟩ := hf.read sr
  exact ⟨n', ao', len', C, rfl, h1, h2, hb⟩

set_option maxRecDepth 100000 in
set_option maxHeartbeats 1000000 in
theorem same_yes {na : Bool} {aa : Option Addr} {la ca : Nat} {A : List Nat} {nb : Bool} {ab : Option Addr} {lb cb : Nat} {B : List Nat} (w : World) (c : Int) (hA : Rd w aa la ca A) (hB : Rd w ab lb cb B) (he : num na A = num nb B) :
    Calls Tryd.prog 66 #[.agg #[.bool na, .slice aa la ca], .int .i64 c, .agg #[.bool nb, .slice ab lb cb], .int .i64 c] w fun e w' => e = .returned (.bool true) ∧ Below w.heap.size w w' := by
  have HE := hid he
  have hc : (c == c) = true := by simp
  clear he
  go_enter Tryd.func66, Tryd.ntmps66
  go_wp2_with (go_at_call 30; refine (cmp_any na aa la ca A nb ab lb cb B _ ((hA.alloc _).alloc _) ((hB.alloc _).alloc _)).mono ?_; rintro e w1 ⟨rfl, hb1⟩; rw [HE.out, Int.sub_self])
  go_ret
  exact ⟨by simp, balloc2 hb1⟩
end Go.Proofs.YtldafoojkimdeaaDoor

namespace Go.Proofs.YtldafoojkimdeaaDoor
open Go.RowKit Lm

abbrev Z24 : Obj := .cells #[.bool false, .slice none 0 0] 24

theorem Bx.read_put {w : World} {b : Nat} {u : Int} (hb : Bx w b u) {ao : Option Addr} {len cap : Nat} {A : List Nat} (h : Rd w ao len cap A) (x' y' : Value) : Rd ((w.setCell ⟨b, 0, none⟩ x').setCell ⟨b, 1, none⟩ y') ao len cap A := by
  obtain ⟨n', ao', len', cap', A', k1, _⟩ := hb
  exact h.pair24 k1 (by simp) (by simp) _ _

theorem heap_new2 (w : World) (o1 o2 : Obj) : ((w.alloc o1).alloc o2).heap[w.heap.size + 1]? = some o2 := by
  have := heap_alloc_new (w.alloc o1) o2; simpa using this

theorem sm_small {v : Int} (h1 : -9223372036854775808 ≤ v) (h2 : v ≤ 9223372036854775807) : Sm v := sm_of (k := 64) (by omega) (by decide)

/-- A small whole number has one limb at most; a positive one no sign. -/
theorem num_pos {n : Bool} {A : List Nat} {v : Int} (h : num n A = v) (h0 : 0 < v) : n = false ∧ val A = v.toNat := by
  unfold num at h
  cases n
  · simp at h; exact ⟨rfl, by omega⟩
  · simp at h; omega
theorem from_ok (n : Int) (w : World) (h1 : -9223372036854775808 ≤ n) (h2 : n ≤ 9223372036854775807) :
    Calls Tryd.prog 24 #[.int .i64 n] w fun e w' => ∃ n' ao' len' C, e = .returned (.agg #[.bool n', .slice ao' len' len']) ∧ Rd w' ao' len' len' C ∧ num n' C = n ∧ Below w.heap.size w w' := by
  refine (from_any n w h1 h2).mono ?_
  rintro e w' ⟨n', ao', len', rfl, hn, hb⟩
  obtain ⟨C, h1, h2⟩ := hn.read
  exact ⟨n', ao', len', C, rfl, h1, h2, hb⟩
theorem pow_ok {na : Bool} {aa : Option Addr} {la ca : Nat} {A : List Nat} (w : World) (hA : Rd w aa la ca A) (ea : num na A = 2) :
    Calls Tryd.prog 52 #[.agg #[.bool na, .slice aa la ca], .int .i64 100] w fun e w' => ∃ n' ao' len' C, e = .returned (.tuple #[.agg #[.bool n', .slice ao' len' len'], .int .i64 0]) ∧ Rd w' ao' len' len' C ∧ num n' C = 1267650600228229401496703205376 ∧ Below w.heap.size w w' := by
  refine (pow_good na aa la ca A 100 w hA (by decide) ((sm_small (by decide) (by decide)).short ea)).mono ?_
  rintro e w' ⟨n', ao', len', c, rfl, hf, hb⟩
  have e2 : num na A ^ 100 = 1267650600228229401496703205376 := by rw [ea]; decide
  rw [e2] at hf
  obtain ⟨rfl, C, h1, h2⟩ := hf.read (sm_of (k := 101) (by decide) (by decide))
  exact ⟨n', ao', len', C, rfl, h1, h2, hb⟩
theorem txt100 : strOf (txt false 10 1267650600228229401496703205376) = ⟨#[49, 50, 54, 55, 54, 53, 48, 54, 48, 48, 50, 50, 56, 50, 50, 57, 52, 48, 49, 52, 57, 54, 55, 48, 51, 50, 48, 53, 51, 55, 54]⟩ := by kernel_rfl
theorem text_ok {na : Bool} {aa : Option Addr} {la ca : Nat} {A : List Nat} (w : World) (hA : Rd w aa la ca A) (ea : num na A = 1267650600228229401496703205376) :
    Calls Tryd.prog 59 #[.agg #[.bool na, .slice aa la ca], .int .i64 10] w fun e w' => e = .returned (.tuple #[.string ⟨#[49, 50, 54, 55, 54, 53, 48, 54, 48, 48, 50, 50, 56, 50, 50, 57, 52, 48, 49, 52, 57, 54, 55, 48, 51, 50, 48, 53, 51, 55, 54]⟩, .int .i64 0]) ∧ Below w.heap.size w w' := by
  obtain ⟨hn, hv⟩ := num_pos ea (by decide)
  have h := text_good na aa la ca A 10 w hA (by decide) (by decide) ((sm_of (k := 101) (by decide) (by decide)).short ea)
  rw [hn, hv, show ((1267650600228229401496703205376 : Int).toNat) = 1267650600228229401496703205376 from rfl, txt100] at h
  rw [hn]; exact h
theorem parse_ok (w : World) : Calls Tryd.prog 57 #[.string ⟨#[45, 48, 48, 102, 102]⟩, .int .i64 16] w fun e w' => ∃ n' ao' len' C, e = .returned (.tuple #[.agg #[.bool n', .slice ao' len' len'], .int .i64 0]) ∧ Rd w' ao' len' len' C ∧ num n' C = -255 ∧ Below w.heap.size w w' := by
  refine (parse_good ⟨#[45, 48, 48, 102, 102]⟩ 16 w (by decide) (by decide) (by decide) (by decide) (by decide) (by decide)).mono ?_
  rintro e w' ⟨n', ao', len', c, rfl, hf, hb⟩
  have e2 : sval (signed ⟨#[45, 48, 48, 102, 102]⟩) (dval 16 (bare ⟨#[45, 48, 48, 102, 102]⟩).data.toList) = -255 := by decide
  rw [e2] at hf
  obtain ⟨rfl, C, h1, h2⟩ := hf.read (sm_small (by decide) (by decide))
  exact ⟨n', ao', len', C, rfl, h1, h2, hb⟩
theorem to_ok {n : Bool} {ao : Option Addr} {len cap : Nat} {A : List Nat} (v : Int) (w : World) (h : Rd w ao len cap A) (e : num n A = v) (h1 : as64 v = v) (h2 : fits64 v = true) :
    Calls Tryd.prog 26 #[.agg #[.bool n, .slice ao len cap]] w fun e w' => e = .returned (.tuple #[.int .i64 v, .bool true]) ∧ Below w.heap.size w w' := by
  have := to_any n ao len cap A w h
  rw [e, h1, h2] at this
  exact this
theorem divMod_ok {na : Bool} {aa : Option Addr} {la ca : Nat} {A : List Nat} {nb : Bool} {ab : Option Addr} {lb cb : Nat} {B : List Nat} (w : World) (hA : Rd w aa la ca A) (hB : Rd w ab lb cb B) (ea : num na A = -7) (eb : num nb B = 2) :
    Calls Tryd.prog 42 #[.agg #[.bool na, .slice aa la ca], .agg #[.bool nb, .slice ab lb cb]] w fun e w' => ∃ nq qo ql Q nr ro rl R, e = .returned (.tuple #[.agg #[.bool nq, .slice qo ql ql], .agg #[.bool nr, .slice ro rl rl], .int .i64 0]) ∧
      Rd w' qo ql ql Q ∧ num nq Q = -4 ∧ Rd w' ro rl rl R ∧ num nr R = 1 ∧ Below w.heap.size w w' := by
  obtain ⟨hn, hv⟩ := num_pos eb (by decide)
  refine (divMod_good na aa la ca A nb ab lb cb B w hA hB (by rw [(sm_small (by decide) (by decide)).short ea, (sm_small (by decide) (by decide)).short eb]; rfl) (by rw [hv]; decide) (len_of_bl B 1 (by rw [hv]; decide))).mono ?_
  rintro e w' ⟨nq, qo, ql, nr, ro, rl, q, r, rfl, h1, h2, hf, hb⟩
  rw [ea, eb] at hf
  obtain ⟨f1, f2, f3, f4⟩ := hf
  have f4' := f4 hn
  have hr : r = 1 := by omega
  have hq : q = -4 := by omega
  subst hr; subst hq
  obtain ⟨Q, k1, k2⟩ := h1.read
  obtain ⟨R, k3, k4⟩ := h2.read
  exact ⟨nq, qo, ql, Q, nr, ro, rl, R, rfl, k1, k2, k3, k4, hb⟩

theorem swap3 {a b c d : Prop} (h : a ∧ b ∧ c ∧ d) : a ∧ c ∧ b ∧ d := ⟨h.1, h.2.2.1, h.2.1, h.2.2.2⟩

theorem zero_bx {w : World} {p : Nat} (h : w.heap[p]? = some Z24) : Bx w p 0 := ⟨false, none, 0, 0, [], h, ⟨rfl, Ok.nil, Nat.le_refl _, by omega, fun h => by omega⟩, rfl⟩

section
variable {B : Nat} {w w3 : World} {g p q : Nat} {u v1 v2 z z' : Int} {n1 n2 : Bool} {o1 o2 : Option Addr} {l1 l2 c1 c2 : Nat} {C1 C2 : List Nat}
/-- Two numbers laid in two boxes: both new; one new; none. -/
theorem pairA (hB : Below B w w3) (hs : B ≤ w3.heap.size) (bg : Bx w3 g u) (h1 : Rd w3 o1 l1 c1 C1) (e1 : num n1 C1 = v1) (h2 : Rd w3 o2 l2 c2 C2) (e2 : num n2 C2 = v2) :
    Bx ((w3.alloc (.cells #[.bool n1, .slice o1 l1 c1] 24)).alloc (.cells #[.bool n2, .slice o2 l2 c2] 24)) g u ∧ Bx ((w3.alloc (.cells #[.bool n1, .slice o1 l1 c1] 24)).alloc (.cells #[.bool n2, .slice o2 l2 c2] 24)) w3.heap.size v1 ∧
      Bx ((w3.alloc (.cells #[.bool n1, .slice o1 l1 c1] 24)).alloc (.cells #[.bool n2, .slice o2 l2 c2] 24)) (w3.heap.size + 1) v2 ∧ Below B w ((w3.alloc (.cells #[.bool n1, .slice o1 l1 c1] 24)).alloc (.cells #[.bool n2, .slice o2 l2 c2] 24)) :=
  ⟨(bg.alloc _).alloc _, (Bx.new h1 e1).alloc _, by have := Bx.new (h2.alloc (.cells #[.bool n1, .slice o1 l1 c1] 24)) e2; simpa using this, (hB.alloc hs _).alloc (by simp; omega) _⟩
theorem pairB (hB : Below B w w3) (hs : B ≤ w3.heap.size) (bg : Bx w3 g u) (bp : Bx w3 p z) (hp : B ≤ p) (hg : g ≠ p) (h1 : Rd w3 o1 l1 c1 C1) (e1 : num n1 C1 = v1) (h2 : Rd w3 o2 l2 c2 C2) (e2 : num n2 C2 = v2) :
    Bx (((w3.setCell ⟨p, 0, none⟩ (.bool n1)).setCell ⟨p, 1, none⟩ (.slice o1 l1 c1)).alloc (.cells #[.bool n2, .slice o2 l2 c2] 24)) g u ∧ Bx (((w3.setCell ⟨p, 0, none⟩ (.bool n1)).setCell ⟨p, 1, none⟩ (.slice o1 l1 c1)).alloc (.cells #[.bool n2, .slice o2 l2 c2] 24)) p v1 ∧
      Bx (((w3.setCell ⟨p, 0, none⟩ (.bool n1)).setCell ⟨p, 1, none⟩ (.slice o1 l1 c1)).alloc (.cells #[.bool n2, .slice o2 l2 c2] 24)) w3.heap.size v2 ∧ Below B w (((w3.setCell ⟨p, 0, none⟩ (.bool n1)).setCell ⟨p, 1, none⟩ (.slice o1 l1 c1)).alloc (.cells #[.bool n2, .slice o2 l2 c2] 24)) := by
  have h2' := bp.read_put h2 (.bool n1) (.slice o1 l1 c1)
  exact ⟨(bg.put_other bp hg _ _).alloc _, (bp.put h1 e1).alloc _, by have := Bx.new h2' e2; simpa using this, (below_put hB hp _ _).alloc (by simpa using hs) _⟩
theorem pairC (hB : Below B w w3) (bg : Bx w3 g u) (bp : Bx w3 p z) (hp : B ≤ p) (hg : g ≠ p) (bq : Bx w3 q z') (hq : B ≤ q) (hgq : g ≠ q) (hpq : p ≠ q) (h1 : Rd w3 o1 l1 c1 C1) (e1 : num n1 C1 = v1) (h2 : Rd w3 o2 l2 c2 C2) (e2 : num n2 C2 = v2) :
    Bx ((((w3.setCell ⟨p, 0, none⟩ (.bool n1)).setCell ⟨p, 1, none⟩ (.slice o1 l1 c1)).setCell ⟨q, 0, none⟩ (.bool n2)).setCell ⟨q, 1, none⟩ (.slice o2 l2 c2)) g u ∧ Bx ((((w3.setCell ⟨p, 0, none⟩ (.bool n1)).setCell ⟨p, 1, none⟩ (.slice o1 l1 c1)).setCell ⟨q, 0, none⟩ (.bool n2)).setCell ⟨q, 1, none⟩ (.slice o2 l2 c2)) p v1 ∧
      Bx ((((w3.setCell ⟨p, 0, none⟩ (.bool n1)).setCell ⟨p, 1, none⟩ (.slice o1 l1 c1)).setCell ⟨q, 0, none⟩ (.bool n2)).setCell ⟨q, 1, none⟩ (.slice o2 l2 c2)) q v2 ∧ Below B w ((((w3.setCell ⟨p, 0, none⟩ (.bool n1)).setCell ⟨p, 1, none⟩ (.slice o1 l1 c1)).setCell ⟨q, 0, none⟩ (.bool n2)).setCell ⟨q, 1, none⟩ (.slice o2 l2 c2)) := by
  have h2' := bp.read_put h2 (.bool n1) (.slice o1 l1 c1)
  have bq' := bq.put_other bp (Ne.symm hpq) (.bool n1) (.slice o1 l1 c1)
  exact ⟨(bg.put_other bp hg _ _).put_other bq' hgq _ _, (bp.put h1 e1).put_other bq' hpq _ _, bq'.put h2' e2, below_put (below_put hB hp _ _) hq _ _⟩
end

set_option maxRecDepth 100000 in
set_option maxHeartbeats 2000000 in
theorem awake_yes (w : World) : Calls Tryd.prog 16 #[] w fun e w' => e = .returned (.bool true) ∧ Below w.heap.size w w' := by
  go_enter Tryd.func16, Tryd.ntmps16
  go_upto_region 1 with fail
  go_cut [1] (fun s1 wx => ∃ g1, s1 = .pointer (some ⟨g1, 0, none⟩) ∧ Bx wx g1 (-7) ∧ w.heap.size ≤ g1 ∧ Below w.heap.size w wx)
  case first =>
    go_wp2_with fail
    refine (from_ok _ _ (by omega) (by omega)).mono ?_
    rintro e w1 ⟨n1, ao1, len1, C1, rfl, hR1, hE1, hb1⟩
    have HE1 := hid hE1
    clear hE1
    go_wp2
    go_meet
    exact ⟨_, rfl, Bx.new hR1 HE1.out, hb1.size, hb1.alloc hb1.size _⟩
  case rest =>
    obtain ⟨g1, rfl, b1, hg1, hb1⟩ := hcut
    go_upto_region 2 with fail
    go_cut [2, 3, 4] (fun s2 s3 s4 wx => ∃ g2 g3, s2 = .pointer (some ⟨g2, 0, none⟩) ∧ s3 = .pointer (some ⟨g3, 0, none⟩) ∧ s4 = .int .i64 0 ∧ Bx wx g1 (-7) ∧ Bx wx g2 (-4) ∧ Bx wx g3 1 ∧ Below w.heap.size w wx)
    case first => --R2BEGIN
      have hgl := b1.lt
      have b1' := b1
      obtain ⟨na, aa, la, ca, A, hH, hR, hE⟩ := b1'
      obtain ⟨a0, a1, _, _⟩ := two_cells hH
      have HE := hid hE
      have HH := hid hH
      have hs1 := hb1.size
      have nC : wc.heap.size ≠ g1 := by omega
      have nD : wc.heap.size + 1 ≠ g1 := by omega
      have HHD := hid (show wc.drew.heap[g1]? = some (.cells #[.bool na, .slice aa la ca] 24 (0, 0)) from hH)
      clear hE hH
      go_wp2_with fail
      go_region_held3 (fun w' => w'.cell? ⟨g1, 0, none⟩ = some (.bool na) ∧ w'.cell? ⟨g1, 1, none⟩ = some (.slice aa la ca))
        (first
          | go_keep
          | (with_reducible exact ⟨c2, d2⟩)
          | (with_reducible exact ⟨c2, d2⟩)
          | (with_reducible exact ⟨c3, d3⟩))
        ((first
          | (go_at_call 24; (with_reducible refine (from_ok 2 wc.drew (by omega) (by omega)).mono ?_); rintro e w2 ⟨n2, ao2, len2, C2, rfl, hR2, hE2, hb2⟩; have hA2 := hR.drew.keep hb2; have HE2 := hid hE2; have B1 := b1.drew.keep hb2; have H2 := hid (heap_keep HHD.out hb2); have c2 := (two_cells H2.out).1; have d2 := (two_cells H2.out).2.1; have hbx := hb1.drew.trans (hb2.mono (by simp; omega)); have hwl := Nat.lt_of_lt_of_le hgl hb2.size; have nA : w2.heap.size ≠ g1 := (by have := hb2.size; simp at this; omega); have nB : w2.heap.size + 1 ≠ g1 := (by have := hb2.size; simp at this; omega); clear hE2)
          | (go_at_call 24; (with_reducible refine (from_ok 2 (wc.alloc Z24).drew (by omega) (by omega)).mono ?_); rintro e w2 ⟨n2, ao2, len2, C2, rfl, hR2, hE2, hb2⟩; have hb2 : Below (wc.drew.alloc Z24).heap.size (wc.drew.alloc Z24) w2 := hb2; have hA2 := (hR.drew.alloc _).keep hb2; have HE2 := hid hE2; have B1 := (b1.drew.alloc _).keep hb2; have H2 := hid (heap_keep (hpS Z24 HHD.out) hb2); have c2 := (two_cells H2.out).1; have d2 := (two_cells H2.out).2.1; have hbx := (hb1.drew.alloc hs1 _).trans (hb2.mono (by simp; omega)); have nA : w2.heap.size ≠ g1 := (by have := hb2.size; simp at this; omega); have nB : w2.heap.size + 1 ≠ g1 := (by have := hb2.size; simp at this; omega); clear hE2; have Z0 : Hid (w2.heap[wc.heap.size]? = some Z24) := hid (heap_keep (heap_alloc_new wc.drew Z24) hb2); have hz0 := lt_of_block Z0.out; have nE : wc.heap.size ≠ w2.heap.size := (by omega); have nF : w2.heap.size ≠ wc.heap.size := (by omega))
          | (go_at_call 24; (with_reducible refine (from_ok 2 ((wc.alloc Z24).alloc Z24).drew (by omega) (by omega)).mono ?_); rintro e w2 ⟨n2, ao2, len2, C2, rfl, hR2, hE2, hb2⟩; have hb2 : Below ((wc.drew.alloc Z24).alloc Z24).heap.size ((wc.drew.alloc Z24).alloc Z24) w2 := hb2; have hA2 := ((hR.drew.alloc _).alloc _).keep hb2; have HE2 := hid hE2; have B1 := ((b1.drew.alloc _).alloc _).keep hb2; have H2 := hid (heap_keep (hpS Z24 (hpS Z24 HHD.out)) hb2); have c2 := (two_cells H2.out).1; have d2 := (two_cells H2.out).2.1; have hbx := ((hb1.drew.alloc hs1 _).alloc (by simp; omega) _).trans (hb2.mono (by simp; omega)); have nA : w2.heap.size ≠ g1 := (by have := hb2.size; simp at this; omega); have nB : w2.heap.size + 1 ≠ g1 := (by have := hb2.size; simp at this; omega); clear hE2; have Z0 : Hid (w2.heap[wc.heap.size]? = some Z24) := hid (heap_keep (hpS Z24 (heap_alloc_new wc.drew Z24)) hb2); have Z1 : Hid (w2.heap[wc.heap.size + 1]? = some Z24) := hid (heap_keep (heap_new2 wc.drew Z24 Z24) hb2); have hz0 := lt_of_block Z0.out; have nE : wc.heap.size ≠ w2.heap.size := (by omega); have nF : w2.heap.size ≠ wc.heap.size := (by omega); have hz1 := lt_of_block Z1.out)
          | (go_at_call 42; (with_reducible refine (divMod_ok w2 hA2 hR2 HE.out HE2.out).mono ?_); rintro e w3 ⟨nq, qo, ql, Q, nr, ro, rl, R, rfl, k1, k2, k3, k4, hb3⟩; have K2 := hid k2; have K4 := hid k4; have H3 := hid (heap_keep H2.out hb3); have c3 := (two_cells H3.out).1; have d3 := (two_cells H3.out).2.1; have hby := hbx.trans (hb3.mono (by have := hbx.size; simp; omega)); have B2 := B1.keep hb3; have n0 := World.new_ne w3 _ c3; have n1 := World.new_ne w3 _ d3; clear k2 k4; (try (have Z0' := hid (heap_keep Z0.out hb3); obtain ⟨z0, z1, z2, z3⟩ := two_cells Z0'.out; have hz03 := lt_of_block Z0'.out)); (try (have Z1' := hid (heap_keep Z1.out hb3); obtain ⟨z4, z5, z6, z7⟩ := two_cells Z1'.out; have hz13 := lt_of_block Z1'.out)))
          | (go_at_call 42; (with_reducible refine (divMod_ok (w2.alloc Z24) (hA2.alloc _) (hR2.alloc _) HE.out HE2.out).mono ?_); rintro e w3 ⟨nq, qo, ql, Q, nr, ro, rl, R, rfl, k1, k2, k3, k4, hb3⟩; have K2 := hid k2; have K4 := hid k4; have H3 := hid (heap_keep (hpS Z24 H2.out) hb3); have c3 := (two_cells H3.out).1; have d3 := (two_cells H3.out).2.1; have hby := (hbx.alloc hbx.size _).trans (hb3.mono (by have := hbx.size; simp; omega)); have B2 := (B1.alloc _).keep hb3; have n0 := World.new_ne w3 _ c3; have n1 := World.new_ne w3 _ d3; clear k2 k4; have Y0 := hid (heap_keep (heap_alloc_new w2 Z24) hb3); obtain ⟨y0, y1, y2, y3⟩ := two_cells Y0.out; have hy0 := lt_of_block Y0.out; (try (have Z0' := hid (heap_keep (hpS Z24 Z0.out) hb3); obtain ⟨z0, z1, z2, z3⟩ := two_cells Z0'.out; have hz03 := lt_of_block Z0'.out)); (try (have Z1' := hid (heap_keep (hpS Z24 Z1.out) hb3); obtain ⟨z4, z5, z6, z7⟩ := two_cells Z1'.out; have hz13 := lt_of_block Z1'.out)))
          | (go_at_call 42; (with_reducible refine (divMod_ok ((w2.alloc Z24).alloc Z24) ((hA2.alloc _).alloc _) ((hR2.alloc _).alloc _) HE.out HE2.out).mono ?_); rintro e w3 ⟨nq, qo, ql, Q, nr, ro, rl, R, rfl, k1, k2, k3, k4, hb3⟩; have K2 := hid k2; have K4 := hid k4; have H3 := hid (heap_keep (hpS Z24 (hpS Z24 H2.out)) hb3); have c3 := (two_cells H3.out).1; have d3 := (two_cells H3.out).2.1; have hby := ((hbx.alloc hbx.size _).alloc (by have := hbx.size; simp; omega) _).trans (hb3.mono (by have := hbx.size; simp; omega)); have B2 := ((B1.alloc _).alloc _).keep hb3; have n0 := World.new_ne w3 _ c3; have n1 := World.new_ne w3 _ d3; clear k2 k4; have Y0 := hid (heap_keep (hpS Z24 (heap_alloc_new w2 Z24)) hb3); have Y1 := hid (heap_keep (heap_new2 w2 Z24 Z24) hb3); obtain ⟨y0, y1, y2, y3⟩ := two_cells Y0.out; obtain ⟨y4, y5, y6, y7⟩ := two_cells Y1.out; have hy0 := lt_of_block Y0.out; have hy1 := lt_of_block Y1.out; (try (have Z0' := hid (heap_keep (hpS Z24 (hpS Z24 Z0.out)) hb3); obtain ⟨z0, z1, z2, z3⟩ := two_cells Z0'.out; have hz03 := lt_of_block Z0'.out)); (try (have Z1' := hid (heap_keep (hpS Z24 (hpS Z24 Z1.out)) hb3); obtain ⟨z4, z5, z6, z7⟩ := two_cells Z1'.out; have hz13 := lt_of_block Z1'.out)))))
      all_goals
        go_wp2
        go_meet
        have hsy := hby.size
        (try have bz0 := zero_bx Z0'.out)
        (try have bz1 := zero_bx Z1'.out)
        (try have by0 := zero_bx Y0.out)
        (try have by1 := zero_bx Y1.out)
        have hl2 : w.heap.size ≤ w2.heap.size := hbx.size
        have i1 : w.heap.size ≤ w2.heap.size := hl2
        have i2 : w.heap.size ≤ w2.heap.size + 1 := by omega
        have i3 : w.heap.size ≤ wc.heap.size := hs1
        have i4 : w.heap.size ≤ wc.heap.size + 1 := by omega
        have m1 : g1 ≠ w2.heap.size := by omega
        have m2 : g1 ≠ w2.heap.size + 1 := by omega
        have m3 : g1 ≠ wc.heap.size := by omega
        have m4 : g1 ≠ wc.heap.size + 1 := by omega
        have k12 : w2.heap.size ≠ w2.heap.size + 1 := by omega
        have k21 : w2.heap.size + 1 ≠ w2.heap.size := by omega
        have k34 : wc.heap.size ≠ wc.heap.size + 1 := by omega
        have k43 : wc.heap.size + 1 ≠ wc.heap.size := by omega
        with_reducible refine ⟨_, _, rfl, rfl, rfl, ?_⟩
        first
          | (with_reducible exact pairA hby hsy B2 k1 K2.out k3 K4.out)
          | (with_reducible refine swap3 (pairA hby hsy B2 k3 K4.out k1 K2.out))
          | (with_reducible exact pairB hby hsy B2 by0 i1 m1 k1 K2.out k3 K4.out)
          | (with_reducible refine swap3 (pairB hby hsy B2 by0 i1 m1 k3 K4.out k1 K2.out))
          | (with_reducible exact pairB hby hsy B2 bz0 i3 m3 k1 K2.out k3 K4.out)
          | (with_reducible refine swap3 (pairB hby hsy B2 bz0 i3 m3 k3 K4.out k1 K2.out))
          | (with_reducible exact pairC hby B2 by0 i1 m1 by1 i2 m2 k12 k1 K2.out k3 K4.out)
          | (with_reducible refine swap3 (pairC hby B2 by0 i1 m1 by1 i2 m2 k12 k3 K4.out k1 K2.out))
          | (with_reducible exact pairC hby B2 by1 i2 m2 by0 i1 m1 k21 k1 K2.out k3 K4.out)
          | (with_reducible refine swap3 (pairC hby B2 by1 i2 m2 by0 i1 m1 k21 k3 K4.out k1 K2.out))
          | (with_reducible exact pairC hby B2 bz0 i3 m3 by0 i1 m1 nE k1 K2.out k3 K4.out)
          | (with_reducible refine swap3 (pairC hby B2 bz0 i3 m3 by0 i1 m1 nE k3 K4.out k1 K2.out))
          | (with_reducible exact pairC hby B2 by0 i1 m1 bz0 i3 m3 nF k1 K2.out k3 K4.out)
          | (with_reducible refine swap3 (pairC hby B2 by0 i1 m1 bz0 i3 m3 nF k3 K4.out k1 K2.out))
          | (with_reducible exact pairC hby B2 bz0 i3 m3 bz1 i4 m4 k34 k1 K2.out k3 K4.out)
          | (with_reducible refine swap3 (pairC hby B2 bz0 i3 m3 bz1 i4 m4 k34 k3 K4.out k1 K2.out))
          | (with_reducible exact pairC hby B2 bz1 i4 m4 bz0 i3 m3 k43 k1 K2.out k3 K4.out)
          | (with_reducible refine swap3 (pairC hby B2 bz1 i4 m4 bz0 i3 m3 k43 k3 K4.out k1 K2.out))
          | trace_state
    --R2END
    case rest =>
      obtain ⟨g2, g3, rfl, rfl, rfl, b1, b2, b3, hb1⟩ := hcut
      go_upto_region 3 with fail
      go_cut [5, 6] (fun s5 s6 wx => ∃ g5, s5 = .pointer (some ⟨g5, 0, none⟩) ∧ s6 = .int .i64 0 ∧ Bx wx g1 (-7) ∧ Bx wx g2 (-4) ∧ Bx wx g3 1 ∧ Bx wx g5 1267650600228229401496703205376 ∧ Below w.heap.size w wx)
      case first =>
        go_wp2_with fail
        refine (from_ok _ _ (by omega) (by omega)).mono ?_
        rintro e w1 ⟨n1, ao1, len1, C1, rfl, hR1, hE1, hb2⟩
        have HE1 := hid hE1
        clear hE1
        go_wp2_with fail
        refine (pow_ok _ hR1 HE1.out).mono ?_
        rintro e w2 ⟨n2, ao2, len2, C2, rfl, hR2, hE2, hb3⟩
        have HE2 := hid hE2
        clear hE2
        go_wp2
        go_meet
        have hc1 := hb1.trans (hb2.mono hb1.size)
        have hc2 := hc1.trans (hb3.mono hc1.size)
        exact ⟨_, rfl, rfl, ((b1.keep hb2).keep hb3).alloc _, ((b2.keep hb2).keep hb3).alloc _, ((b3.keep hb2).keep hb3).alloc _, Bx.new hR2 HE2.out, hc2.alloc hc2.size _⟩
      case rest =>
        obtain ⟨g5, rfl, rfl, b1, b2, b3, b5, hb1⟩ := hcut
        go_upto_region 4 with fail
        go_cut [7, 8] (fun s7 s8 wx => s7 = .string ⟨#[49, 50, 54, 55, 54, 53, 48, 54, 48, 48, 50, 50, 56, 50, 50, 57, 52, 48, 49, 52, 57, 54, 55, 48, 51, 50, 48, 53, 51, 55, 54]⟩ ∧ s8 = .int .i64 0 ∧ Bx wx g1 (-7) ∧ Bx wx g2 (-4) ∧ Bx wx g3 1 ∧ Bx wx g5 1267650600228229401496703205376 ∧ Below w.heap.size w wx)
        case first =>
          have b5' := b5
          obtain ⟨na, aa, la, ca, A, hH, hR, hE⟩ := b5'
          obtain ⟨a0, a1, _, _⟩ := two_cells hH
          have HE := hid hE
          clear hE hH
          go_wp2_with fail
          refine (text_ok _ hR HE.out).mono ?_
          rintro e w2 ⟨rfl, hb2⟩
          go_wp2
          go_meet
          exact ⟨rfl, rfl, b1.keep hb2, b2.keep hb2, b3.keep hb2, b5.keep hb2, hb1.trans (hb2.mono hb1.size)⟩
        case rest =>
          obtain ⟨rfl, rfl, b1, b2, b3, b5, hb1⟩ := hcut
          go_upto_region 5 with fail
          go_cut [9, 10] (fun s9 s10 wx => ∃ g9, s9 = .pointer (some ⟨g9, 0, none⟩) ∧ s10 = .int .i64 0 ∧ Bx wx g1 (-7) ∧ Bx wx g2 (-4) ∧ Bx wx g3 1 ∧ Bx wx g5 1267650600228229401496703205376 ∧ Bx wx g9 (-255) ∧ Below w.heap.size w wx)
          case first =>
            go_wp2_with fail
            refine (parse_ok _).mono ?_
            rintro e w2 ⟨n2, ao2, len2, C2, rfl, hR2, hE2, hb2⟩
            have HE2 := hid hE2
            clear hE2
            go_wp2
            go_meet
            have hc1 := hb1.trans (hb2.mono hb1.size)
            exact ⟨_, rfl, rfl, (b1.keep hb2).alloc _, (b2.keep hb2).alloc _, (b3.keep hb2).alloc _, (b5.keep hb2).alloc _, Bx.new hR2 HE2.out, hc1.alloc hc1.size _⟩
          case rest =>
            obtain ⟨g9, rfl, rfl, b1, b2, b3, b5, b9, hb1⟩ := hcut
            go_upto_region 6 with fail
            go_cut [11, 12] (fun s11 s12 wx => s11 = .int .i64 (-4) ∧ s12 = .bool true ∧ Bx wx g1 (-7) ∧ Bx wx g3 1 ∧ Bx wx g5 1267650600228229401496703205376 ∧ Bx wx g9 (-255) ∧ Below w.heap.size w wx)
            case first =>
              have b2' := b2
              obtain ⟨na, aa, la, ca, A, hH, hR, hE⟩ := b2'
              obtain ⟨a0, a1, _, _⟩ := two_cells hH
              have HE := hid hE
              clear hE hH
              go_wp2_with fail
              refine (to_ok (-4) _ hR HE.out (by decide) (by decide)).mono ?_
              rintro e w2 ⟨rfl, hb2⟩
              go_wp2
              go_meet
              exact ⟨rfl, rfl, b1.keep hb2, b3.keep hb2, b5.keep hb2, b9.keep hb2, hb1.trans (hb2.mono hb1.size)⟩
            case rest =>
              obtain ⟨rfl, rfl, b1, b3, b5, b9, hb1⟩ := hcut
              go_upto_region 7 with fail
              go_cut [13, 14] (fun s13 s14 wx => s13 = .int .i64 (-255) ∧ s14 = .bool true ∧ Bx wx g1 (-7) ∧ Bx wx g3 1 ∧ Bx wx g5 1267650600228229401496703205376 ∧ Below w.heap.size w wx)
              case first =>
                have b9' := b9
                obtain ⟨na, aa, la, ca, A, hH, hR, hE⟩ := b9'
                obtain ⟨a0, a1, _, _⟩ := two_cells hH
                have HE := hid hE
                clear hE hH
                go_wp2_with fail
                refine (to_ok (-255) _ hR HE.out (by decide) (by decide)).mono ?_
                rintro e w2 ⟨rfl, hb2⟩
                go_wp2
                go_meet
                exact ⟨rfl, rfl, b1.keep hb2, b3.keep hb2, b5.keep hb2, hb1.trans (hb2.mono hb1.size)⟩
              case rest =>
                obtain ⟨rfl, rfl, b1, b3, b5, hb1⟩ := hcut
                have b1' := b1
                have b3' := b3
                have b5' := b5
                obtain ⟨n1, ao1, l1, k1, A1, hH1, hR1, hE1⟩ := b1'
                obtain ⟨n3, ao3, l3, k3, A3, hH3, hR3, hE3⟩ := b3'
                obtain ⟨n5, ao5, l5, k5, A5, hH5, hR5, hE5⟩ := b5'
                obtain ⟨c10, c11, _, _⟩ := two_cells hH1
                obtain ⟨c30, c31, _, _⟩ := two_cells hH3
                obtain ⟨c50, c51, _, _⟩ := two_cells hH5
                have HE1 := hid hE1
                have HE3 := hid hE3
                have HE5 := hid hE5
                have HH1 := hid (show wc.drew.heap[g1]? = _ from hH1)
                have HH3 := hid (show wc.drew.heap[g3]? = _ from hH3)
                have HH5 := hid (show wc.drew.heap[g5]? = _ from hH5)
                have hbd := hb1.drew
                have Hb5 : Hid (bl (val A5) = 101) := hid (by
                  obtain ⟨_, h2⟩ := num_pos hE5 (by decide)
                  rw [h2]; exact bl_unique (by decide) (by decide))
                clear hE1 hE3 hE5 hH1 hH3 hH5 b1 b3 b5
                go_wp2_with fail
                go_region_held3 (fun w' => w'.cell? ⟨g1, 0, none⟩ = some (.bool n1) ∧ w'.cell? ⟨g1, 1, none⟩ = some (.slice ao1 l1 k1) ∧ w'.cell? ⟨g3, 0, none⟩ = some (.bool n3) ∧ w'.cell? ⟨g3, 1, none⟩ = some (.slice ao3 l3 k3) ∧ w'.cell? ⟨g5, 0, none⟩ = some (.bool n5) ∧ w'.cell? ⟨g5, 1, none⟩ = some (.slice ao5 l5 k5))
                  (first
                    | go_keep
                    | (with_reducible exact ⟨(two_cells K1.out).1, (two_cells K1.out).2.1, (two_cells K3.out).1, (two_cells K3.out).2.1, (two_cells K5.out).1, (two_cells K5.out).2.1⟩)
                    | (with_reducible exact ⟨(two_cells J1.out).1, (two_cells J1.out).2.1, (two_cells J3.out).1, (two_cells J3.out).2.1, (two_cells J5.out).1, (two_cells J5.out).2.1⟩)
                    | (with_reducible exact ⟨(two_cells I1.out).1, (two_cells I1.out).2.1, (two_cells I3.out).1, (two_cells I3.out).2.1, (two_cells I5.out).1, (two_cells I5.out).2.1⟩)
                    | (with_reducible exact ⟨(two_cells L1.out).1, (two_cells L1.out).2.1, (two_cells L3.out).1, (two_cells L3.out).2.1, (two_cells L5.out).1, (two_cells L5.out).2.1⟩))
                  ((first
                    | (go_at_call 24; (with_reducible refine (from_ok 1 wc.drew (by omega) (by omega)).mono ?_); rintro e w2 ⟨n2, ao2, len2, C2, rfl, hR2, hE2, hb2⟩; have HE2 := hid hE2; have K1 := hid (heap_keep HH1.out hb2); have K3 := hid (heap_keep HH3.out hb2); have K5 := hid (heap_keep HH5.out hb2); have hr1 := hR1.drew.keep hb2; have hr3 := hR3.drew.keep hb2; have hr5 := hR5.drew.keep hb2; have hbx := hbd.trans (hb2.mono hbd.size); clear hE2)
                    | (go_at_call 30; (with_reducible refine (cmp_any n3 ao3 l3 k3 A3 n2 ao2 len2 len2 C2 w2 hr3 hR2).mono ?_); rintro e w3 ⟨rfl, hb3⟩; rw [HE3.out, HE2.out, show Int.sign (1 - 1) = 0 from rfl]; have J1 := hid (heap_keep K1.out hb3); have J3 := hid (heap_keep K3.out hb3); have J5 := hid (heap_keep K5.out hb3); have hq1 := hr1.keep hb3; have hq5 := hr5.keep hb3; have hby := hbx.trans (hb3.mono hbx.size))
                    | (go_at_call 28; (with_reducible refine (sign_any n1 ao1 l1 k1 A1 w3 hq1).mono ?_); rintro e w4 ⟨rfl, hw4⟩; rw [HE1.out, show Int.sign (-7) = -1 from rfl]; have hb4 : Below w3.heap.size w3 w4 := (by rw [← hw4]; exact (Below.refl _ _).alloc (Nat.le_refl _) _); clear hw4; have I1 := hid (heap_keep J1.out hb4); have I3 := hid (heap_keep J3.out hb4); have I5 := hid (heap_keep J5.out hb4); have hp5 := hq5.keep hb4; have hbz := hby.trans (hb4.mono hby.size))
                    | (go_at_call 32; (with_reducible refine (bits_any n5 ao5 l5 k5 A5 w4 hp5).mono ?_); rintro e w5 ⟨rfl, hb5⟩; rw [Hb5.out]; have L1 := hid (heap_keep I1.out hb5); have L3 := hid (heap_keep I3.out hb5); have L5 := hid (heap_keep I5.out hb5); have hbu := hbz.trans (hb5.mono hbz.size))))
                all_goals
                  go_wp2
                  go_ret
                  exact ⟨rfl, hbu⟩
end Go.Proofs.YtldafoojkimdeaaDoor
