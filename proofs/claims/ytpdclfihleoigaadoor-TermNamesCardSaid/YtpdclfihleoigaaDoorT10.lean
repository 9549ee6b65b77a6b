/- Walks: Variables. No condition but those that each theorem names. -/
import Derived.Test.YtpdclfihleoigaaDoorT9
import Derived.Laws.EntriesVeiled
namespace Go.Proofs.YtpdclfihleoigaaDoor
open Go.RowKit Go.Maps

theorem rowI_base {w : World} {B b n : Nat} {v : Value} {xs : List Value} (h : w.ownsRow B 3 1 v n xs) (hb : b ≤ B) : w.ownsRow b 3 1 v n xs := by
  refine ⟨h.1, ?_⟩
  rcases h.2 with h | ⟨g, cap, cur, h1, h2, h3⟩
  · exact .inl h
  · exact .inr ⟨g, cap, cur, h1, Nat.le_trans hb h2, h3⟩
section
variable (vn vi : ByteArray → Bool) (vb : Int → Bool) (D : Tm → Prop)
set_option maxRecDepth 100000 in
set_option maxHeartbeats 4000000 in
theorem variables_bad (l : List Tm) (p : Option Addr) (cap : Nat) (w : World) (hlen : l.length ≤ maxLen) (hR : l = [] ∨ ∃ b o, p = some ⟨b, o, none⟩ ∧ RowT w l b o) (hO : Oracle vn vi vb D w) (hD : AllR D l) (he : checksErr vn vi vb l ≠ 0) :
    Calls Tryd.prog 17 #[.slice p l.length cap] w fun e w' => e = .returned (.tuple #[.slice none 0 0, .int .i64 (checksErr vn vi vb l)]) ∧ Below w.heap.size w w' := by
  have C := hid (checks_any vn vi vb D l p cap w hlen hR hO hD)
  generalize checksErr vn vi vb l = y at *
  have hq : (y == 0) = false := beq_eq_false_iff_ne.2 he
  have hq2 : (y != 0) = true := by simp [he]
  clear he hR hO hD
  go_enter Tryd.func17, Tryd.ntmps17
  go_wp2_with (go_at_call 26; (with_reducible refine C.out.mono ?_); rintro e w1 ⟨rfl, hb1⟩; have B1 := hid hb1; clear hb1 C)
  go_ret2
  exact ⟨rfl, B1.out⟩
set_option maxRecDepth 100000 in
set_option maxHeartbeats 4000000 in
theorem variables_good (l : List Tm) (p : Option Addr) (cap : Nat) (w : World) (hlen : l.length ≤ maxLen) (hR : l = [] ∨ ∃ b o, p = some ⟨b, o, none⟩ ∧ RowT w l b o) (hO : Oracle vn vi vb D w) (hD : AllR D l) (he : checksErr vn vi vb l = 0) (hV : AllR VarOk l) (hsz : (nodesL l + 1) * 8 ≤ 140737488351232) :
    Calls Tryd.prog 17 #[.slice p l.length cap] w fun e w' => ∃ v, e = .returned (.tuple #[v, .int .i64 0]) ∧ w'.ownsRow w.heap.size 3 1 v (varsR l []).length (ints (varsR l [])) ∧ Below w.heap.size w w' := by
  have C := checks_any vn vi vb D l p cap w hlen hR hO hD
  rw [he] at C
  have HC := hid C
  have HR := hid hR
  have HVA := hid (fun k hk => hV.get (l := l) k hk)
  have HTK := hid (fun k hk => varsR_take [] l k hk)
  have HTL := hid (fun k (hk : k < l.length) => nodesL_take l k hk)
  have HLE := hid (nodesL_take_le l)
  have HVL := hid (fun k => varsR_length (l.take k) [])
  have hmm := @run_makeMap Tryd.prog
  clear C he hR hO hD hV
  unfold maxLen at hlen
  go_enter Tryd.func17, Tryd.ntmps17
  go_wp2_with (first
    | (go_at_call 26; (with_reducible refine HC.out.mono ?_); rintro e w1 ⟨rfl, hb1⟩; have B1 := hid hb1; clear hb1 HC)
    | (go_at_call 28; (with_reducible refine (numbering_any _).mono ?_); rintro e w2 ⟨rfl, hw2⟩; have HW2 := hid hw2; clear hw2))
  obtain ⟨W3, hW3⟩ : ∃ W3, W3 = w2.alloc (.cells #[.func (.func 37) #[] #[.pointer (some ⟨w1.heap.size + 1 + 1, 0, none⟩)]] 48) := ⟨_, rfl⟩
  rw [← hW3]
  have e2 := HW2.out
  have z0 : (w1.alloc (.cells #[.slice none 0 0] 39)).heap.size = w1.heap.size + 1 := by simp
  rw [z0] at e2
  have hs2 : w2.heap.size = w1.heap.size + 3 := by rw [e2]; simp
  have n1 := Nums.made (w1.alloc (.cells #[.slice none 0 0] 39))
  rw [z0] at n1
  have g1 := World.alloc_heap_new ((w1.alloc (.cells #[.slice none 0 0] 39)).alloc (.map #[] 0)) (.cells #[.map (some (w1.heap.size + 1))] 58)
  rw [← e2, World.size_alloc, z0] at g1
  have hb3 : Below w2.heap.size w2 W3 := by rw [hW3]; exact (Below.refl _ _).alloc (Nat.le_refl _) _
  have hb2a : Below w1.heap.size w1 (w1.alloc (.cells #[.slice none 0 0] 39)) := (Below.refl _ _).alloc (Nat.le_refl _) _
  have hb2b : Below (w1.heap.size + 1) (w1.alloc (.cells #[.slice none 0 0] 39)) w2 := by rw [e2]; exact ((Below.refl _ _).alloc (by simp) _).alloc (by simp) _
  have hb2 : Below w1.heap.size w1 w2 := hb2a.trans (hb2b.mono (by omega))
  have hb13 : Below w1.heap.size w1 W3 := hb2.trans (hb3.mono (by omega))
  have V0 : VarSt W3 w1.heap.size (w1.heap.size + 1 + 1) (w1.heap.size + 1) w2.heap.size (w2.heap.size + 1) [] := by
    refine ⟨?_, ?_, ?_, ⟨.slice none 0 0, ?_, World.ownsRow_nil _ _ _ _⟩, by omega, by omega, by omega, by omega, ?_⟩
    · rw [hW3]; exact (cells_of (World.alloc_heap_new w2 _) 0).trans rfl
    · exact heap_cell_keep hb3 ((cells_of g1 0).trans rfl)
    · refine Nums.keep ?_ hb3
      rw [e2]
      exact n1.keep ((Below.refl _ _).alloc (Nat.le_refl _) _)
    · have h : Boxed (w1.alloc (.cells #[.slice none 0 0] 39)) w1.heap.size 39 (.slice none 0 0) := Boxed.new w1 _ _
      have h2 : Boxed w2 w1.heap.size 39 (.slice none 0 0) := (hb2b.block _ (by omega)).trans h
      exact (hb3.block _ (by omega)).trans h2
    · rw [hW3]; simp
  obtain ⟨bo, hbo⟩ : ∃ bo, bo = w1.heap.size := ⟨_, rfl⟩
  have hwb : w.heap.size ≤ bo := by have := B1.out.size; omega
  obtain ⟨bn, hbn⟩ : ∃ bn, bn = w2.heap.size := ⟨_, rfl⟩
  have hbb : bo ≤ bn := by omega
  rw [← hbo, ← hbn] at V0
  rw [← hbo, ← hbn]
  have HV0 := hid V0
  have HB3 := hid (B1.out.trans (hb13.mono B1.out.size))
  clear V0 hb13 hb2 hb2b hb2a hb3 g1 n1 hs2 z0 e2 hW3 HW2 hbo hbn B1
  go_loopw [17] (fun i wr => ∃ k : Nat, k ≤ l.length ∧ i = .int .i64 (k : Int) ∧ Hid (VarSt wr bo (bo + 1 + 1) (bo + 1) bn (bn + 1) (varsR (l.take k) [])) ∧ Hid (Below w.heap.size w wr)) (fun i _ => l.length - (intOf i).toNat)
  case atStart => exact ⟨0, by omega, rfl, hid (by simpa [varsR] using HV0.out), HB3⟩
  case round =>
    clear HV0 HB3
    obtain ⟨k, hk, rfl, hV, hBr⟩ := hrel
    by_cases hlt : k < l.length
    · obtain ⟨b, o, hp, hRT⟩ : ∃ b o, p = some ⟨b, o, none⟩ ∧ RowT w l b o := by
        rcases HR.out with rfl | h
        · simp at hlt
        · exact h
      subst hp
      obtain ⟨q, cq, hs, ht⟩ := hRT.get k hlt
      have hs2 : Six wr b (o + k * 6) l[k] q cq := hs.keep hBr.out
      obtain ⟨y0, y1, y2, y3, y4, y5⟩ := hs2
      have HTT := hid ht
      have HVK := hid (HVA.out k hlt)
      have hvl := HVL.out k
      have htl := HTL.out k hlt
      have hle := HLE.out (k + 1)
      simp only [List.length_nil] at hvl
      have HBD := hid (show ((varsR (l.take k) []).length + nodes l[k] + 1) * 8 ≤ 140737488351232 by omega)
      have HTS := hid (HTK.out k hlt)
      have hbz := hid ((Below.refl wr.heap.size wr).alloc (Nat.le_refl _) (tobj l[k] q cq))
      clear hs ht hvl htl hle hRT
      unfold tobj at hbz
      generalize l[k] = u at *
      generalize varsR (l.take k) [] = Sk at *
      have EA := each_any w bo (bo + 1 + 1) (bo + 1) bn (bn + 1) hwb (by omega) (nodes u) u q cq Sk _ (Nat.le_refl _) HTT.out HVK.out (hBr.out.trans (hbz.out.mono hBr.out.size)) (hV.out.keep hbz.out) HBD.out
      unfold Tm.val at EA
      have HC := hid EA
      clear EA
      go_wp2_with (go_at_call 29; (with_reducible refine HC.out.mono ?_); rintro e w4 ⟨rfl, hV2, hb2, hk2⟩; have V2 := hid hV2; have B2 := hid hb2; clear hV2 hb2 hk2)
      go_roundw
      case rel => exact ⟨k + 1, by omega, by go_num, hid (by rw [HTS.out]; exact V2.out), B2⟩
      case measure => simp [intOf]; omega
    · obtain rfl : k = l.length := by omega
      clear hlt
      obtain ⟨v, hv1, hv2⟩ := hV.out.ex
      obtain ⟨p2, cap2, rfl⟩ := rowI_form hv2
      have hvc := hv1.cell
      have HV2 := hid hv2
      clear hv1 hv2
      go_wp2_with fail
      go_ret2
      refine ⟨_, rfl, ?_, hBr.out⟩
      have h := HV2.out
      rw [List.take_length] at h
      exact rowI_base h (by have := hV.out.ln; omega)
end
end Go.Proofs.YtpdclfihleoigaaDoor
