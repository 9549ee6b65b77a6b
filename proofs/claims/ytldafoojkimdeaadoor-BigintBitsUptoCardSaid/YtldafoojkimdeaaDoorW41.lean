/- Walks: complement. -/
import Derived.Test.YtldafoojkimdeaaDoorW7
import Derived.Test.YtldafoojkimdeaaDoorW40
namespace Go.Proofs.YtldafoojkimdeaaDoor
open Go.RowKit Lm

/-- So many limbs of a number's two's complement. -/
def Tc (s : Nat) (X : List Nat) (v : Int) : Prop := X.length = s ∧ Ok X ∧ ∃ c : Int, (val X : Int) = v + c * (P s : Int)

theorem splice_pad (L : List Nat) (s : Nat) (_h : L.length ≤ s) : splice (List.replicate s (Value.int .u32 0)) 0 (L.map fun x : Nat => Value.int .u32 (x : Int)) = (L ++ List.replicate (s - L.length) 0).map fun x : Nat => Value.int .u32 (x : Int) := by
  simp [splice, List.drop_replicate]
theorem val_pad (L : List Nat) (n : Nat) : val (L ++ List.replicate n 0) = val L := by rw [val_append, val_zeros]; simp
theorem min_fit {a b : Nat} (h : a ≤ b) : a = Nat.min a b := (Nat.min_eq_left h).symm

set_option maxRecDepth 100000 in
set_option maxHeartbeats 2000000 in
theorem complement_any (na : Bool) (aa : Option Addr) (la ca : Nat) (A : List Nat) (s : Nat) (w : World) (hA : Rd w aa la ca A) (hs : (tl A).length ≤ s) (hs0 : 0 < s) (hs5 : s ≤ 5000) :
    Calls Tryd.prog 112 #[.agg #[.bool na, .slice aa la ca], .int .i64 (s : Int)] w fun e w' => ∃ g X, e = .returned (.slice (some ⟨g, 0, none⟩) s s) ∧ w.heap.size ≤ g ∧ Rw w' g X ∧ Tc s X (num na A) ∧ Below w.heap.size w w' := by
  obtain ⟨i0, hi, hz0, hz1, hz2⟩ := info_parts Tryd.info43
  have hsz2 : (Tryd.prog.info? 43).map (·.size) = some 1 := by rw [hi]; simp [hz1]
  have HSZ := hid hsz2; clear hsz2
  have HS := hid hs
  have hA1 := hA.alloc (.cells #[.bool na, .slice aa la ca] 24)
  have hmost := hA.tl.most
  clear hs
  go_enter Tryd.func112, Tryd.ntmps112
  go_wp2_with (at_make; refine wpList_make_full _ rfl _ _ 22 rfl w.heap.size 43 i0 (.int .u32 0) 1 Tryd.underlying22 hi hz0 hz1 .i64 .i64 _ _ s rfl rfl (by omega) (by omega) ?c1 ?c2 ?c3 ?_)
  case c1 => rw [hz2]; omega
  case c2 => unfold maxLen; omega
  case c3 => simp
  intro w1 hown hgrow
  have hrow : Rw w1 (w.heap.size + 1) (List.replicate s 0) := Rw.of_own hown (made_zeros _ _ (by omega))
  have hb1 : Below (w.heap.size + 1) (w.alloc (.cells #[.bool na, .slice aa la ca] 24)) w1 := (Below.refl _ _).grown hgrow (by simp) (by intro k hk; simp at hk)
  have hb0 : Below w.heap.size w w1 := ((Below.refl _ _).alloc (Nat.le_refl _) _).trans (hb1.mono (by omega))
  have hblk : w1.heap[w.heap.size]? = some (.cells #[.bool na, .slice aa la ca] 24 (0, 0)) := by rw [hb1.block _ (by omega)]; exact heap_alloc_new w _
  obtain ⟨q0, q1, _, _⟩ := two_cells hblk
  have Hblk := hid hblk
  clear hown hgrow hi hz0 hz1 hz2 hblk
  have hA2 := hA.keep hb0
  have hT := hA2.tl
  have hTo := hT.ok
  have HV := hid (tl_val A)
  have HL : Hid ((tl A).length ≤ s) := HS
  have hTl := hmost
  clear HS hmost
  have Hpos : Hid (0 < ((tl A).map fun x : Nat => Value.int .u32 (x : Int)).length → ∃ ad, aa = some ad ∧ ∀ j v, ((tl A).map fun x : Nat => Value.int .u32 (x : Int))[j]? = some v → w1.cell? (ad.add j) = some v) := hid (by
    intro h0
    obtain ⟨b, off, rfl, hc⟩ := hT.cells (by simpa using h0)
    refine ⟨_, rfl, ?_⟩
    intro j v hj
    have hj' : j < (tl A).length := by
      have := (List.getElem?_eq_some_iff.1 hj).1
      rw [List.length_map] at this; exact this
    rw [Addr.add_lit, hc j hj']
    have := u32s_get (tl A) j hj'
    unfold u32s at this
    simp only [List.getElem?_toArray] at this
    rw [← this, hj])
  have Hrow : Hid (w1.heap[w.heap.size + 1]? = some (.cells ((List.replicate s 0).map fun x : Nat => Value.int .u32 (x : Int)).toArray 43 (0, 0))) := hid hrow.block
  have Hmin : Hid (((tl A).map fun x : Nat => Value.int .u32 (x : Int)).length = Nat.min (tl A).length s) := hid (by rw [List.length_map]; exact min_fit HL.out)
  have Hfit : Hid (0 + ((tl A).map fun x : Nat => Value.int .u32 (x : Int)).length ≤ ((List.replicate s 0).map fun x : Nat => Value.int .u32 (x : Int)).length) := hid (by simp; exact HL.out)
  go_wp2_with (first | (go_at_call 71; refine (trim_any _ _ _ A _ hA2).mono ?_; rintro e w' ⟨rfl, rfl⟩) | (with_reducible refine wpList_copy_splice (o := ⟨some 12, _, _, _, _, _⟩) rfl (.tmp 8) (.tmp 11) 22 22 rfl 43 Tryd.underlying22 HSZ.out (some ⟨w.heap.size + 1, 0, none⟩) aa s s (tl A).length ca ?e1 ?e2 (w.heap.size + 1) 0 ((List.replicate s 0).map fun x : Nat => Value.int .u32 (x : Int)) 43 Hrow.out ((tl A).map fun x : Nat => Value.int .u32 (x : Int)) Hmin.out (fun h0 => ⟨rfl, Hpos.out h0⟩) Hfit.out ?d3 (w.heap.size + 1) w1 (Below.refl _ _) (Nat.le_refl _) ?_))
  case d3 =>
    intro v hv
    obtain ⟨x, _, rfl⟩ := List.mem_map.1 hv
    rfl
  case e1 => rfl
  case e2 => rfl
  intro w2 hw2 hb2
  have hrow2 : Rw w2 (w.heap.size + 1) (tl A ++ List.replicate (s - (tl A).length) 0) := by
    refine ⟨?_⟩
    have e := hw2.out
    refine e.trans ?_
    exact congrArg (fun l => some (Obj.cells (List.toArray l) 43)) (splice_pad (tl A) s HL.out)
  obtain ⟨m0, m1, _, _⟩ := two_cells (show w2.heap[w.heap.size]? = some (.cells #[.bool na, .slice aa la ca] 24 (0, 0)) by rw [hb2.block _ (by omega)]; exact Hblk.out)
  have hX : (tl A ++ List.replicate (s - (tl A).length) 0).length = s := by rw [List.length_append, List.length_replicate]; have := HL.out; omega
  have hXo : Ok (tl A ++ List.replicate (s - (tl A).length) 0) := hTo.append (Ok.zeros _)
  have HXv := hid (show val (tl A ++ List.replicate (s - (tl A).length) 0) = val A by rw [val_pad, HV.out])
  clear hw2 hrow hb1 Hblk Hpos Hrow Hmin Hfit
  have hb3 := hb0.trans (hb2.mono (by omega))
  generalize tl A ++ List.replicate (s - (tl A).length) 0 = X at *
  have HX := hid hX
  clear hX
  cases na with
  | false =>
    go_wp2
    go_ret
    refine ⟨_, X, rfl, by omega, hrow2, ⟨HX.out, hXo, 0, ?_⟩, hb3⟩
    rw [HXv.out]; unfold num; simp
  | true =>
    go_wp2_with (go_at_call 113; refine (negate_any _ s s X _ hrow2 hXo HX.out hs5).mono ?_; rintro e w3 ⟨M, c, rfl, hM, hMo, hRM, hv, hg⟩; have HM := hid hM; have HVM := hid hv; clear hM hv)
    go_ret
    refine ⟨_, M, rfl, by omega, hRM, ⟨HM.out, hMo, 1 - (c : Int), ?_⟩, hb3.grown hg (by have := hb3.size; omega) (by intro k hk; simp at hk; omega)⟩
    have := HVM.out
    rw [HXv.out] at this
    unfold num
    have e2 : ((val M + P s * c + val A : Nat) : Int) = (P s : Int) := by rw [this]
    simp only [Int.natCast_add, Int.natCast_mul] at e2
    rw [Int.sub_mul, Int.one_mul, Int.mul_comm (c : Int)]
    simp only [if_true]
    omega
end Go.Proofs.YtldafoojkimdeaaDoor
