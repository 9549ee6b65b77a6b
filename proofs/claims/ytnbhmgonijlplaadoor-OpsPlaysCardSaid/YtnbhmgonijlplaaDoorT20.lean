/- Walks: slices.SortedFunc over a table, and sorted: all operators of a table in order. No condition but those that each theorem names. -/
import Derived.Test.YtnbhmgonijlplaaDoorSortp
import Derived.Test.YtnbhmgonijlplaaDoorT19
namespace Go.Proofs.YtnbhmgonijlplaaDoor
open Go.RowKit Go.Sort

instance : Inhabited Opn := ⟨Opn.none⟩
theorem rowOf_get : ∀ (L : List Opn) (j : Nat), j < L.length * 3 → (rowOf L)[j]? = some ((Opn.cells L.toArray[j / 3]!)[j % 3]!)
  | [], j, h => by simp at h
  | x :: L, j, h => by
    have e : rowOf (x :: L) = x.cells ++ rowOf L := by simp [rowOf]
    rw [e]
    by_cases hj : j < 3
    · rcases (show j = 0 ∨ j = 1 ∨ j = 2 by omega) with rfl | rfl | rfl <;> simp [Opn.cells]
    · obtain ⟨i, rfl⟩ : ∃ i, j = i + 3 := ⟨j - 3, by omega⟩
      have hi : i < L.length * 3 := by simp at h; omega
      rw [List.getElem?_append_right (by simp [Opn.cells]), show (Opn.cells x).length = 3 from rfl, Nat.add_sub_cancel, rowOf_get L i hi]
      have h1 : (i + 3) / 3 = i / 3 + 1 := by omega
      have h2 : (i + 3) % 3 = i % 3 := by omega
      rw [h1, h2]
      congr 2
      have : i / 3 < L.length := by omega
      simp [this]
theorem flat_row (d : Array Opn) : (flatK Opn.cells 3 d).toList = rowOf d.toList := by
  apply List.ext_getElem?
  intro j
  by_cases h : j < d.size * 3
  · rw [rowOf_get _ _ (by simpa using h)]
    have := get_flatK Opn.cells 3 d j h
    rw [Array.getElem?_toList, Array.getElem?_eq_getElem (by simpa using h)]
    rw [getElem!_pos _ _ (by simpa using h)] at this
    rw [this]
  · rw [List.getElem?_eq_none (by simp; omega), List.getElem?_eq_none (by rw [rowOf_length]; simp; omega)]
theorem swo_cfo : SWO (ltOf cfo) where
  irrefl x := decide_eq_false fun h => olt_irrefl x ((cfo_neg x x).1 h)
  trans x y z h1 h2 := decide_eq_true ((cfo_neg x z).2 (olt_trans ((cfo_neg x y).1 (of_decide_eq_true h1)) ((cfo_neg y z).1 (of_decide_eq_true h2))))
  ntrans x y z h1 h2 := by
    have n1 := fun h => of_decide_eq_false h1 ((cfo_neg x y).2 h)
    have n2 := fun h => of_decide_eq_false h2 ((cfo_neg y z).2 h)
    refine decide_eq_false fun h => ?_
    have h3 := (cfo_neg x z).1 h
    rcases olt_tri x y with k | k | ⟨k1, k2⟩
    · exact n1 k
    · exact n2 (olt_trans k h3)
    · refine n2 ?_
      unfold olt at h3 ⊢
      rw [← k1, ← k2]
      exact h3
/-- Sorted and no two alike: in order. -/
theorem told_of {G : Fn} {xs : List Opn} {d : Array Opn} (h : AllOf G xs) (hp : PermIn 0 xs.toArray.size xs.toArray d) (hs : SortedIn (ltOf cfo) 0 xs.toArray.size d) : Told G d.toList ∧ d.toList.length = xs.length := by
  obtain ⟨hsz, _, hperm⟩ := hp
  have hperm : d.toList.Perm xs := by
    rw [← hsz] at hperm
    have e : (xs.toArray.extract 0 d.size) = xs.toArray := by rw [hsz]; simp
    rw [e] at hperm
    simpa using hperm
  have hlen : d.toList.length = xs.length := hperm.length_eq
  have hnd : d.toList.Nodup := hperm.nodup_iff.2 h.nd
  have hmem : ∀ x, x ∈ d.toList ↔ G (cls x.typ) x.name = some x := fun x => hperm.mem_iff.trans (h.mem x)
  refine ⟨⟨hmem, ?_⟩, hlen⟩
  refine List.pairwise_iff_getElem.2 fun i j hi hj hij => ?_
  have h1 := hs i j (Nat.zero_le _) hij (by simp only [List.size_toArray]; omega)
  have ei : d[i]! = d.toList[i] := by simp at hi; simp [hi]
  have ej : d[j]! = d.toList[j] := by simp at hj; simp [hj]
  rw [ei, ej] at h1
  have h2 : ¬ olt d.toList[j] d.toList[i] := fun k => of_decide_eq_false h1 ((cfo_neg _ _).2 k)
  rcases olt_tri d.toList[i] d.toList[j] with k | k | ⟨k1, k2⟩
  · exact k
  · exact absurd k h2
  · refine absurd ?_ (List.pairwise_iff_getElem.1 hnd i j hi hj hij)
    have a := (hmem _).1 (List.getElem_mem hi)
    have b := (hmem _).1 (List.getElem_mem hj)
    rw [k2, nm_inj k1, b] at a
    exact (Option.some.inj a).symm

theorem row_apart {W : World} {base len : Nat} {v : Value} {xs : List Value} (h : W.ownsRow base 39 3 v len xs) (hl : 0 < len) :
    ∃ g cap cur, v = .slice (some ⟨g, 0, none⟩) len cap ∧ base ≤ g ∧ W.heap[g]? = some (.cells cur 39 (0, 0)) ∧ len ≤ cap ∧ cap ≤ maxLen ∧ cur.size = cap * 3 ∧ cur.toList.take (len * 3) = xs := by
  rcases h.2 with ⟨_, h0⟩ | h
  · omega
  · exact h
theorem holds_row {W : World} {g cap len : Nat} {cur : Array Value} {xs : List Opn} (hg : W.heap[g]? = some (.cells cur 39 (0, 0))) (hc : len ≤ cap) (hs : cur.size = cap * 3) (hl : len = xs.length) (ht : cur.toList.take (len * 3) = rowOf xs) : HoldsK Opn.cells 3 W g 0 xs.toArray := by
  intro j hj
  have hj3 : j < xs.length * 3 := by simpa using hj
  have e1 : cur.toList[j]? = (rowOf xs)[j]? := by rw [← ht, List.getElem?_take, if_pos (by omega)]
  have e2 : (flatK Opn.cells 3 xs.toArray).toList[j]? = (rowOf xs)[j]? := by rw [flat_row]
  have hin : j < (flatK Opn.cells 3 xs.toArray).size := hj
  refine ⟨?_, by simp [World.frozen?, hg]⟩
  have : cur[j]? = some (flatK Opn.cells 3 xs.toArray)[j]! := by
    rw [← Array.getElem?_toList, e1, ← e2, Array.getElem?_toList, Array.getElem?_eq_getElem hin, getElem!_pos (flatK Opn.cells 3 xs.toArray) j hin]
  simpa [World.cell?, hg] using this
theorem ownsRow_base {W : World} {base base' : Nat} {e : TypeId} {size : Nat} {v : Value} {k : Nat} {xs : List Value} (h : W.ownsRow base e size v k xs) (hb : base' ≤ base) : W.ownsRow base' e size v k xs := by
  refine ⟨h.1, ?_⟩
  rcases h.2 with hn | ⟨g, cap, cur, hv, hbg, rest⟩
  · exact .inl hn
  · exact .inr ⟨g, cap, cur, hv, Nat.le_trans hb hbg, rest⟩
/-- What the sort leaves. -/
theorem row_sorted {W : World} {g cap len m : Nat} {cur : Array Value} {d : Array Opn} {os : Array Obj} (hg : W.heap[g]? = some (.cells cur 39 (0, 0))) (hc : len ≤ cap) (hm : cap ≤ maxLen) (hs : cur.size = cap * 3) (hd : d.toList.length = len) {base : Nat} (hb : base ≤ g) :
    (sortWorldK Opn.cells 3 W g 0 m d os).ownsRow base 39 3 (.slice (some ⟨g, 0, none⟩) len cap) len (rowOf d.toList) ∧ (∀ k, k < W.heap.size → k ≠ g → (sortWorldK Opn.cells 3 W g 0 m d os).heap[k]? = W.heap[k]?) := by
  have hlt := lt_of_block hg
  have hz : d.size * 3 ≤ cur.size := by
    have : d.size = len := by simpa using hd
    rw [this, hs]; exact Nat.mul_le_mul_right _ hc
  have hold : ∀ k, k < W.heap.size → (sortWorldK Opn.cells 3 W g 0 m d os).heap[k]? = (W.heap.modify g (onCells (putCells id 0 (flatK Opn.cells 3 d))))[k]? := fun k hk => by
    unfold sortWorldK
    rw [heap_grow_old _ _ (by show k < (mapBlock (Sort.ahead W m) g _).heap.size; simp [mapBlock, Sort.ahead]; exact hk)]
    rfl
  refine ⟨⟨by rw [rowOf_length, hd], .inr ⟨g, cap, putCells id 0 (flatK Opn.cells 3 d) cur, rfl, hb, ?_, hc, hm, by simp [putCells, hs], ?_⟩⟩, fun k hk hne => ?_⟩
  · rw [hold g hlt, Array.getElem?_modify, if_pos rfl, hg]
    rfl
  · rw [← flat_row d]
    apply List.ext_getElem?
    intro j
    rw [List.getElem?_take]
    have hdl : d.size = len := by simpa using hd
    by_cases hj : j < len * 3
    · rw [if_pos hj]
      have h1 : j < cur.size := by rw [hs]; have := Nat.mul_le_mul_right 3 hc; omega
      have h2 : j < (flatK Opn.cells 3 d).size := by simp; omega
      rw [Array.getElem?_toList, Array.getElem?_toList, Array.getElem?_eq_getElem h2]
      simp only [putCells, Array.getElem?_mapIdx, Array.getElem?_eq_getElem h1, Option.map_some]
      rw [if_pos ⟨Nat.zero_le _, by simpa using h2⟩]
      simp only [Nat.sub_zero, id]
      rw [getElem!_pos (flatK Opn.cells 3 d) j h2]
    · rw [if_neg hj, List.getElem?_eq_none (by simp; omega)]
  · rw [hold k hk, Array.getElem?_modify, if_neg (Ne.symm hne)]

theorem comma_of {G : Fn} (g : Good G) {xs : List Opn} (h : AllOf G xs) : 0 < xs.length := by
  have e : cls 4 = 2 := by decide
  have hm : (⟨⟨#[44]⟩, 4, 1000⟩ : Opn) ∈ xs := (h.mem _).2 (by show G (cls 4) _ = _; rw [e]; exact g.comma)
  exact List.length_pos_of_mem hm
/-- The sort of operators that lie in a row. -/
theorem sort_any (g cap : Nat) (xs : List Opn) (W : World) (hH : HoldsK Opn.cells 3 W g 0 xs.toArray) (hg : g < W.heap.size) (hsz : xs.length < 4611686018427387904) :
    Calls Tryd.prog 61 #[.slice (some ⟨g, 0, none⟩) xs.length cap, .func (.func 54) #[] #[]] W fun e w' => e = .returned (.tuple #[]) ∧ ∃ d n os, PermIn 0 xs.toArray.size xs.toArray d ∧ SortedIn (ltOf cfo) 0 xs.toArray.size d ∧ w' = sortWorldK Opn.cells 3 W g 0 n d os := by
  have h := AnyQ.slices_SortFunc Tryd.sortOps 3 Tryd.isAgg39 Tryd.sizeOf39 Opn.cells (fun _ => rfl) (fun x v hv => by simp [Opn.cells] at hv; rcases hv with rfl | rfl | rfl <;> rfl) cfo swo_cfo 54 #[] g 0 cap xs.toArray W
    (enters_of Tryd.func54 (by kernel_rfl) rfl) (fun m os dk _ x y => cmp_any x y _) hH hg (by simpa using hsz)
  simp only [List.size_toArray] at h ⊢
  exact h
section
variable (b nn : Nat) (hnn : nn ≤ maxLen) (hby : nn * 32 ≤ 140737488355328) (G : Fn) (g : Good G)
include hnn hby g
set_option maxRecDepth 100000 in
set_option maxHeartbeats 2000000 in
theorem sorted52_any (Bm : Nat) (w : World) (hBm : Bm < w.heap.size) (hm : w.cell? ⟨Bm, 0, none⟩ = some (.map (some b))) (hT : Tab w b nn G) :
    Calls Tryd.prog 52 #[.func (.func 62) #[] #[.pointer (some ⟨Bm, 0, none⟩)], .func (.func 54) #[] #[]] w fun e w' => ∃ v L, e = .returned v ∧ (Told G L ∧ L.length ≤ nn) ∧ w'.ownsRow w.heap.size 39 3 v L.length (rowOf L) ∧ Below w.heap.size w w' := by
  have C := hid (collect_any b nn hnn hby G g Bm w hBm hm hT)
  clear hT hm
  go_enter Tryd.func52, Tryd.ntmps52
  go_wp2_with (first
    | (go_at_call 60; (with_reducible refine C.out.mono ?_); rintro e w1 ⟨v, xs, rfl, ⟨hA, hAl⟩, hrow, hb⟩; clear C
       obtain ⟨g1, cap, cur, rfl, hg1, hg2, hg3, hg4, hg5, hg6⟩ := row_apart hrow (comma_of g hA)
       have SO := hid (sort_any g1 cap xs w1 (holds_row hg2 hg3 hg5 rfl hg6) (lt_of_block hg2) (by omega))
       have HA := hid hA
       have HG := hid (And.intro hg2 (And.intro hg3 (And.intro hg4 hg5)))
       clear hrow hg6 hA hg2 hg3 hg4 hg5)
    | (go_at_call 61; (with_reducible refine SO.out.mono ?_); rintro e w2 ⟨rfl, d, m, os, hp, hs, hw⟩; have HW := hid hw; have HP := hid hp; have HS := hid hs; clear hw hp hs SO))
  go_ret
  obtain ⟨hg2, hg3, hg4, hg5⟩ := HG.out
  obtain ⟨hT, hL⟩ := told_of HA.out HP.out HS.out
  obtain ⟨r1, r2⟩ := row_sorted (m := m) (os := os) hg2 hg3 hg4 hg5 hL hg1
  refine ⟨_, d.toList, rfl, ⟨hT, by omega⟩, ?_, ?_⟩
  · rw [HW.out, hL]; exact r1
  · rw [HW.out]
    have hk : ∀ k, k < w.heap.size → k ≠ g1 := fun k h => by omega
    exact ⟨hb.os, hb.tape, hb.output, Nat.le_trans hb.size (size_sortWorldK_c Opn.cells 3 w1 g1 0 m d os), fun k h => (r2 k (Nat.lt_of_lt_of_le h hb.size) (hk k h)).trans (hb.block k h)⟩
set_option maxRecDepth 100000 in
set_option maxHeartbeats 2000000 in
/-- All operators of a table, in order. -/
theorem sorted_any (bt : Nat) (w : World) (hc : w.cell? ⟨bt, 0, none⟩ = some (.map (some b))) (hT : Tab w b nn G) :
    Calls Tryd.prog 46 #[.pointer (some ⟨bt, 0, none⟩)] w fun e w' => ∃ v L, e = .returned v ∧ (Told G L ∧ L.length ≤ nn) ∧ w'.ownsRow w.heap.size 39 3 v L.length (rowOf L) ∧ Below w.heap.size w w' := by
  have S := hid (sorted52_any b nn hnn hby G g w.heap.size (w.alloc (.cells #[.map (some b)] 58)) (by simp) (Boxed.new w 58 _).cell (hT.alloc _))
  have V := hid (values53_any (some b) w)
  clear hT
  go_enter Tryd.func46, Tryd.ntmps46
  go_wp2_with (first
    | (go_at_call 53; (with_reducible refine V.out.mono ?_); rintro e w1 ⟨rfl, rfl⟩)
    | (go_at_call 52; (with_reducible refine S.out.mono ?_); rintro e w1 ⟨v, L, rfl, hT, hrow, hb⟩; clear S))
  go_ret
  rw [World.size_alloc] at hrow
  exact ⟨v, L, rfl, hT, ownsRow_base hrow (by omega), ((Below.refl w.heap.size w).alloc (Nat.le_refl _) _).trans (hb.mono (by simp))⟩
end
end Go.Proofs.YtnbhmgonijlplaaDoor
