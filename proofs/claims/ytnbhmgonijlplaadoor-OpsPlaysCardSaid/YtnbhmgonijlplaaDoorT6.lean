/- The operators that are there from the beginning: plain facts; New. No condition but those that each theorem names. -/
import Derived.Test.YtnbhmgonijlplaaDoorT5
import Derived.WalkSmall
namespace Go.Proofs.YtnbhmgonijlplaaDoor
open Go.RowKit

/-- The rows of the text: priority, type, names. -/
def rws : List (Int × Int × ByteArray) := [(1200, 3, ⟨#[58, 45, 32, 45, 45, 62]⟩), (1200, 1, ⟨#[58, 45, 32, 63, 45]⟩), (1100, 4, ⟨#[59, 32, 124]⟩), (1050, 4, ⟨#[45, 62]⟩), (1000, 4, ⟨#[44]⟩), (900, 2, ⟨#[92, 43]⟩), (760, 5, ⟨#[35, 60, 61, 61, 62]⟩), (700, 3, ⟨#[61, 32, 92, 61, 32, 61, 61, 32, 92, 61, 61, 32, 64, 60, 32, 64, 61, 60, 32, 64, 62, 32, 64, 62, 61, 32, 61, 46, 46, 32, 105, 115, 32, 61, 58, 61, 32, 61, 92, 61, 32, 60, 32, 61, 60, 32, 62, 32, 62, 61, 32, 105, 110, 32, 105, 110, 115, 32, 35, 61, 32, 35, 92, 61, 32, 35, 60, 32, 35, 61, 60, 32, 35, 62, 32, 35, 62, 61]⟩), (500, 5, ⟨#[43, 32, 45, 32, 47, 92, 32, 92, 47]⟩), (450, 3, ⟨#[46, 46]⟩), (400, 5, ⟨#[42, 32, 47, 32, 47, 47, 32, 114, 101, 109, 32, 109, 111, 100, 32, 100, 105, 118, 32, 60, 60, 32, 62, 62, 32, 120, 111, 114]⟩), (200, 3, ⟨#[42, 42]⟩), (200, 4, ⟨#[94]⟩), (200, 2, ⟨#[45, 32, 43, 32, 92]⟩), (200, 4, ⟨#[58]⟩)]
def row (k : Nat) : Int × Int × ByteArray := rws.getD k (0, 0, ⟨#[]⟩)
def nms (s : ByteArray) : List ByteArray := (Lib.fields s.data.toList).map fun l => ⟨l.toArray⟩
def addAll (F : Fn) (p k : Int) (l : List ByteArray) : Fn := l.foldl (fun F s => fset F (cls k) s (some ⟨s, k, p⟩)) F
/-- The operators behind the first k rows. -/
def firstF : Nat → Fn
  | 0 => fun _ _ => none
  | k + 1 => addAll (firstF k) (row k).1 (row k).2.1 (nms (row k).2.2)
def newF : Fn := firstF 15
/-- How many names the first k rows have. -/
def cnt (k : Nat) : Nat := (rws.take k).foldl (fun a r => a + (nms r.2.2).length) 0
theorem cnt_facts : ∀ k, k < 15 → cnt (k + 1) = cnt k + (nms (row k).2.2).length ∧ cnt k ≤ 54 := by decide +kernel
theorem cnt_end : cnt 15 = 54 := by decide +kernel
theorem row_names : ∀ k, k < 15 → (nms (row k).2.2).all (fun s => decide (s.size ≤ 100)) = true ∧ (nms (row k).2.2).length ≤ 100 ∧ (row k).2.2.size ≤ 1000 ∧ (row k).2.2.data.toList.all (fun b => decide (b.toNat < 128)) = true := by decide +kernel
def arr : Value := .agg #[.int .i64 1200, .int .i64 3, .string ⟨#[58, 45, 32, 45, 45, 62]⟩, .int .i64 1200, .int .i64 1, .string ⟨#[58, 45, 32, 63, 45]⟩, .int .i64 1100, .int .i64 4, .string ⟨#[59, 32, 124]⟩, .int .i64 1050, .int .i64 4, .string ⟨#[45, 62]⟩, .int .i64 1000, .int .i64 4, .string ⟨#[44]⟩, .int .i64 900, .int .i64 2, .string ⟨#[92, 43]⟩, .int .i64 760, .int .i64 5, .string ⟨#[35, 60, 61, 61, 62]⟩, .int .i64 700, .int .i64 3, .string ⟨#[61, 32, 92, 61, 32, 61, 61, 32, 92, 61, 61, 32, 64, 60, 32, 64, 61, 60, 32, 64, 62, 32, 64, 62, 61, 32, 61, 46, 46, 32, 105, 115, 32, 61, 58, 61, 32, 61, 92, 61, 32, 60, 32, 61, 60, 32, 62, 32, 62, 61, 32, 105, 110, 32, 105, 110, 115, 32, 35, 61, 32, 35, 92, 61, 32, 35, 60, 32, 35, 61, 60, 32, 35, 62, 32, 35, 62, 61]⟩, .int .i64 500, .int .i64 5, .string ⟨#[43, 32, 45, 32, 47, 92, 32, 92, 47]⟩, .int .i64 450, .int .i64 3, .string ⟨#[46, 46]⟩, .int .i64 400, .int .i64 5, .string ⟨#[42, 32, 47, 32, 47, 47, 32, 114, 101, 109, 32, 109, 111, 100, 32, 100, 105, 118, 32, 60, 60, 32, 62, 62, 32, 120, 111, 114]⟩, .int .i64 200, .int .i64 3, .string ⟨#[42, 42]⟩, .int .i64 200, .int .i64 4, .string ⟨#[94]⟩, .int .i64 200, .int .i64 2, .string ⟨#[45, 32, 43, 32, 92]⟩, .int .i64 200, .int .i64 4, .string ⟨#[58]⟩]
set_option maxRecDepth 100000 in
theorem idxr (k : Nat) (hk : k < 15) (w : World) : (Instr.index 62 arr (.int .i64 (k : Int))).run Tryd.prog w = .ok (.agg #[.int .i64 (row k).1, .int .i64 (row k).2.1, .string (row k).2.2]) w := by
  rcases (show k = 0 ∨ k = 1 ∨ k = 2 ∨ k = 3 ∨ k = 4 ∨ k = 5 ∨ k = 6 ∨ k = 7 ∨ k = 8 ∨ k = 9 ∨ k = 10 ∨ k = 11 ∨ k = 12 ∨ k = 13 ∨ k = 14 by omega) with rfl | rfl | rfl | rfl | rfl | rfl | rfl | rfl | rfl | rfl | rfl | rfl | rfl | rfl | rfl <;> kernel_rfl
theorem addAll_succ (F : Fn) (p k : Int) (l : List ByteArray) (m : Nat) (h : m < l.length) : addAll F p k (l.take (m + 1)) = fset (addAll F p k (l.take m)) (cls k) l[m] (some ⟨l[m], k, p⟩) := by
  unfold addAll
  rw [List.take_succ_eq_append_getElem h, List.foldl_append]
  rfl

/-- The table of blanks that strings.Fields reads. -/
def Blanks (w : World) : Prop := Lib.TabIs Tryd.prog w "strings.asciiSpace" .u8 Lib.asciiSpaceTab
theorem Blanks.lt {w : World} (h : Blanks w) : 1 < w.heap.size := by
  have h1 := Lib.TabIs.cell h (g := 1) (by kernel_rfl) 0 (by rw [Lib.asciiSpaceTab_length]; omega)
  have := World.block_lt_of_cell? w _ h1
  simpa using this
theorem Blanks.keep {w w' : World} {n : Nat} (h : Blanks w) (hn : 1 < n) (hb : Below n w w') : Blanks w' := var?_below hb (g := 1) (by kernel_rfl) hn h
theorem arr_lit : (Value.agg #[Value.int IntKind.i64 1200, Value.int IntKind.i64 3, Value.string { data := #[58, 45, 32, 45, 45, 62] }, Value.int IntKind.i64 1200, Value.int IntKind.i64 1, Value.string { data := #[58, 45, 32, 63, 45] }, Value.int IntKind.i64 1100, Value.int IntKind.i64 4, Value.string { data := #[59, 32, 124] }, Value.int IntKind.i64 1050, Value.int IntKind.i64 4, Value.string { data := #[45, 62] }, Value.int IntKind.i64 1000, Value.int IntKind.i64 4, Value.string { data := #[44] }, Value.int IntKind.i64 900, Value.int IntKind.i64 2, Value.string { data := #[92, 43] }, Value.int IntKind.i64 760, Value.int IntKind.i64 5, Value.string { data := #[35, 60, 61, 61, 62] }, Value.int IntKind.i64 700, Value.int IntKind.i64 3, Value.string { data := #[61, 32, 92, 61, 32, 61, 61, 32, 92, 61, 61, 32, 64, 60, 32, 64, 61, 60, 32, 64, 62, 32, 64, 62, 61, 32, 61, 46, 46, 32, 105, 115, 32, 61, 58, 61, 32, 61, 92, 61, 32, 60, 32, 61, 60, 32, 62, 32, 62, 61, 32, 105, 110, 32, 105, 110, 115, 32, 35, 61, 32, 35, 92, 61, 32, 35, 60, 32, 35, 61, 60, 32, 35, 62, 32, 35, 62, 61] }, Value.int IntKind.i64 500, Value.int IntKind.i64 5, Value.string { data := #[43, 32, 45, 32, 47, 92, 32, 92, 47] }, Value.int IntKind.i64 450, Value.int IntKind.i64 3, Value.string { data := #[46, 46] }, Value.int IntKind.i64 400, Value.int IntKind.i64 5, Value.string { data := #[42, 32, 47, 32, 47, 47, 32, 114, 101, 109, 32, 109, 111, 100, 32, 100, 105, 118, 32, 60, 60, 32, 62, 62, 32, 120, 111, 114] }, Value.int IntKind.i64 200, Value.int IntKind.i64 3, Value.string { data := #[42, 42] }, Value.int IntKind.i64 200, Value.int IntKind.i64 4, Value.string { data := #[94] }, Value.int IntKind.i64 200, Value.int IntKind.i64 2, Value.string { data := #[45, 32, 43, 32, 92] }, Value.int IntKind.i64 200, Value.int IntKind.i64 4, Value.string { data := #[58] }]) = arr := rfl
theorem Fields_row (s : ByteArray) (w : World) (hs : s.size ≤ 1000) (ha : s.data.toList.all (fun b => decide (b.toNat < 128)) = true) (hT : Blanks w) :
    Calls Tryd.prog 32 #[.string s] w fun e w' => e = .returned (.slice (some ⟨w.heap.size, 0, none⟩) (nms s).length (nms s).length) ∧ w' = w.alloc (.cells ((nms s).map Value.string).toArray 9) := by
  refine (Tryd.strings_Fields s w (by omega) (fun j b hb => ?_) hT).mono fun e w' h => ?_
  · have := List.all_eq_true.1 ha b (List.mem_of_getElem? hb)
    simpa using this
  · obtain ⟨rfl, rfl⟩ := h
    unfold nms
    rw [List.length_map, List.map_map]
    exact ⟨rfl, rfl⟩

theorem heap_cell_keep {w w' : World} {b o : Nat} {v : Value} (hb : Below w.heap.size w w') (h : w.cell? ⟨b, o, none⟩ = some v) : w'.cell? ⟨b, o, none⟩ = some v := by
  have hlt := World.block_lt_of_cell? w _ h
  simp at hlt
  exact (hb.cell (p := ⟨b, o, none⟩) hlt).trans h
theorem size_alloc1 (w : World) (o : Obj) : (w.alloc o).heap.size = w.heap.size + 1 := by simp

set_option maxRecDepth 100000 in
set_option maxHeartbeats 4000000 in
theorem new_any (w : World) (hT : Blanks w) : Calls Tryd.prog 10 #[] w fun e w' => e = .returned (.pointer (some ⟨w.heap.size + 1, 0, none⟩)) ∧ Tab w' w.heap.size 54 newF ∧
    w'.cell? ⟨w.heap.size + 1, 0, none⟩ = some (.map (some w.heap.size)) ∧ Below w.heap.size w w' := by
  have H := hid hT
  clear hT
  have hmm := @run_makeMap Tryd.prog
  go_enter Tryd.func10, Tryd.ntmps10
  go_wp2
  clear hmm
  rw [arr_lit]
  have hT0 := hid (((Tab.made w).alloc (.cells #[.map (some w.heap.size)] 60)).mono (m := cnt 0) (Nat.zero_le _))
  have hB0 := hid (((Below.refl w.heap.size w).alloc (Nat.le_refl _) (.map #[] 0)).alloc (by simp) (.cells #[.map (some w.heap.size)] 60))
  have hc0 : ((w.alloc (.map #[] 0)).alloc (.cells #[.map (some w.heap.size)] 60)).cell? ⟨w.heap.size + 1, 0, none⟩ = some (.map (some w.heap.size)) := by
    have := heap_alloc_new (w.alloc (.map #[] 0)) (.cells #[.map (some w.heap.size)] 60)
    simp at this
    simp [World.cell?, this]
  have hc0 := hid hc0
  go_loopw [25] (fun i wr => ∃ k : Nat, k ≤ 15 ∧ i = .int .i64 (k : Int) ∧ Hid (Tab wr w.heap.size (cnt k) (firstF k)) ∧ Hid (wr.cell? ⟨w.heap.size + 1, 0, none⟩ = some (.map (some w.heap.size))) ∧ Below w.heap.size w wr) (fun i _ => 15 - (intOf i).toNat)
  case atStart => exact ⟨0, by omega, rfl, hT0, hc0, hB0.out⟩
  case round =>
    clear hT0 hB0 hc0
    obtain ⟨k, hk, rfl, hTk, hck, hBk⟩ := hrel
    have hc := hck.out
    by_cases hlt : k < 15
    · have hrn := row_names k hlt
      have ix := idxr k hlt
      have hnext : Hid (firstF (k + 1) = addAll (firstF k) (row k).1 (row k).2.1 (nms (row k).2.2)) := hid rfl
      have hcnt := cnt_facts k hlt
      obtain ⟨hcn1, hcn2⟩ := hcnt
      have HC1 := hid hcn1
      clear hcn1
      generalize (row k).1 = P at *
      generalize (row k).2.1 = K at *
      generalize (row k).2.2 = S at *
      generalize firstF k = F at *
      obtain ⟨hn1, hn2, hS, hA⟩ := hrn
      obtain ⟨ws, rfl⟩ : ∃ ws : World, ws = wr := ⟨_, rfl⟩
      have hFl := hid (Fields_row S (ws.alloc (.cells #[.int .i64 P, .int .i64 K, .string S] 61)) hS hA (H.out.keep H.out.lt (hBk.alloc hBk.size _)))
      have HN := hid hn1
      have HNL := hid hn2
      clear hn1 hn2 hS hA
      generalize nms S = L at *
      go_wp2_with (go_at_call 32; (with_reducible refine hFl.out.mono ?_); rintro e w1 ⟨rfl, rfl⟩)
      obtain ⟨wz, hwz⟩ : ∃ wz, wz = (ws.alloc (.cells #[.int .i64 P, .int .i64 K, .string S] 61)).alloc (.cells (L.map Value.string).toArray 9) := ⟨_, rfl⟩
      have hlen : wz.heap.size = ws.heap.size + 2 := by rw [hwz]; simp
      have hBz : Below w.heap.size w wz := by rw [hwz]; exact (hBk.alloc hBk.size _).alloc (by have := hBk.size; simp; omega) _
      have hbz : Below ws.heap.size ws wz := by rw [hwz]; exact ((Below.refl _ _).alloc (Nat.le_refl _) _).alloc (by simp) _
      have hTz := hid (show Tab wz w.heap.size (cnt k + 0) (addAll F P K (L.take 0)) from hTk.out.keep hbz)
      have hcz := hid ((heap_cell_keep hbz hc))
      have hrow := hid (show wz.heap[ws.heap.size]? = some (.cells #[.int .i64 P, .int .i64 K, .string S] 61 (0, 0)) by rw [hwz]; exact heap_keep3 (heap_alloc_new ws _) ((Below.refl _ _).alloc (Nat.le_refl _) _))
      have hnam := hid (show wz.heap[ws.heap.size + 1]? = some (.cells (L.map Value.string).toArray 9 (0, 0)) by
        rw [hwz]
        have := heap_alloc_new (ws.alloc (.cells #[.int .i64 P, .int .i64 K, .string S] 61)) (.cells (L.map Value.string).toArray 9)
        simpa using this)
      rw [← hwz]
      have hTw := hTk
      clear hwz hc hck hTk hFl
      have hbw : w.heap.size < ws.heap.size := by
        have := hTz.out.lt
        have hh := hBk.size
        rcases Nat.lt_or_ge w.heap.size ws.heap.size with h | h
        · exact h
        · exact absurd hTw.out.lt (by omega)
      go_loopw [32] (fun j wq => ∃ m : Nat, m ≤ L.length ∧ j = .int .i64 (m : Int) ∧ Hid (Tab wq w.heap.size (cnt k + m) (addAll F P K (L.take m))) ∧ Hid (wz.grownBy wq (some w.heap.size))) (fun j _ => L.length - (intOf j).toNat)
      case atStart => exact ⟨0, by omega, rfl, hTz, hid (World.grownBy.refl _ _)⟩
      case round =>
        clear hTz
        obtain ⟨m, hm, rfl, hTm, hgm⟩ := hrel
        obtain ⟨r0, r1, r2, _, _, _⟩ := three_cells ((hgm.out.block _ (by omega) (by simp; omega)).trans hrow.out)
        have hcb := hgm.out.cell hcz.out (by simp)
        by_cases hml : m < L.length
        · have hcn : wr.cell? ⟨ws.heap.size + 1, m, none⟩ = some (.string L[m]) := by
            have h1 := (hgm.out.block (ws.heap.size + 1) (by omega) (by simp; omega)).trans hnam.out
            simp [World.cell?, h1, hml]
          have hkey : Hid (Wfk (cls K) L[m]) := hid ⟨cls_wf K, by have := List.all_eq_true.1 HN.out L[m] (List.getElem_mem hml); simp at this; unfold maxLen; omega⟩
          have hput := hid (put_any (w.heap.size + 1) w.heap.size (cnt k + m) (addAll F P K (L.take m)) ⟨L[m], K, P⟩ wr hTm.out hcb hkey.out (by have := HNL.out; unfold maxLen; omega))
          have hstep := hid (addAll_succ F P K L m hml)
          generalize L[m] = nm at *
          have hm100 : m < 100 := by have := HNL.out; omega
          unfold Opn.val at hput
          simp only at hput
          go_wp2_with (go_at_call 33; (with_reducible refine hput.out.mono ?_); rintro e w6 ⟨rfl, hT6, hg6⟩)
          go_roundw
          case rel => exact ⟨m + 1, by omega, by go_num, hid (by rw [hstep.out]; exact hT6), hid (grown_trans hgm.out hg6)⟩
          case measure => simp [intOf]; omega
        · have hme : m = L.length := by omega
          subst hme
          go_wp2
          go_roundw
          case rel =>
            have hT7 := hTm.out
            rw [List.take_length] at hT7
            refine ⟨k + 1, by omega, by go_num, hid ?_, hid hcb, ?_⟩
            · rw [hnext.out]; exact hT7.mono (by have := HC1.out; omega)
            · exact ⟨hgm.out.os.trans hBz.os, hgm.out.tape.trans hBz.tape, hgm.out.output.trans hBz.output, Nat.le_trans hBz.size hgm.out.size, fun i hi => (hgm.out.block i (Nat.lt_of_lt_of_le hi hBz.size) (by simp; omega)).trans (hBz.block i hi)⟩
          case measure => simp [intOf]; omega
    · have hk15 : k = 15 := by omega
      subst hk15
      go_wp2
      go_ret
      exact ⟨rfl, by have h := hTk.out; rw [cnt_end] at h; exact h, hck.out, hBk⟩
end Go.Proofs.YtnbhmgonijlplaaDoor
