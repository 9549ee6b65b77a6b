/- Walks: how many nodes a tree has: count, Nodes. No condition but those that each theorem names. -/
import Derived.Test.YtpdclfihleoigaaDoorT1
import Derived.Laws.Rows
namespace Go.Proofs.YtpdclfihleoigaaDoor
open Go.RowKit

theorem bcell {W w1 : World} (hb : Below W.heap.size W w1) : (∀ b o, b < W.heap.size → w1.cell? ⟨b, o, none⟩ = W.cell? ⟨b, o, none⟩) ∧ (∀ b o, b < W.heap.size → w1.frozen? ⟨b, o, none⟩ = W.frozen? ⟨b, o, none⟩) :=
  ⟨fun b o h => hb.cell (p := ⟨b, o, none⟩) h, fun b o h => hb.frozen (p := ⟨b, o, none⟩) h⟩
theorem cells_of {W : World} {b : Nat} {cs : Array Value} {t : TypeId} (h : W.heap[b]? = some (.cells cs t (0, 0))) (k : Nat) : W.cell? ⟨b, k, none⟩ = cs[k]? := by simp [World.cell?, h]
/-- The object of a term that was boxed. -/
def tobj (t : Tm) (p : Option Addr) (cap : Nat) : Obj := .cells #[.int .i64 t.kind, .string t.name, .string t.num, .int .u64 t.bits, .int .i64 t.var, .slice p t.args.length cap] 26
theorem six_of {W : World} {b : Nat} {t : Tm} {p : Option Addr} {cap : Nat} (h : W.heap[b]? = some (tobj t p cap)) : Six W b 0 t p cap :=
  ⟨(cells_of h 0).trans rfl, (cells_of h 1).trans rfl, (cells_of h 2).trans rfl, (cells_of h 3).trans rfl, (cells_of h 4).trans rfl, (cells_of h 5).trans rfl⟩
/-- Nodes, but most, if they are more. -/
def capped (n : Nat) (m : Int) : Int := if (n : Int) ≤ m then n else m
theorem capped_pos {n : Nat} {m : Int} (hn : 0 < n) (hm : 1 ≤ m) : 1 ≤ capped n m ∧ capped n m ≤ m := by unfold capped; split <;> omega
set_option maxRecDepth 100000 in
set_option maxHeartbeats 2000000 in
theorem count_any (d : Nat) : ∀ (t : Tm) (p : Option Addr) (cap : Nat) (m : Int) (w : World), nodes t ≤ d → TmAt w t p → 1 ≤ m → m ≤ 4001 →
    Calls Tryd.prog 21 #[t.val p cap, .int .i64 m] w fun e w' => e = .returned (.int .i64 (capped (nodes t) m)) ∧ Below w.heap.size w w' := by
  induction d with
  | zero => intro t p cap m w h; have := nodes_pos t; omega
  | succ d ih =>
    intro t p cap m w hd hT hm1 hm2
    unfold Tm.val at ih ⊢
    have IH := hid ih
    have HT := hid hT
    have hlen := hT.len
    unfold maxLen at hlen
    have hn := nodes_args t
    have hB0 := hid (Below.refl w.heap.size w)
    have hne : ∀ k (h : k < t.args.length), nodes t.args[k] ≤ d := fun k h => by have := nodes_lt h; omega
    have HNE := hid hne
    have HN := hid hn
    clear ih hT hn hne
    go_enter Tryd.func21, Tryd.ntmps21
    go_wp2_with fail
    generalize hW : w.alloc _ = W
    have hBW := hid (show Below w.heap.size w W by rw [← hW]; exact (Below.refl _ _).alloc (Nat.le_refl _) _)
    clear hW hB0
    go_loopw [5, 11] (fun n i wr => ∃ (k : Nat) (c : Int), k ≤ t.args.length ∧ i = .int .i64 (k : Int) ∧ n = .int .i64 c ∧ 1 ≤ c ∧ c ≤ m ∧ Hid (c = capped (nodesL (t.args.take k) + 1) m) ∧ Hid (Below w.heap.size w wr)) (fun _ i _ => t.args.length - (intOf i).toNat)
    case atStart => exact ⟨0, 1, by omega, rfl, rfl, by omega, by omega, hid (by simp [nodesL, capped]; omega), hBW⟩
    case round =>
      clear hBW
      obtain ⟨k, c, hk, rfl, rfl, hc1, hc2, hc, hB⟩ := hrel
      by_cases hlt : k < t.args.length
      · obtain ⟨b, o, rfl, q, cq, hs, ht⟩ := (HT.out.keep hB.out).get k hlt
        obtain ⟨x0, x1, x2, x3, x4, x5⟩ := hs
        have HTK := hid ht
        have HSUM := hid (nodesL_take t.args k hlt)
        have HNK := hid (HNE.out k hlt)
        have HPOS := hid (nodes_pos t.args[k])
        clear ht
        generalize t.args[k] = u at *
        by_cases hcm : c = m
        · have hd1 : (c == m) = true := beq_iff_eq.2 hcm
          go_wp2_with fail
          go_ret
          refine ⟨?_, hB.out.alloc hB.out.size _⟩
          have h1 := hc.out
          have h2 := nodesL_take_le t.args k
          have h3 := HN.out
          show Ending.returned (.int .i64 c) = _
          have h4 : capped (nodes t) m = c := by
            unfold capped at h1 ⊢
            split at h1 <;> split <;> omega
          rw [h4]
        · have hd1 : (c == m) = false := beq_eq_false_iff_ne.2 hcm
          have hcm2 : c < m := by omega
          have hs1 := hB.out.alloc hB.out.size (.cells #[.int .i64 u.kind, .string u.name, .string u.num, .int .u64 u.bits, .int .i64 u.var, .slice q u.args.length cq] 26)
          have HTA := hid (HTK.out.keep ((Below.refl wr.heap.size wr).alloc (Nat.le_refl _) (.cells #[.int .i64 u.kind, .string u.name, .string u.num, .int .u64 u.bits, .int .i64 u.var, .slice q u.args.length cq] 26)))
          have HS1 := hid hs1
          have hcp := capped_pos HPOS.out (show 1 ≤ m - c by omega)
          have HCP := hid hcp
          have hcr : c + capped (nodes u) (m - c) = capped (nodesL (t.args.take (k + 1)) + 1) m := by
            have h1 := hc.out
            have h2 := HSUM.out
            rw [h2]
            unfold capped at h1 ⊢
            split at h1 <;> split <;> split <;> omega
          have HCR := hid hcr
          clear hs1 hcr hcp
          go_wp2_with (go_at_call 21; (with_reducible refine (IH.out u q cq (m - c) _ HNK.out HTA.out (by omega) (by omega)).mono ?_); rintro e w2 ⟨rfl, hb2⟩; have B2 := hid (HS1.out.trans (hb2.mono HS1.out.size)); clear hb2; obtain ⟨g1, g2⟩ := HCP.out; generalize capped (nodes u) (m - c) = z at *)
          go_roundw
          case rel => exact ⟨k + 1, c + z, by omega, by go_num, rfl, by omega, by omega, hid HCR.out, B2⟩
          case measure => simp [intOf]; omega
      · obtain rfl : k = t.args.length := by omega
        go_wp2_with fail
        go_ret
        refine ⟨?_, hB.out⟩
        have h1 := hc.out
        have h3 := HN.out
        rw [List.take_length] at h1
        show Ending.returned (.int .i64 c) = _
        rw [h1, h3]
theorem nodes_any (t : Tm) (p : Option Addr) (cap : Nat) (w : World) (hT : TmAt w t p) :
    Calls Tryd.prog 7 #[t.val p cap] w fun e w' => e = .returned (.int .i64 (capped (nodes t) 4001)) ∧ Below w.heap.size w w' := by
  have HT := hid (hT.keep ((Below.refl w.heap.size w).alloc (Nat.le_refl _) (.cells #[.int .i64 t.kind, .string t.name, .string t.num, .int .u64 t.bits, .int .i64 t.var, .slice p t.args.length cap] 26)))
  have C := fun W h => count_any (nodes t) t p cap 4001 W (Nat.le_refl _) h (by omega) (by omega)
  unfold Tm.val at C ⊢
  have HC := hid C
  clear C hT
  go_enter Tryd.func7, Tryd.ntmps7
  go_wp2_with (go_at_call 21; (with_reducible refine (HC.out _ HT.out).mono ?_); rintro e w2 ⟨rfl, hb2⟩; have B2 := hid hb2; clear hb2)
  go_ret
  exact ⟨rfl, ((Below.refl w.heap.size w).alloc (Nat.le_refl _) _).trans (B2.out.mono (by simp))⟩
end Go.Proofs.YtpdclfihleoigaaDoor
