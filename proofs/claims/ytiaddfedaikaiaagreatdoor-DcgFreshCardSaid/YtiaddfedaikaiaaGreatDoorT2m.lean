/- Trees of terms: plain, and how they lie in memory. No condition but those that each theorem names. Walks: how many nodes a tree has: count, Nodes. No condition but those that each theorem names. What Check tells of a tree: plain. No condition but those that each theorem names. -/
import Derived.WalkKit
import Derived.WalkSpells
import Derived.Lib.Hide
import Derived.Deep.QuietTactic
import Derived.BigQuiet
import Derived.Test.YtiaddfedaikaiaaGreatDoorBigMemm
import Derived.Laws.Rows
namespace Go.Proofs.YtiaddfedaikaiaaGreatDoor
open Go.RowKit

/-- A tree. -/
inductive Tm where
  | mk (kind : Int) (name num : ByteArray) (bits var : Int) (args : List Tm)
namespace Tm
def kind : Tm → Int | .mk k _ _ _ _ _ => k
def name : Tm → ByteArray | .mk _ n _ _ _ _ => n
def num : Tm → ByteArray | .mk _ _ n _ _ _ => n
def bits : Tm → Int | .mk _ _ _ b _ _ => b
def var : Tm → Int | .mk _ _ _ _ v _ => v
def args : Tm → List Tm | .mk _ _ _ _ _ a => a
end Tm
mutual
/-- How many nodes. -/
def nodes : Tm → Nat
  | .mk _ _ _ _ _ l => nodesL l + 1
def nodesL : List Tm → Nat
  | [] => 0
  | t :: l => nodes t + nodesL l
end
theorem nodes_pos (t : Tm) : 0 < nodes t := by cases t; simp [nodes]
theorem nodes_args (t : Tm) : nodes t = nodesL t.args + 1 := by cases t; simp [nodes, Tm.args]
theorem nodesL_take : ∀ (l : List Tm) (k : Nat) (h : k < l.length), nodesL (l.take (k + 1)) = nodesL (l.take k) + nodes l[k]
  | [], k, h => by simp at h
  | t :: l, 0, _ => by simp [nodesL]
  | t :: l, k + 1, h => by
    have := nodesL_take l k (by simpa using h)
    simp only [List.take_succ_cons, nodesL, List.getElem_cons_succ]
    omega
theorem nodesL_take_le (l : List Tm) : ∀ k, nodesL (l.take k) ≤ nodesL l := by
  induction l with
  | nil => intro k; simp
  | cons t l ih =>
    intro k
    cases k with
    | zero => simp [nodesL]
    | succ k => have := ih k; simp only [List.take_succ_cons, nodesL]; omega
theorem nodes_mem {l : List Tm} {t : Tm} (h : t ∈ l) : nodes t ≤ nodesL l := by
  induction l with
  | nil => cases h
  | cons u l ih =>
    rcases List.mem_cons.1 h with rfl | h
    · simp [nodesL]
    · have := ih h; simp only [nodesL]; omega
theorem nodes_lt {t : Tm} {k : Nat} (h : k < t.args.length) : nodes t.args[k] < nodes t := by
  have := nodes_mem (List.getElem_mem h)
  rw [nodes_args t]
  omega
/-- A term's value, where its arguments lie from p on. -/
def Tm.val (t : Tm) (p : Option Addr) (cap : Nat) : Value := .agg #[.int .i64 t.kind, .string t.name, .string t.num, .int .u64 t.bits, .int .i64 t.var, .slice p t.args.length cap]
/-- Six cells from an offset on hold the term's fields. -/
structure Six (w : World) (b o : Nat) (t : Tm) (p : Option Addr) (cap : Nat) : Prop where
  c0 : w.cell? ⟨b, o, none⟩ = some (.int .i64 t.kind)
  c1 : w.cell? ⟨b, o + 1, none⟩ = some (.string t.name)
  c2 : w.cell? ⟨b, o + 2, none⟩ = some (.string t.num)
  c3 : w.cell? ⟨b, o + 3, none⟩ = some (.int .u64 t.bits)
  c4 : w.cell? ⟨b, o + 4, none⟩ = some (.int .i64 t.var)
  c5 : w.cell? ⟨b, o + 5, none⟩ = some (.slice p t.args.length cap)
mutual
/-- The arguments of a term, and theirs, lie from p on. -/
def TmAt (w : World) : Tm → Option Addr → Prop
  | .mk _ _ _ _ _ l, p => l.length ≤ maxLen ∧ (l = [] ∨ ∃ b o, p = some ⟨b, o, none⟩ ∧ RowT w l b o)
def RowT (w : World) : List Tm → Nat → Nat → Prop
  | [], _, _ => True
  | t :: l, b, o => (∃ p cap, Six w b o t p cap ∧ TmAt w t p) ∧ RowT w l b (o + 6)
end
theorem heap_cell_keep {w w' : World} {b o : Nat} {v : Value} (hb : Below w.heap.size w w') (h : w.cell? ⟨b, o, none⟩ = some v) : w'.cell? ⟨b, o, none⟩ = some v := by
  have hlt := World.block_lt_of_cell? w _ h
  exact (hb.cell (by simpa using hlt)).trans h
theorem Six.keep {w w' : World} {b o : Nat} {t : Tm} {p : Option Addr} {cap : Nat} (h : Six w b o t p cap) (hb : Below w.heap.size w w') : Six w' b o t p cap :=
  ⟨heap_cell_keep hb h.c0, heap_cell_keep hb h.c1, heap_cell_keep hb h.c2, heap_cell_keep hb h.c3, heap_cell_keep hb h.c4, heap_cell_keep hb h.c5⟩
mutual
theorem TmAt.keep {w w' : World} (hb : Below w.heap.size w w') : ∀ {t : Tm} {p : Option Addr}, TmAt w t p → TmAt w' t p
  | .mk _ _ _ _ _ l, p, h => by
    unfold TmAt at h ⊢
    refine ⟨h.1, ?_⟩
    rcases h.2 with h | ⟨b, o, e, h⟩
    · exact .inl h
    · exact .inr ⟨b, o, e, RowT.keep hb h⟩
theorem RowT.keep {w w' : World} (hb : Below w.heap.size w w') : ∀ {l : List Tm} {b o : Nat}, RowT w l b o → RowT w' l b o
  | [], _, _, _ => by unfold RowT; trivial
  | t :: l, b, o, h => by
    unfold RowT at h ⊢
    obtain ⟨⟨p, cap, h1, h2⟩, h3⟩ := h
    exact ⟨⟨p, cap, h1.keep hb, TmAt.keep hb h2⟩, RowT.keep hb h3⟩
end
theorem RowT.get {w : World} : ∀ {l : List Tm} {b o : Nat}, RowT w l b o → ∀ k (h : k < l.length), ∃ p cap, Six w b (o + k * 6) l[k] p cap ∧ TmAt w l[k] p
  | [], _, _, _, k, h => by simp at h
  | t :: l, b, o, h, 0, _ => by
    unfold RowT at h
    simpa using h.1
  | t :: l, b, o, h, k + 1, hk => by
    unfold RowT at h
    obtain ⟨p, cap, h1, h2⟩ := RowT.get h.2 k (by simpa using hk)
    rw [show o + 6 + k * 6 = o + (k + 1) * 6 by omega] at h1
    exact ⟨p, cap, by simpa using h1, by simpa using h2⟩
theorem TmAt.get {w : World} {t : Tm} {p : Option Addr} (h : TmAt w t p) (k : Nat) (hk : k < t.args.length) : ∃ b o, p = some ⟨b, o, none⟩ ∧ ∃ q cap, Six w b (o + k * 6) t.args[k] q cap ∧ TmAt w t.args[k] q := by
  cases t with
  | mk _ _ _ _ _ l =>
    unfold TmAt at h
    rcases h.2 with rfl | ⟨b, o, e, h⟩
    · simp [Tm.args] at hk
    · exact ⟨b, o, e, h.get k hk⟩
theorem TmAt.len {w : World} {t : Tm} {p : Option Addr} (h : TmAt w t p) : t.args.length ≤ maxLen := by
  cases t with
  | mk _ _ _ _ _ l => unfold TmAt at h; exact h.1
end Go.Proofs.YtiaddfedaikaiaaGreatDoor

namespace Go.Proofs.YtiaddfedaikaiaaGreatDoor
open Go.RowKit

theorem cells_of {W : World} {b : Nat} {cs : Array Value} {t : TypeId} (h : W.heap[b]? = some (.cells cs t (0, 0))) (k : Nat) : W.cell? ⟨b, k, none⟩ = cs[k]? := by simp [World.cell?, h]
/-- The object of a term that was boxed. -/
def tobj (t : Tm) (p : Option Addr) (cap : Nat) : Obj := .cells #[.int .i64 t.kind, .string t.name, .string t.num, .int .u64 t.bits, .int .i64 t.var, .slice p t.args.length cap] 25
theorem six_of {W : World} {b : Nat} {t : Tm} {p : Option Addr} {cap : Nat} (h : W.heap[b]? = some (tobj t p cap)) : Six W b 0 t p cap :=
  ⟨(cells_of h 0).trans rfl, (cells_of h 1).trans rfl, (cells_of h 2).trans rfl, (cells_of h 3).trans rfl, (cells_of h 4).trans rfl, (cells_of h 5).trans rfl⟩
/-- Nodes, but most, if they are more. -/
def capped (n : Nat) (m : Int) : Int := if (n : Int) ≤ m then n else m
theorem capped_pos {n : Nat} {m : Int} (hn : 0 < n) (hm : 1 ≤ m) : 1 ≤ capped n m ∧ capped n m ≤ m := by unfold capped; split <;> omega
set_option maxRecDepth 100000 in
set_option maxHeartbeats 2000000 in
theorem count_any (d : Nat) : ∀ (t : Tm) (p : Option Addr) (cap : Nat) (m : Int) (w : World), nodes t ≤ d → TmAt w t p → 1 ≤ m → m ≤ 4001 →
    Calls Tryz.prog 150 #[t.val p cap, .int .i64 m] w fun e w' => e = .returned (.int .i64 (capped (nodes t) m)) ∧ Below w.heap.size w w' := by
  induction d with
  | zero => intro t p cap m w h; have := nodes_pos t; omega
  | succ d ih =>
    intro t p cap m w hd hT hm1 hm2
    unfold Tm.val at ih ⊢
    have IH := hid ih
    have HT := hid hT
    have hlen := hT.len
    unfold maxLen at hlen
    have hn := nodes_args t
    have hB0 := hid (Below.refl w.heap.size w)
    have hne : ∀ k (h : k < t.args.length), nodes t.args[k] ≤ d := fun k h => by have := nodes_lt h; omega
    have HNE := hid hne
    have HN := hid hn
    clear ih hT hn hne
    go_enter Tryz.func150, Tryz.ntmps150
    go_wp2_with fail
    generalize hW : w.alloc _ = W
    have hBW := hid (show Below w.heap.size w W by rw [← hW]; exact (Below.refl _ _).alloc (Nat.le_refl _) _)
    clear hW hB0
    go_loopw [5, 11] (fun n i wr => ∃ (k : Nat) (c : Int), k ≤ t.args.length ∧ i = .int .i64 (k : Int) ∧ n = .int .i64 c ∧ 1 ≤ c ∧ c ≤ m ∧ Hid (c = capped (nodesL (t.args.take k) + 1) m) ∧ Hid (Below w.heap.size w wr)) (fun _ i _ => t.args.length - (intOf i).toNat)
    case atStart => exact ⟨0, 1, by omega, rfl, rfl, by omega, by omega, hid (by simp [nodesL, capped]; omega), hBW⟩
    case round =>
      clear hBW
      obtain ⟨k, c, hk, rfl, rfl, hc1, hc2, hc, hB⟩ := hrel
      by_cases hlt : k < t.args.length
      · obtain ⟨b, o, rfl, q, cq, hs, ht⟩ := (HT.out.keep hB.out).get k hlt
        obtain ⟨x0, x1, x2, x3, x4, x5⟩ := hs
        have HTK := hid ht
        have HSUM := hid (nodesL_take t.args k hlt)
        have HNK := hid (HNE.out k hlt)
        have HPOS := hid (nodes_pos t.args[k])
        clear ht
        generalize t.args[k] = u at *
        by_cases hcm : c = m
        · have hd1 : (c == m) = true := beq_iff_eq.2 hcm
          go_wp2_with fail
          go_ret
          refine ⟨?_, hB.out.alloc hB.out.size _⟩
          have h1 := hc.out
          have h2 := nodesL_take_le t.args k
          have h3 := HN.out
          show Ending.returned (.int .i64 c) = _
          have h4 : capped (nodes t) m = c := by
            unfold capped at h1 ⊢
            split at h1 <;> split <;> omega
          rw [h4]
        · have hd1 : (c == m) = false := beq_eq_false_iff_ne.2 hcm
          have hcm2 : c < m := by omega
          have hs1 := hB.out.alloc hB.out.size (.cells #[.int .i64 u.kind, .string u.name, .string u.num, .int .u64 u.bits, .int .i64 u.var, .slice q u.args.length cq] 25)
          have HTA := hid (HTK.out.keep ((Below.refl wr.heap.size wr).alloc (Nat.le_refl _) (.cells #[.int .i64 u.kind, .string u.name, .string u.num, .int .u64 u.bits, .int .i64 u.var, .slice q u.args.length cq] 25)))
          have HS1 := hid hs1
          have hcp := capped_pos HPOS.out (show 1 ≤ m - c by omega)
          have HCP := hid hcp
          have hcr : c + capped (nodes u) (m - c) = capped (nodesL (t.args.take (k + 1)) + 1) m := by
            have h1 := hc.out
            have h2 := HSUM.out
            rw [h2]
            unfold capped at h1 ⊢
            split at h1 <;> split <;> split <;> omega
          have HCR := hid hcr
          clear hs1 hcr hcp
          go_wp2_with (go_at_call 150; (with_reducible refine (IH.out u q cq (m - c) _ HNK.out HTA.out (by omega) (by omega)).mono ?_); rintro e w2 ⟨rfl, hb2⟩; have B2 := hid (HS1.out.trans (hb2.mono HS1.out.size)); clear hb2; obtain ⟨g1, g2⟩ := HCP.out; generalize capped (nodes u) (m - c) = z at *)
          go_roundw
          case rel => exact ⟨k + 1, c + z, by omega, by go_num, rfl, by omega, by omega, hid HCR.out, B2⟩
          case measure => simp [intOf]; omega
      · obtain rfl : k = t.args.length := by omega
        go_wp2_with fail
        go_ret
        refine ⟨?_, hB.out⟩
        have h1 := hc.out
        have h3 := HN.out
        rw [List.take_length] at h1
        show Ending.returned (.int .i64 c) = _
        rw [h1, h3]
theorem nodes_any (t : Tm) (p : Option Addr) (cap : Nat) (w : World) (hT : TmAt w t p) :
    Calls Tryz.prog 118 #[t.val p cap] w fun e w' => e = .returned (.int .i64 (capped (nodes t) 4001)) ∧ Below w.heap.size w w' := by
  have HT := hid (hT.keep ((Below.refl w.heap.size w).alloc (Nat.le_refl _) (.cells #[.int .i64 t.kind, .string t.name, .string t.num, .int .u64 t.bits, .int .i64 t.var, .slice p t.args.length cap] 25)))
  have C := fun W h => count_any (nodes t) t p cap 4001 W (Nat.le_refl _) h (by omega) (by omega)
  unfold Tm.val at C ⊢
  have HC := hid C
  clear C hT
  go_enter Tryz.func118, Tryz.ntmps118
  go_wp2_with (go_at_call 150; (with_reducible refine (HC.out _ HT.out).mono ?_); rintro e w2 ⟨rfl, hb2⟩; have B2 := hid hb2; clear hb2)
  go_ret
  exact ⟨rfl, ((Below.refl w.heap.size w).alloc (Nat.le_refl _) _).trans (B2.out.mono (by simp))⟩
end Go.Proofs.YtiaddfedaikaiaaGreatDoor

namespace Go.Proofs.YtiaddfedaikaiaaGreatDoor

/-- Are the fields those of the kind? -/
def fieldsOk (t : Tm) : Bool :=
  decide (1 ≤ t.kind) && decide (t.kind ≤ 5) && (decide (t.kind = 2) || decide (t.kind = 5) || t.name.toList.isEmpty) && (decide (t.kind = 3) || t.num.toList.isEmpty) && (decide (t.kind = 4) || decide (t.bits = 0)) &&
    (decide (t.kind = 1) || decide (t.var = 0)) && decide (0 ≤ t.var) && (if t.kind = 5 then decide (0 < t.args.length) && decide (t.args.length ≤ 64) else decide (t.args.length = 0))
section
variable (vn vi : ByteArray → Bool) (vb : Int → Bool)
/-- What is wrong with a node: vn tells of names, vi of an integer's text, vb of a float's bits. -/
def nodeErr (t : Tm) : Int :=
  if fieldsOk t = false then 20 else if (decide (t.name.size ≤ 1000) && vn t.name) = false then 21 else if t.kind = 3 ∧ vi t.num = false then 22 else if t.kind = 4 ∧ vb t.bits = false then 23 else 0
mutual
def treeErr : Tm → Int
  | .mk k n u b v l => if nodeErr vn vi vb (.mk k n u b v l) = 0 then rowErr l else nodeErr vn vi vb (.mk k n u b v l)
def rowErr : List Tm → Int
  | [] => 0
  | t :: l => if treeErr t = 0 then rowErr l else treeErr t
end
theorem treeErr_args (t : Tm) : treeErr vn vi vb t = if nodeErr vn vi vb t = 0 then rowErr vn vi vb t.args else nodeErr vn vi vb t := by
  cases t; simp [treeErr, Tm.args]
theorem rowErr_drop : ∀ (l : List Tm) (k : Nat) (h : k < l.length), rowErr vn vi vb (l.drop k) = if treeErr vn vi vb l[k] = 0 then rowErr vn vi vb (l.drop (k + 1)) else treeErr vn vi vb l[k]
  | [], k, h => by simp at h
  | t :: l, 0, _ => by simp [rowErr]
  | t :: l, k + 1, h => by
    have := rowErr_drop l k (by simpa using h)
    simpa using this
/-- What Check tells. -/
def checkErr (t : Tm) : Int := if 4000 < nodes t then 24 else treeErr vn vi vb t
/-- The first that is wrong. -/
def checksErr : List Tm → Int
  | [] => 0
  | t :: l => if checkErr vn vi vb t = 0 then checksErr l else checkErr vn vi vb t
theorem checksErr_drop : ∀ (l : List Tm) (k : Nat) (h : k < l.length), checksErr vn vi vb (l.drop k) = if checkErr vn vi vb l[k] = 0 then checksErr vn vi vb (l.drop (k + 1)) else checkErr vn vi vb l[k]
  | [], k, h => by simp at h
  | t :: l, 0, _ => by simp [checksErr]
  | t :: l, k + 1, h => by
    have := checksErr_drop l k (by simpa using h)
    simpa using this
end
end Go.Proofs.YtiaddfedaikaiaaGreatDoor
