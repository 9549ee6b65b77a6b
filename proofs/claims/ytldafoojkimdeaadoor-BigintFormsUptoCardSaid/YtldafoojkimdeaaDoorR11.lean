/- What the laws over the document's answer share: normal integers that are the same; boxes of integers, of lent integers and of the document's integers. No condition but those that each theorem names. -/
import Derived.Test.YtldafoojkimdeaaDoorR10
import Derived.Test.YtldafoojkimdeaaDoorW35
import Derived.Test.YtldafoojkimdeaaDoorW10
namespace Go.Proofs.YtldafoojkimdeaaDoor
open Go.RowKit Lm

/-- An integer as the document has them: normal limbs that can be read. -/
def Nrm (w : World) (n : Bool) (o : Option Addr) (l c : Nat) (v : Int) : Prop := ∃ L, Rd w o l c L ∧ Top L ∧ num n L = v ∧ (L = [] → n = false)
theorem Nrm.keep {w w' : World} {n : Bool} {o : Option Addr} {l c : Nat} {v : Int} (h : Nrm w n o l c v) (hb : Below w.heap.size w w') : Nrm w' n o l c v := by
  obtain ⟨L, h1, h2⟩ := h; exact ⟨L, h1.keep hb, h2⟩
theorem Nrm.of_num {B : Nat} {w : World} {n : Bool} {o : Option Addr} {l : Nat} {v u : Int} (h : Num B w n o l v) (e : v = u) : Nrm w n o l l u := by
  obtain ⟨L, h1, h2, h3, h4⟩ := h.rd
  exact ⟨L, h1, h2, h3.trans e, h4⟩
theorem num_inj {n m : Bool} {L M : List Nat} (oL : Ok L) (oM : Ok M) (tL : Top L) (tM : Top M) (hn : L = [] → n = false) (hm : M = [] → m = false) (h : num n L = num m M) : n = m ∧ L = M := by
  have hv : val L = val M := by have := congrArg Int.natAbs h; rwa [num_abs, num_abs] at this
  have hl := top_inj oL oM tL tM hv
  refine ⟨?_, hl⟩
  subst hl
  by_cases h0 : L = []
  · rw [hn h0, hm h0]
  · have hp : val L ≠ 0 := fun e => h0 (top_zero tL e)
    unfold num at h
    cases n <;> cases m <;> simp at h ⊢ <;> omega
theorem sameV {w : World} {n m : Bool} {o p : Option Addr} {l c k d : Nat} {v : Int} (h1 : Nrm w n o l c v) (h2 : Nrm w m p k d v) :
    Calls Tryd.prog 19 #[.agg #[.bool n, .slice o l c], .agg #[.bool m, .slice p k d]] w fun e w' => e = .returned (.bool true) ∧ Below w.heap.size w w' := by
  obtain ⟨L, a1, a2, a3, a4⟩ := h1
  obtain ⟨M, b1, b2, b3, b4⟩ := h2
  obtain ⟨rfl, rfl⟩ := num_inj a1.ok b1.ok a2 b2 a4 b4 (a3.trans b3.symm)
  obtain rfl : l = k := a1.size.symm.trans b1.size
  exact sameR n o l c L p d w a1 b1
theorem intN (n : Bool) (xo : Option Addr) (xl xc : Nat) (v : Int) (w : World) (h : Big w n xo xl xc v) (sx : xl ≤ 1073741824) :
    Calls Tryd.prog 21 #[.agg #[.bool n, .slice xo xl xc]] w fun e w' => ∃ n' o l c, e = .returned (.agg #[.bool n', .slice o l c]) ∧ Nrm w' n' o l c v ∧ Below w.heap.size w w' := by
  refine (intR n xo xl xc v w h sx).mono ?_
  rintro e w' ⟨n', o, l, c, M, rfl, h1, h2, h3, h4, h5⟩
  exact ⟨n', o, l, c, rfl, ⟨M, h1, h2, h3, h4⟩, h5⟩

/-- A variable's block that holds a struct of two cells. -/
def Pr (w : World) (g : Nat) (t : TypeId) (x y : Value) : Prop := w.heap[g]? = some (.cells #[x, y] t (0, 0))
theorem Pr.keep {w w' : World} {g : Nat} {t : TypeId} {x y : Value} (h : Pr w g t x y) (hb : Below w.heap.size w w') : Pr w' g t x y := heap_keep h hb
theorem Pr.lt {w : World} {g : Nat} {t : TypeId} {x y : Value} (h : Pr w g t x y) : g < w.heap.size := lt_of_block h
theorem Pr.alloc {w : World} {g : Nat} {t : TypeId} {x y : Value} (h : Pr w g t x y) (o : Obj) : Pr (w.alloc o) g t x y := h.keep ((Below.refl _ _).alloc (Nat.le_refl _) _)
theorem Pr.drew {w : World} {g : Nat} {t : TypeId} {x y : Value} (h : Pr w g t x y) : Pr w.drew g t x y := h
theorem Pr.new (w : World) (t : TypeId) (x y : Value) : Pr (w.alloc (.cells #[x, y] t)) w.heap.size t x y := heap_alloc_new w _
theorem Lent.alloc {B : Nat} {w : World} {g la cap : Nat} {A : List Nat} (h : Lent B w g la cap A) (o : Obj) : Lent B (w.alloc o) g la cap A := h.keep ((Below.refl _ _).alloc (Nat.le_refl _) _)
theorem Lent.drew {B : Nat} {w : World} {g la cap : Nat} {A : List Nat} (h : Lent B w g la cap A) : Lent B w.drew g la cap A := h.keep (Below.refl _ _).drew
theorem Lent.base {B B' : Nat} {w : World} {g la cap : Nat} {A : List Nat} (h : Lent B w g la cap A) (hb : B' ≤ B) : Lent B' w g la cap A := ⟨h.own.base hb, h.size⟩
theorem Lent.ge {B : Nat} {w : World} {g la cap : Nat} {A : List Nat} (h : Lent B w g la cap A) : B ≤ g ∧ g < w.heap.size := by
  rcases h.own.2 with ⟨h', _⟩ | ⟨g', cap', cur, h', hb, hg, _⟩
  · simp at h'
  · simp only [Value.slice.injEq, Option.some.injEq, Addr.mk.injEq, and_true, true_and] at h'
    obtain ⟨rfl, _⟩ := h'
    exact ⟨hb, lt_of_block hg⟩
theorem sign_v {w : World} {n : Bool} {ao : Option Addr} {len cap : Nat} {A : List Nat} {v : Int} (h : Rd w ao len cap A) (e : num n A = v) :
    Calls Tryd.prog 28 #[.agg #[.bool n, .slice ao len cap]] w fun e w' => e = .returned (.int .i64 v.sign) ∧ Below w.heap.size w w' := by
  subst e
  refine (sign_any n ao len cap A w h).mono ?_
  rintro e w' ⟨rfl, rfl⟩
  exact ⟨rfl, (Below.refl _ _).alloc (Nat.le_refl _) _⟩
theorem cmp_v {w : World} {n : Bool} {ao : Option Addr} {len cap : Nat} {A : List Nat} {v : Int} {m : Bool} {bo : Option Addr} {lem cbp : Nat} {B : List Nat} {u : Int} (h : Rd w ao len cap A) (e : num n A = v) (h' : Rd w bo lem cbp B) (e' : num m B = u) :
    Calls Tryd.prog 30 #[.agg #[.bool n, .slice ao len cap], .agg #[.bool m, .slice bo lem cbp]] w fun e w' => e = .returned (.int .i64 (v - u).sign) ∧ Below w.heap.size w w' := by
  subst e e'
  exact cmp_any n ao len cap A m bo lem cbp B w h h'
theorem bits_v {w : World} {n : Bool} {ao : Option Addr} {len cap : Nat} {A : List Nat} {k : Nat} (h : Rd w ao len cap A) (e : bl (val A) = k) :
    Calls Tryd.prog 32 #[.agg #[.bool n, .slice ao len cap]] w fun e w' => e = .returned (.int .i64 (k : Int)) ∧ Below w.heap.size w w' := by
  subst e
  exact bits_any n ao len cap A w h
theorem Lent.same {B : Nat} {w w' : World} {g la cap : Nat} {A : List Nat} (h : Lent B w g la cap A) (hg : w'.heap[g]? = w.heap[g]?) : Lent B w' g la cap A := by
  refine ⟨?_, h.size⟩
  have h1 := h.own
  unfold Grow at *
  rcases h1.2 with ⟨h', _⟩ | ⟨g', cap', cur, h', hb', hg', r⟩
  · simp at h'
  · have h2 := h'
    simp only [Value.slice.injEq, Option.some.injEq, Addr.mk.injEq, and_true, true_and] at h2
    obtain ⟨rfl, _⟩ := h2
    exact ⟨h1.1, .inr ⟨g, cap', cur, h', hb', by rw [hg]; exact hg', r⟩⟩
theorem Lent.apart {B : Nat} {w : World} {g la cap : Nat} {A : List Nat} (h : Lent B w g la cap A) {p : Nat} {x y : Value} (hp : Pr w p 24 x y) : p ≠ g := by
  rintro rfl
  rcases h.own.2 with ⟨h', _⟩ | ⟨g', cap', cur, h', hb', hg', r⟩
  · simp at h'
  · simp only [Value.slice.injEq, Option.some.injEq, Addr.mk.injEq, and_true, true_and] at h'
    obtain ⟨rfl, _⟩ := h'
    unfold Pr at hp
    rw [hg'] at hp
    simp at hp
end Go.Proofs.YtldafoojkimdeaaDoor
