/- The document's answer on tables of operators: Add where it is taken. No condition but those that each theorem names. -/
import Derived.Test.YtnbhmgonijlplaaDoorT35
import Derived.Test.YtnbhmgonijlplaaDoorT37
namespace Go.Proofs.YtnbhmgonijlplaaDoor
open Go.RowKit Go.Joins

def kept (L : List Opn) (c : Int) (s : ByteArray) : List Opn := L.filter (fun x => !keyIs c s x)
def refL (L : List Opn) (p k : Int) (s : ByteArray) : List Opn := kept L (cls k) s ++ (if 0 < p then [⟨s, k, p⟩] else [])
theorem kept_succ (L : List Opn) (c : Int) (s : ByteArray) (m : Nat) (h : m < L.length) : kept (L.take (m + 1)) c s = kept (L.take m) c s ++ (if keyIs c s L[m] = true then [] else [L[m]]) := by
  unfold kept
  rw [List.take_succ_eq_append_getElem h, List.filter_append]
  cases hq : keyIs c s L[m] <;> simp [hq]
theorem kept_le (L : List Opn) (c : Int) (s : ByteArray) : (kept L c s).length ≤ L.length := List.length_filter_le _ _
theorem own_ne {w : World} {base b n : Nat} {v : Value} {xs : List Value} (h : w.ownsRow base 39 3 v n xs) (hb : b < base) : v.ownBlock = none ∨ v.ownBlock ≠ some b := by
  cases e : v.ownBlock with
  | none => exact .inl rfl
  | some q => exact .inr (fun x => by have hq := Option.some.inj x; have := (h.lt q e).1; omega)
section
variable (b : Nat) (L : List Opn) (p k : Int) (s : ByteArray) (w : World) (hT : RefAt w b L) (hlen : (L.length + 1) * 32 ≤ 140737488355328)
include hT hlen
set_option maxRecDepth 100000 in
set_option maxHeartbeats 16000000 in
theorem refAdd_del (hz : refu (look L) p k s = 0) (hp0 : ¬ 0 < p) : Calls Tryd.prog 15 #[.pointer (some ⟨b, 0, none⟩), .int .i64 p, .int .i64 k, .string s] w fun e w' => e = .returned (.int .i64 0) ∧ RefAt w' b (refL L p k s) ∧ w.grownBy w' (some b) := by
  have hl62 : L.length ≤ 4611686018427387904 := by omega
  obtain ⟨c, hck⟩ : ∃ c, c = cls k := ⟨_, rfl⟩
  have HC : Hid (cls k = c) := hid hck.symm
  have hcr := cls_range k
  unfold refu at hz
  rw [← hck] at hz hcr
  clear hck
  have FA := hid (refFind b L 2 s w hT hl62)
  have FB := hid (fun (W : World) (hW : Below w.heap.size w W) => refFind b L 3 s W (hT.keep hW) hl62)
  obtain ⟨v, hB, hv⟩ := hT
  obtain ⟨pp, cap, rfl, hx⟩ := row_ops hv
  unfold lookV Opn.val at FA FB
  have hr : c = 2 → (look L (riv c) s).isSome = (look L 3 s).isSome := by rintro rfl; rfl
  have hr3 : c = 3 → (look L (riv c) s).isSome = (look L 2 s).isSome := by rintro rfl; rfl
  generalize (look L (riv c) s).isSome = q at *
  generalize (look L 2 s).getD Opn.none = x2 at *
  generalize (look L 3 s).getD Opn.none = x3 at *
  generalize (look L 2 s).isSome = q2 at *
  generalize (look L 3 s).isSome = q3 at *
  by_cases hp : p < 0 ∨ 1200 < p
  · rw [if_pos hp] at hz; exact absurd hz (by decide)
  rw [if_neg hp] at hz
  by_cases hk : c = 0
  · rw [if_pos hk] at hz; exact absurd hz (by decide)
  rw [if_neg hk] at hz
  by_cases h44 : s = ⟨#[44]⟩
  · rw [if_pos h44] at hz; exact absurd hz (by decide)
  rw [if_neg h44] at hz
  by_cases hbar : (s = ⟨#[124]⟩ ∧ ¬ (c = 2 ∧ (p = 0 ∨ 1000 < p))) ∨ s = ⟨#[91, 93]⟩ ∨ s = ⟨#[123, 125]⟩
  · rw [if_pos hbar] at hz; exact absurd hz (by decide)
  rw [if_neg hbar] at hz
  have hriv : ¬ (q = true ∧ 0 < p) := fun h => by rw [if_pos h] at hz; exact absurd hz (by decide)
  clear hz
  have hk2 : (c == 0) = false := by simpa using hk
  have n1 : ¬ p < 0 := by omega
  have n2 : ¬ 1200 < p := by omega
  have t1 : (s.toList == [44]) = false := by rw [str_is]; exact decide_eq_false h44
  have t3 : (s.toList == [91, 93]) = false := by rw [str_is]; exact decide_eq_false fun h => hbar (.inr (.inl h))
  have t4 : (s.toList == [123, 125]) = false := by rw [str_is]; exact decide_eq_false fun h => hbar (.inr (.inr h))
  have H : (s.toList == [124]) = false ∨ ((s.toList == [124]) = true ∧ (c != 2) = false ∧ p = 0) := by
    rw [str_is]
    by_cases h : s = ⟨#[124]⟩
    · by_cases h2 : c = 2 ∧ (p = 0 ∨ 1000 < p)
      · exact .inr ⟨decide_eq_true h, by simpa using h2.1, by omega⟩
      · exact absurd (.inl ⟨h, h2⟩) hbar
    · exact .inl (decide_eq_false h)
  clear hbar hriv hr hr3 hp hk h44 hcr
  rcases H with t2 | ⟨t2, u2, rfl⟩
  all_goals
    go_enter Tryd.func15, Tryd.ntmps15
    go_wp2_with (first
      | (go_at_call 38; (with_reducible refine (refClass _ _).mono ?_); rintro e w5 ⟨rfl, rfl⟩; rw [HC.out])
      | (go_at_call 39; (with_reducible refine FA.out.mono ?_); rintro e w1 ⟨rfl, hb1⟩; have B1 := hid (hb1.alloc hb1.size (.cells #[.string x2.name, .int .i64 x2.typ, .int .i64 x2.pri] 39)); clear hb1 FA)
      | (go_at_call 39; (with_reducible refine (FB.out _ B1.out).mono ?_); rintro e w2 ⟨rfl, hb2⟩; have B2 := hid ((B1.out.trans (hb2.mono B1.out.size)).alloc (Nat.le_trans B1.out.size hb2.size) (.cells #[.string x3.name, .int .i64 x3.typ, .int .i64 x3.pri] 39)); clear hb2 FB))
    have O0 := hid (World.ownsRow_nil (w2.alloc (.cells #[.string x3.name, .int .i64 x3.typ, .int .i64 x3.pri] 39)) w.heap.size 39 3)
    have HV := hid hv
    have HX := hid hx
    have HBX := hid hB
    clear hv hx hB
    go_loopw [14, 15] (fun l i wr => ∃ m : Nat, m ≤ L.length ∧ i = .int .i64 (m : Int) ∧ Hid (wr.ownsRow w.heap.size 39 3 l (kept (L.take m) (cls k) s).length (rowOf (kept (L.take m) (cls k) s))) ∧ Hid (Below w.heap.size w wr)) (fun _ i _ => L.length - (intOf i).toNat)
    case atStart => exact ⟨0, by omega, rfl, O0, B2⟩
    case round =>
      clear O0 B2
      obtain ⟨m, hm, rfl, hO, hBk⟩ := hrel
      have hc := heap_cell_keep hBk.out HBX.out.cell
      by_cases hlt : m < L.length
      · obtain ⟨bl, off, rfl, a0, a1, a2⟩ := HX.out m hlt
        have c0 := heap_cell_keep hBk.out a0
        have c1 := heap_cell_keep hBk.out a1
        have c2 := heap_cell_keep hBk.out a2
        have hst := hid (kept_succ L (cls k) s m hlt)
        have hle := kept_le (L.take m) (cls k) s
        have hmt : (L.take m).length = m := by simp; omega
        clear a0 a1 a2
        generalize L[m] = x at *
        generalize hK1 : kept (L.take (m + 1)) (cls k) s = K1 at *
        have HK1 := hid hK1
        clear hK1
        generalize kept (L.take m) (cls k) s = K0 at *
        rw [hmt] at hle
        have HK : Hid (K1 = K0 ++ (if keyIs (cls k) s x = true then [] else [x])) := hst
        have hlK : K0.length + 1 ≤ maxLen := by unfold maxLen; omega
        have hbK : (K0.length + 1) * 32 ≤ 140737488355328 := by omega
        by_cases hn : x.name = s
        · have hd1 : (x.name.toList == s.toList) = true := by rw [names_eq, decide_eq_true hn]
          by_cases hcl : cls x.typ = cls k
          · have hd2 : (cls x.typ == cls k) = true := by simpa using hcl
            rw [HC.out] at hd2
            have HE : Hid (K1 = K0) := hid (by rw [HK.out, if_pos (by unfold keyIs; rw [decide_eq_true hn, decide_eq_true hcl]; rfl), List.append_nil])
            clear hn hcl
            go_wp2_with (go_at_call 38; (with_reducible refine (refClass _ _).mono ?_); rintro e w5 ⟨rfl, rfl⟩)
            go_roundw
            case rel => exact ⟨m + 1, by omega, by go_num, by rw [HK1.out, HE.out]; exact hO, hBk⟩
            case measure => simp [intOf]; omega
          · have hd2 : (cls x.typ == cls k) = false := by simpa using hcl
            rw [HC.out] at hd2
            have HE : Hid (K1 = K0 ++ [x]) := hid (by rw [HK.out, if_neg (by unfold keyIs; rw [decide_eq_false hcl, Bool.and_false]; exact Bool.false_ne_true)])
            clear hn hcl
            have hsz := hid hBk.out.size
            go_wp2_with (first
              | (go_at_call 38; (with_reducible refine (refClass _ _).mono ?_); rintro e w5 ⟨rfl, rfl⟩)
              | (at_builtin; refine wpList_app3 rfl _ _ rfl ?_; refine ⟨w.heap.size, _, _, x, 1, _, rfl, World.ownsRow.alloc hO.out _, ⟨wr.heap.size, rfl, heap_alloc_new wr _⟩, hlK, hbK, by have := hsz.out; simp; omega, ?_⟩; intro g' cap' w5 hown' hgrow; have HO5 := hid hown'; have HB5 := hid ((hBk.out.alloc hBk.out.size _).grown hgrow (by have := hsz.out; simp; omega) (fun q e => (hO.out.lt q e).1)); clear hown' hgrow))
            go_roundw
            case rel => exact ⟨m + 1, by omega, by go_num, by rw [HK1.out, HE.out, rowOf_snoc, List.length_append]; exact HO5, HB5⟩
            case measure => simp [intOf]; omega
        · have hd1 : (x.name.toList == s.toList) = false := by rw [names_eq, decide_eq_false hn]
          have HE : Hid (K1 = K0 ++ [x]) := hid (by rw [HK.out, if_neg (by unfold keyIs; rw [decide_eq_false hn, Bool.false_and]; exact Bool.false_ne_true)])
          clear hn
          have hsz := hid hBk.out.size
          go_wp2_with (first
            | (go_at_call 38; (with_reducible refine (refClass _ _).mono ?_); rintro e w5 ⟨rfl, rfl⟩)
            | (at_builtin; refine wpList_app3 rfl _ _ rfl ?_; refine ⟨w.heap.size, _, _, x, 1, _, rfl, World.ownsRow.alloc hO.out _, ⟨wr.heap.size, rfl, heap_alloc_new wr _⟩, hlK, hbK, by have := hsz.out; simp; omega, ?_⟩; intro g' cap' w5 hown' hgrow; have HO5 := hid hown'; have HB5 := hid ((hBk.out.alloc hBk.out.size _).grown hgrow (by have := hsz.out; simp; omega) (fun q e => (hO.out.lt q e).1)); clear hown' hgrow))
          go_roundw
          case rel => exact ⟨m + 1, by omega, by go_num, by rw [HK1.out, HE.out, rowOf_snoc, List.length_append]; exact HO5, HB5⟩
          case measure => simp [intOf]; omega
      · obtain rfl : m = L.length := by omega
        clear hlt
        rw [List.take_length] at hO
        have fz := (show Boxed wr b 71 _ from heap_keep3 HBX.out hBk.out).frozen
        have hbb := HBX.out.lt
        obtain ⟨po, nl, cl, hl⟩ : ∃ p n c, u14 = Value.slice p n c := by rcases ownsRow_forms hO.out with ⟨h, _⟩ | ⟨g, c, h⟩ <;> exact ⟨_, _, _, h⟩
        subst hl
        go_wp2
        have hlw := hO.out
        go_ret
        have hs := grownBy_setCell' wr b (.slice po nl cl)
        refine ⟨rfl, ⟨_, (show Boxed wr b 71 _ from heap_keep3 HBX.out hBk.out).set _, ?_⟩, ?_⟩
        · unfold refL
          rw [if_neg (by omega), List.append_nil]
          exact ownsRow_base (hlw.kept hs (own_ne hlw hbb)) (Nat.zero_le _)
        · exact grown_trans (below_grown hBk.out) hs
end
end Go.Proofs.YtnbhmgonijlplaaDoor
