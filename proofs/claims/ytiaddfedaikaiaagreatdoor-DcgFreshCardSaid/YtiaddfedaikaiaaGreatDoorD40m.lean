/- Walks: Body, of whatever trees. No condition but those that each theorem names. Walk: awake, ahead of each law of the layer. No condition but that the tables of unicode/utf8 lie as its text lays them. -/
import Derived.Test.YtiaddfedaikaiaaGreatDoorD38m
namespace Go.Proofs.YtiaddfedaikaiaaGreatDoor
open Go.RowKit

theorem results_tri {fn : Func} {p u v : Tmp} {b : Nat} {t : Tm} {q : Option Addr} {cap : Nat} (h : fn.results = #[.cell p 25, .tmp u, .tmp v]) (tmps : Array Value) (W : World) (x y : Value) (hp : tmps.getD p undef = .pointer (some ⟨b, 0, none⟩) ∧ tmps.getD u undef = x ∧ tmps.getD v undef = y) (hg : W.heap[b]? = some (tobj t q cap)) :
    (results fn tmps).run Tryz.prog W = .ok (.tuple #[t.val q cap, x, y]) W := by
  have hl := run_loadVar_row (P := Tryz.prog) W b 25 25 _ _ _ hg Tryz.underlying25 rfl (by kernel_rfl)
  obtain ⟨h1, h2, h3⟩ := hp
  have h1' : tmps[p]?.getD undef = .pointer (some ⟨b, 0, none⟩) := by simpa using h1
  have h2' : tmps[u]?.getD undef = x := by simpa using h2
  have h3' : tmps[v]?.getD undef = y := by simpa using h3
  simp [results, h, h1', h2', h3', asAddr, Result.andThen, hl, Tm.val]
/-- What made comes to, over what Body hands it. -/
theorem madeB_any (t f e : Tm) (p pf pe : Option Addr) (c cf ce : Nat) (bt bf be : Nat) (n : Int) (w : World) (ht : w.heap[bt]? = some (tobj t p c)) (hf : w.heap[bf]? = some (tobj f pf cf)) (he : w.heap[be]? = some (tobj e pe ce)) (hT : TmAt w t p) (hF : TmAt w f pf) (hE : TmAt w e pe) (hg : Good t) (hgf : Good f) (hge : Good e) (hX : Utf w) (hn : nodes t ≤ 4000) (h0 : 0 ≤ n) (hmx : n + nodes t ≤ 9223372036854775806) :
    Calls Tryz.prog 50 #[.int .i64 n, .func (.func 67) #[] #[.pointer (some ⟨bt, 0, none⟩), .pointer (some ⟨bf, 0, none⟩), .pointer (some ⟨be, 0, none⟩)]] w fun x w' => (match madeP (bodyN (nodes t) t f e n) with
      | .ok g m => ∃ q c', x = .returned (.tuple #[.agg #[.int .i64 g.kind, .string g.name, .string g.num, .int .u64 g.bits, .int .i64 g.var, .slice q g.args.length c'], .int .i64 m, .nilIface]) ∧ TmAt w' g q
      | .ball b => ∃ k, x = .returned (.tuple #[.agg #[.int .i64 0, .string ⟨#[]⟩, .string ⟨#[]⟩, .int .u64 0, .int .i64 0, .slice none 0 0], .int .i64 0, .iface 105 (.pointer (some ⟨k, 0, none⟩))]) ∧ BallAt w' k b) ∧ Below w.heap.size w w' := by
  have hut : ∀ W bx, Below w.heap.size w W → w.heap.size ≤ bx → ∀ W', But1 bx W W' → Utf W' := fun W bx h1 h2 W' h3 => hX.keep (h3.below h2 w rfl h1)
  cases hok : bodyN (nodes t) t f e n with
  | ball bb =>
    simp only [madeP]
    exact (made_ball n bt bf be bb w (fun W bx h1 h2 h3 => bodyF_ball t f e p pf pe c cf ce bt bf be bx n W (obj_keep ht h1) (obj_keep hf h1) (obj_keep he h1) (hT.keep h1) (hF.keep h1) (hE.keep h1) hg hgf hge (hut W bx h1 h2) hn h3 h0 hmx bb hok)).mono fun x w' ⟨k, a, b, d⟩ => ⟨⟨k, a, b⟩, d⟩
  | ok g m =>
    have gg := body_good (nodes t) t f e n g m (Nat.le_refl _) hg hgf hge h0 (by omega) hok
    have HC := fun W bx (h1 : Below w.heap.size w W) (h2 : w.heap.size ≤ bx) (h3 : Box1 W bx n) => bodyF_ok t f e p pf pe c cf ce bt bf be bx n W (obj_keep ht h1) (obj_keep hf h1) (obj_keep he h1) (hT.keep h1) (hF.keep h1) (hE.keep h1) hg hgf hge (hut W bx h1 h2) hn h3 h0 hmx g m hok
    by_cases hs : nodes g ≤ 4000
    · simp only [madeP, if_pos hs]
      exact (made_ok n m bt bf be g w HC gg hs (fun W h => hX.keep h)).mono fun x w' ⟨q, c', a, b, d⟩ => ⟨⟨q, c', a, b⟩, d⟩
    · simp only [madeP, if_neg hs]
      exact (made_over n m bt bf be g w HC gg (by omega) (fun W h => hX.keep h)).mono fun x w' ⟨k, a, b, d⟩ => ⟨⟨k, a, b⟩, d⟩
theorem checks_three {t f e : Tm} (h : checksErr vName numOk bitsOk [t, f, e] = 0) : checkErr vName numOk bitsOk t = 0 ∧ checkErr vName numOk bitsOk f = 0 ∧ checkErr vName numOk bitsOk e = 0 := by
  unfold checksErr at h
  split at h
  · refine ⟨‹_›, ?_⟩
    unfold checksErr at h
    split at h
    · refine ⟨‹_›, ?_⟩
      rwa [checks_one] at h
    · exact absurd h ‹_›
  · exact absurd h ‹_›
set_option maxRecDepth 100000 in
set_option maxHeartbeats 16000000 in
theorem body_gok (t f e : Tm) (p pf pe : Option Addr) (c cf ce : Nat) (n : Int) (w : World) (hT : TmAt w t p) (hF : TmAt w f pf) (hE : TmAt w e pe) (hDt : AllT DomA t) (hDf : AllT DomA f) (hDe : AllT DomA e) (hU : Utf w) (hck0 : checksErr vName numOk bitsOk [t, f, e] = 0) (hhi : 0 ≤ n ∧ n ≤ 4611686018427387904) (g : Tm) (m : Int) (hmd : madeP (bodyN (nodes t) t f e n) = .ok g m) :
    Calls Tryz.prog 21 #[t.val p c, f.val pf cf, e.val pe ce, .int .i64 n] w fun x w' => (∃ q c', x = .returned (.tuple #[.agg #[.int .i64 g.kind, .string g.name, .string g.num, .int .u64 g.bits, .int .i64 g.var, .slice q g.args.length c'], .int .i64 m, .nilIface]) ∧ TmAt w' g q) ∧ Below w.heap.size w w' := by
  obtain ⟨W0, hW0, y1, y2, y3, y4, y5, y6⟩ := boxes3 w (tobj t p c) (tobj f pf cf) (tobj e pe ce)
  have hs0 := hid y1
  have B0 := hid y2
  have e0 := hid y3
  have e1 := hid y4
  have e2 := hid y5
  have R0 := hid y6
  clear y1 y2 y3 y4 y5 y6
  obtain ⟨W1, hW1⟩ : ∃ W1, W1 = W0.alloc (.cells #[.int .i64 t.kind, .string t.name, .string t.num, .int .u64 t.bits, .int .i64 t.var, .slice p t.args.length c, .int .i64 f.kind, .string f.name, .string f.num, .int .u64 f.bits, .int .i64 f.var, .slice pf f.args.length cf, .int .i64 e.kind, .string e.name, .string e.num, .int .u64 e.bits, .int .i64 e.var, .slice pe e.args.length ce] 25) := ⟨_, rfl⟩
  have D1 := hid (show Below W0.heap.size W0 W1 by rw [hW1]; exact (Below.refl _ _).alloc (Nat.le_refl _) _)
  have B1 := hid (B0.out.trans (D1.out.mono B0.out.size))
  have H1 := hid (show W1.heap[W0.heap.size]? = some (.cells #[.int .i64 t.kind, .string t.name, .string t.num, .int .u64 t.bits, .int .i64 t.var, .slice p t.args.length c, .int .i64 f.kind, .string f.name, .string f.num, .int .u64 f.bits, .int .i64 f.var, .slice pf f.args.length cf, .int .i64 e.kind, .string e.name, .string e.num, .int .u64 e.bits, .int .i64 e.var, .slice pe e.args.length ce] 25 (0, 0)) by rw [hW1]; exact heap_alloc_new W0 _)
  have HRT := hid (show RowT W1 [t, f, e] W0.heap.size 0 from by
    have hh := RowT.of_flat (w := W1) (b := W0.heap.size) [(t, p, c), (f, pf, cf), (e, pe, ce)] 0 (fun j u hj => by
      rw [cells_of H1.out, Nat.zero_add]
      simpa [flat, cellsT] using hj) (fun x hx => by
      simp at hx
      rcases hx with rfl | rfl | rfl
      · exact hT.keep B1.out
      · exact hF.keep B1.out
      · exact hE.keep B1.out)
    exact hh)
  obtain ⟨l, hl⟩ : ∃ l, l = [t, f, e] := ⟨_, rfl⟩
  obtain ⟨r, hr⟩ : ∃ r, r = checksErr vName numOk bitsOk l := ⟨_, rfl⟩
  have hll : l.length = 3 := by rw [hl]; rfl
  have hck := hck0
  rw [← hl] at HRT hck
  have HDA := hid (fun k hk => AllR.get (l := l) (D := DomA) (by rw [hl]; unfold AllR AllR AllR AllR; exact ⟨hDt, hDf, hDe, trivial⟩) k hk)
  have HRD := hid (fun k hk => checksErr_drop vName numOk bitsOk l k hk)
  have HR0 := hid (show r = 0 from by rw [hr]; exact hck)
  have HE0 := hid (show r = checksErr vName numOk bitsOk (l.drop 0) from hr)
  have HU := hid (hU.keep B1.out)
  obtain ⟨q1, q2, q3⟩ := checks_three hck0
  obtain ⟨hg, hn⟩ := good_of_check hDt q1
  obtain ⟨hgf, -⟩ := good_of_check hDf q2
  obtain ⟨hge, -⟩ := good_of_check hDe q3
  have HHI := hid hhi
  have GR := hid (show Good g from by
    unfold madeP at hmd
    split at hmd
    · cases hmd
    · rename_i g' m' hp
      split at hmd
      · injection hmd with h1 h2
        subst h1 h2
        exact body_good (nodes t) t f e n g' m' (Nat.le_refl _) hg hgf hge (by omega) (by omega) hp
      · cases hmd)
  have CM := hid (show ∀ W, Below w.heap.size w W → W.heap[w.heap.size]? = some (tobj t p c) → W.heap[w.heap.size + 1]? = some (tobj f pf cf) → W.heap[w.heap.size + 1 + 1]? = some (tobj e pe ce) → Calls Tryz.prog 50 #[.int .i64 n, .func (.func 67) #[] #[.pointer (some ⟨w.heap.size, 0, none⟩), .pointer (some ⟨w.heap.size + 1, 0, none⟩), .pointer (some ⟨w.heap.size + 1 + 1, 0, none⟩)]] W fun x w' => (∃ q c', x = .returned (.tuple #[.agg #[.int .i64 g.kind, .string g.name, .string g.num, .int .u64 g.bits, .int .i64 g.var, .slice q g.args.length c'], .int .i64 m, .nilIface]) ∧ TmAt w' g q) ∧ Below W.heap.size W w' from fun W h2 h3 h4 h5 => by
    have hh := madeB_any t f e p pf pe c cf ce w.heap.size (w.heap.size + 1) (w.heap.size + 1 + 1) n W h3 h4 h5 (hT.keep h2) (hF.keep h2) (hE.keep h2) hg hgf hge (hU.keep h2) hn (by omega) (by omega)
    rw [hmd] at hh
    exact hh)
  have h3z : (l.length : Int) = 3 := by omega
  unfold tobj at hW0
  unfold Tm.val
  have HLL := hid hll
  clear hT hF hE hDt hDf hDe hU hck hck0 hr hl hhi hmd hg hgf hge hn q1 q2 q3
  go_enter Tryz.func21, Tryz.ntmps21
  go_upto_region 1 with fail
  rw [← hW0]
  clear hW0
  obtain ⟨a0, a1, a2, a3, a4, a5⟩ := six_of e0.out
  obtain ⟨b0, b1, b2, b3, b4, b5⟩ := six_of e1.out
  obtain ⟨d0, d1, d2, d3, d4, d5⟩ := six_of e2.out
  go_wp2_with fail
  rw [← hW1]
  clear hW1 a0 a1 a2 a3 a4 a5 b0 b1 b2 b3 b4 b5 d0 d1 d2 d3 d4 d5
  have BW := hid (Below.refl W1.heap.size W1)
  go_loopw [19] (fun i wr => ∃ k : Nat, k ≤ l.length ∧ i = .int .i64 (k : Int) ∧ Hid (r = checksErr vName numOk bitsOk (l.drop k)) ∧ Hid (Below W1.heap.size W1 wr)) (fun i _ => l.length - (intOf i).toNat)
  case atStart => exact ⟨0, by omega, rfl, HE0, BW⟩
  case round =>
    clear BW HE0
    obtain ⟨k, hk, rfl, hr, hBr⟩ := hrel
    by_cases hlt : k < l.length
    · have hRT := HRT.out
      obtain ⟨q, cq, hs, ht⟩ := (RowT.keep hBr.out hRT).get k hlt
      have hs1 := hBr.out.alloc hBr.out.size (tobj l[k] q cq)
      have HTA := hid (ht.keep ((Below.refl wr.heap.size wr).alloc (Nat.le_refl _) (tobj l[k] q cq)))
      have HOA := hid (HU.out.keep hs1)
      rw [Nat.zero_add] at hs
      obtain ⟨x0, x1, x2, x3, x4, x5⟩ := hs
      have HS1 := hid hs1
      have HDK := hid (HDA.out k hlt)
      have HRK := hid (HRD.out k hlt)
      have hk0 : (0 : Int) ≤ (k : Int) := by omega
      have hk3 : (k : Int) < 3 := by omega
      clear ht hs1 hRT
      unfold tobj at HTA HOA HS1
      generalize l[k] = u at *
      have C := check_any vName numOk bitsOk DomA u q cq _ HTA.out (oracleA _ HOA.out) HDK.out
      unfold Tm.val at C
      have HC := hid C
      clear C
      generalize checkErr vName numOk bitsOk u = y at *
      by_cases hy : y = 0
      · subst hy
        have HRN := hid (show r = checksErr vName numOk bitsOk (l.drop (k + 1)) by rw [hr.out, HRK.out, if_pos rfl])
        clear HRK hr
        go_wp2_with (go_at_call 66; (with_reducible refine HC.out.mono ?_); rintro x w2 ⟨rfl, hb2⟩; have B2 := hid (HS1.out.trans (hb2.mono HS1.out.size)); clear hb2)
        go_roundw
        case rel => exact ⟨k + 1, by omega, by go_num, HRN, B2⟩
        case measure => simp [intOf]; omega
      · exact absurd (HR0.out.symm.trans (hr.out.trans (HRK.out.trans (if_neg hy)))) (fun h => hy h.symm)
    · obtain rfl : k = l.length := by omega
      clear hr hlt hk
      have hlo : decide (n < 0) = false := by have := HHI.out; simp; omega
      have hhi : decide (n > 4611686018427387904) = false := by have := HHI.out; simp; omega
      have hlo2 : ¬ n < 0 := by simpa using hlo
      have hhi2 : ¬ 4611686018427387904 < n := by simpa using hhi
      have hmf : ∀ (fn : Fn) (first cap : Array Value) (w : World), (Instr.makeFunc fn first cap).run Tryz.prog w = .ok (.func fn first cap) w := fun _ _ _ _ => rfl
      have B4 := hid (B1.out.trans (hBr.out.mono B1.out.size))
      have E4 := hid (obj_keep (obj_keep e0.out D1.out) hBr.out)
      have F4 := hid (obj_keep (obj_keep e1.out D1.out) hBr.out)
      have G4 := hid (obj_keep (obj_keep e2.out D1.out) hBr.out)
      have R4 := hid (obj_keep (obj_keep R0.out D1.out) hBr.out)
      go_wp2_with (first
        | (go_at_call 50; (with_reducible refine (CM.out _ B4.out E4.out F4.out G4.out).mono ?_); rintro x w5 ⟨⟨q5, c5, rfl, hm⟩, hb5⟩; have M5 := hid hm; have B5 := hid (B4.out.trans (hb5.mono B4.out.size)); have R5 := hid (obj_keep R4.out hb5); clear hb5 hm; obtain ⟨⟨z0, z1, z2, z3, z4, z5⟩, ⟨f0, f1, f2, f3, f4, f5⟩⟩ := six_free R5.out)
        | fail)
      have h6 := set6 R5.out (.int .i64 g.kind) (.string g.name) (.string g.num) (.int .u64 g.bits) (.int .i64 g.var) (.slice q5 g.args.length c5)
      have hgr := set6_grown w5 (w.heap.size + 1 + 1 + 1) (.int .i64 g.kind) (.string g.name) (.string g.num) (.int .u64 g.bits) (.int .i64 g.var) (.slice q5 g.args.length c5)
      have hm' := TmAt.past (b := w.heap.size + 1 + 1 + 1) (t := g) (p := q5) (show Blank _ (w.heap.size + 1 + 1 + 1) from R5.out) (Past.grown hgr) GR.out M5.out
      exact bodyPost_ret (results_tri (b := w.heap.size + 1 + 1 + 1) (t := g) (q := q5) (cap := c5) rfl _ _ (.int .i64 m) .nilIface ⟨by rfl, by rfl, by rfl⟩ h6) rfl ⟨⟨q5, c5, rfl, hm'⟩, set6_below B5.out (by omega) _ _ _ _ _ _⟩
end Go.Proofs.YtiaddfedaikaiaaGreatDoor

namespace Go.Proofs.YtiaddfedaikaiaaGreatDoor
open Go.RowKit

def tR1 : Tm := cT nRule [aT ⟨#[97]⟩, cT nComma [aT ⟨#[98]⟩, aT ⟨#[99]⟩]]
def gR1 : Tm := cT nIf [cT ⟨#[97]⟩ [vrT 0, vrT 1], cT nComma [cT ⟨#[98]⟩ [vrT 0, vrT 2], cT ⟨#[99]⟩ [vrT 2, vrT 1]]]
def tR2 : Tm := cT nRule [vrT 0, aT ⟨#[98]⟩]
def tB3 : Tm := cT nDot [aT ⟨#[120]⟩, aT nEmpty]
def gB3 : Tm := cT nEq [vrT 4, cT nDot [aT ⟨#[120]⟩, vrT 5]]
theorem rR1 : madeP (ruleP tR1 (aboveT tR1)) = .ok gR1 3 := by kernel_rfl
theorem rR2 : madeP (ruleP tR2 (aboveT tR2)) = .ball bInst := by kernel_rfl
theorem rB3 : madeP (bodyN (nodes tB3) tB3 (vrT 4) (vrT 5) 6) = .ok gB3 6 := by kernel_rfl
theorem gdA (s : ByteArray) (h1 : s.size ≤ 1000) (h2 : vName s = true) : Good (aT s) := Good.atom h1 h2
theorem gdR1 : Good tR1 := two_good (by decide) (by decide +kernel) (gdA _ (by decide) (by decide +kernel)) (two_good (by decide) (by decide +kernel) (gdA _ (by decide) (by decide +kernel)) (gdA _ (by decide) (by decide +kernel)))
theorem gdR2 : Good tR2 := two_good (by decide) (by decide +kernel) (vrT_good (by decide) (by decide)) (gdA _ (by decide) (by decide +kernel))
theorem gdB3 : Good tB3 := two_good (by decide) (by decide +kernel) (gdA _ (by decide) (by decide +kernel)) (gdA _ (by decide) (by decide +kernel))
theorem pair_built (s : ByteArray) (a b : Tm) (qa qb : Option Addr) (ca cb : Nat) (W : World) (ha : TmAt W a qa) (hb : TmAt W b qb) : TmAt (W.alloc (.cells #[.int .i64 a.kind, .string a.name, .string a.num, .int .u64 a.bits, .int .i64 a.var, .slice qa a.args.length ca, .int .i64 b.kind, .string b.name, .string b.num, .int .u64 b.bits, .int .i64 b.var, .slice qb b.args.length cb] 25)) (cT s [a, b]) (some ⟨W.heap.size, 0, none⟩) := by
  have hal : Below W.heap.size W (W.alloc (.cells #[.int .i64 a.kind, .string a.name, .string a.num, .int .u64 a.bits, .int .i64 a.var, .slice qa a.args.length ca, .int .i64 b.kind, .string b.name, .string b.num, .int .u64 b.bits, .int .i64 b.var, .slice qb b.args.length cb] 25)) := (Below.refl _ _).alloc (Nat.le_refl _) _
  exact built s [(a, qa, ca), (b, qb, cb)] (heap_alloc_new W _) rfl (by simp) (fun x hx => by
    simp at hx
    rcases hx with rfl | rfl
    · exact ha.keep hal
    · exact hb.keep hal)
set_option maxRecDepth 100000 in
theorem lawAtom (s : ByteArray) (w : World) : Calls Tryz.prog 48 #[.string s] w fun x w' => x = .returned (.agg #[.int .i64 2, .string s, .string ⟨#[]⟩, .int .u64 0, .int .i64 0, .slice none 0 0]) ∧ Below w.heap.size w w' := by
  go_enter Tryz.func48, Tryz.ntmps48
  go_wp2
  exact bodyPost_ret (results_tm rfl _ _ w.heap.size (aT s) none 0 (by rfl) (heap_alloc_new w _)) rfl ⟨rfl, (Below.refl _ _).alloc (Nat.le_refl _) _⟩
set_option maxRecDepth 100000 in
theorem lawV (n : Int) (w : World) : Calls Tryz.prog 26 #[.int .i64 n] w fun x w' => x = .returned (.agg #[.int .i64 1, .string ⟨#[]⟩, .string ⟨#[]⟩, .int .u64 0, .int .i64 n, .slice none 0 0]) ∧ Below w.heap.size w w' := by
  go_enter Tryz.func26, Tryz.ntmps26
  go_wp2
  exact bodyPost_ret (results_tm rfl _ _ w.heap.size (vrT n) none 0 (by rfl) (heap_alloc_new w _)) rfl ⟨rfl, (Below.refl _ _).alloc (Nat.le_refl _) _⟩
set_option maxRecDepth 100000 in
theorem lawF (s : ByteArray) (a b : Tm) (q : Option Addr) (w : World) : Calls Tryz.prog 47 #[.string s, .slice q 2 2] w fun x w' => x = .returned (.agg #[.int .i64 5, .string s, .string ⟨#[]⟩, .int .u64 0, .int .i64 0, .slice q 2 2]) ∧ Below w.heap.size w w' := by
  go_enter Tryz.func47, Tryz.ntmps47
  go_wp2
  exact bodyPost_ret (results_tm rfl _ _ w.heap.size (cT s [a, b]) q 2 (by rfl) (heap_alloc_new w _)) rfl ⟨rfl, (Below.refl _ _).alloc (Nat.le_refl _) _⟩
set_option maxRecDepth 100000 in
set_option maxHeartbeats 16000000 in
theorem lawAwake (w : World) (hU : Utf w) : Calls Tryz.prog 12 #[] w fun x w' => x = .returned (.bool true) ∧ Below w.heap.size w w' := by
  have CA := hid lawAtom
  have CV := hid lawV
  have CF := hid (fun (s : ByteArray) (q : Option Addr) (w : World) => lawF s (vrT 0) (vrT 0) q w)
  have TK0 := hid (Below.refl w.heap.size w)
  obtain ⟨g1, hg1⟩ : ∃ g1, g1 = gR1 := ⟨_, rfl⟩
  obtain ⟨g3, hg3⟩ : ∃ g3, g3 = gB3 := ⟨_, rfl⟩
  have CR1 := hid (show ∀ W q, Below w.heap.size w W → TmAt W tR1 q → Calls Tryz.prog 14 #[.agg #[.int .i64 5, .string ⟨#[45, 45, 62]⟩, .string ⟨#[]⟩, .int .u64 0, .int .i64 0, .slice q 2 2]] W fun x w' => (∃ q c', x = .returned (.tuple #[.agg #[.int .i64 g1.kind, .string g1.name, .string g1.num, .int .u64 g1.bits, .int .i64 g1.var, .slice q g1.args.length c'], .nilIface]) ∧ TmAt w' g1 q) ∧ Below W.heap.size W w' from fun W q h h2 => by
    rw [hg1]
    exact rule_gok tR1 q 2 W h2 gdR1 (hU.keep h) (by decide +kernel) (by decide +kernel) gR1 3 rR1)
  have CR2 := hid (show ∀ W q, Below w.heap.size w W → TmAt W tR2 q → Calls Tryz.prog 14 #[.agg #[.int .i64 5, .string ⟨#[45, 45, 62]⟩, .string ⟨#[]⟩, .int .u64 0, .int .i64 0, .slice q 2 2]] W fun x w' => (∃ k, x = .returned (.tuple #[.agg #[.int .i64 0, .string ⟨#[]⟩, .string ⟨#[]⟩, .int .u64 0, .int .i64 0, .slice none 0 0], .iface 105 (.pointer (some ⟨k, 0, none⟩))]) ∧ BallAt w' k bInst) ∧ Below W.heap.size W w' from fun W q h h2 =>
    rule_gball tR2 q 2 W h2 gdR2 (hU.keep h) (by decide +kernel) (by decide +kernel) bInst rR2)
  have CB3 := hid (show ∀ W q, Below w.heap.size w W → TmAt W tB3 q → Calls Tryz.prog 21 #[.agg #[.int .i64 5, .string ⟨#[46]⟩, .string ⟨#[]⟩, .int .u64 0, .int .i64 0, .slice q 2 2], .agg #[.int .i64 1, .string ⟨#[]⟩, .string ⟨#[]⟩, .int .u64 0, .int .i64 4, .slice none 0 0], .agg #[.int .i64 1, .string ⟨#[]⟩, .string ⟨#[]⟩, .int .u64 0, .int .i64 5, .slice none 0 0], .int .i64 6] W fun x w' => (∃ q c', x = .returned (.tuple #[.agg #[.int .i64 g3.kind, .string g3.name, .string g3.num, .int .u64 g3.bits, .int .i64 g3.var, .slice q g3.args.length c'], .int .i64 6, .nilIface]) ∧ TmAt w' g3 q) ∧ Below W.heap.size W w' from fun W q h h2 => by
    rw [hg3]
    exact body_gok tB3 (vrT 4) (vrT 5) q none none 2 0 0 6 W h2 (leaf_at _ _ _ _ _ _) (leaf_at _ _ _ _ _ _) gdB3.1 (vrT_good (by decide) (by decide)).1 (vrT_good (by decide) (by decide)).1 (hU.keep h) (by decide +kernel) (by decide) gB3 6 rB3)
  have CS1 := hid (show ∀ W q c q', TmAt W g1 q → TmAt W gR1 q' → Calls Tryz.prog 18 #[.agg #[.int .i64 g1.kind, .string g1.name, .string g1.num, .int .u64 g1.bits, .int .i64 g1.var, .slice q g1.args.length c], .agg #[.int .i64 5, .string ⟨#[58, 45]⟩, .string ⟨#[]⟩, .int .u64 0, .int .i64 0, .slice q' 2 2]] W fun x w' => x = .returned (.bool true) ∧ Below W.heap.size W w' from fun W q c q' h h2 => by
    rw [hg1] at h ⊢
    have hs := same_any (nodes gR1) gR1 gR1 q q' c 2 W (Nat.le_refl _) h h2
    rwa [sameT_same] at hs)
  have CS3 := hid (show ∀ W q c q', TmAt W g3 q → TmAt W gB3 q' → Calls Tryz.prog 18 #[.agg #[.int .i64 g3.kind, .string g3.name, .string g3.num, .int .u64 g3.bits, .int .i64 g3.var, .slice q g3.args.length c], .agg #[.int .i64 5, .string ⟨#[61]⟩, .string ⟨#[]⟩, .int .u64 0, .int .i64 0, .slice q' 2 2]] W fun x w' => x = .returned (.bool true) ∧ Below W.heap.size W w' from fun W q c q' h h2 => by
    rw [hg3] at h ⊢
    have hs := same_any (nodes gB3) gB3 gB3 q q' c 2 W (Nat.le_refl _) h h2
    rwa [sameT_same] at hs)
  clear hg1 hg3 hU
  go_enter Tryz.func12, Tryz.ntmps12
  go_upto_region 2 with (first
    | (go_at_call 48; have tok := TK0; (with_reducible refine (CA.out _ _).mono ?_); rintro x wa1 ⟨rfl, hb⟩; have N := hid (show Below w.heap.size w wa1 from bl_call (Below.refl _ _) hb); have TKwa1 := hid (TK0.out.trans (N.out.mono TK0.out.size)); clear hb N tok TK0)
    | (go_at_call 48; have tok := TKwa1; (with_reducible refine (CA.out _ _).mono ?_); rintro x wa2 ⟨rfl, hb⟩; have N := hid (show Below wa1.heap.size wa1 wa2 from bl_call (Below.refl _ _) hb); have TKwa2 := hid (TKwa1.out.trans (N.out.mono TKwa1.out.size)); clear hb N tok TKwa1)
    | (go_at_call 48; have tok := TKwa2; (with_reducible refine (CA.out _ _).mono ?_); rintro x wa3 ⟨rfl, hb⟩; have N := hid (show Below wa2.heap.size wa2 wa3 from bl_call (Below.refl _ _) hb); have TKwa3 := hid (TKwa2.out.trans (N.out.mono TKwa2.out.size)); clear hb N tok TKwa2)
    | (go_at_call 47; have tok := TKwa3; (with_reducible refine (CF.out _ _ _).mono ?_); rintro x wa4 ⟨rfl, hb⟩; have N := hid (show Below wa3.heap.size wa3 wa4 from bl_call (bl_alloc (Below.refl _ _)) hb); have TKwa4 := hid (TKwa3.out.trans (N.out.mono TKwa3.out.size)); have Mwa4 := hid (show TmAt wa4 (cT ⟨#[44]⟩ [(aT ⟨#[98]⟩), (aT ⟨#[99]⟩)]) (some ⟨wa3.heap.size, 0, none⟩) from (pair_built ⟨#[44]⟩ (aT ⟨#[98]⟩) (aT ⟨#[99]⟩) none none 0 0 wa3 (leaf_at _ _ _ _ _ _) (leaf_at _ _ _ _ _ _)).keep hb); clear hb N tok TKwa3)
    | (go_at_call 47; have tok := TKwa4; (with_reducible refine (CF.out _ _ _).mono ?_); rintro x wa5 ⟨rfl, hb⟩; have N := hid (show Below wa4.heap.size wa4 wa5 from bl_call (bl_alloc (Below.refl _ _)) hb); have TKwa5 := hid (TKwa4.out.trans (N.out.mono TKwa4.out.size)); have Mwa5 := hid (show TmAt wa5 (cT ⟨#[45, 45, 62]⟩ [(aT ⟨#[97]⟩), (cT ⟨#[44]⟩ [(aT ⟨#[98]⟩), (aT ⟨#[99]⟩)])]) (some ⟨wa4.heap.size, 0, none⟩) from (pair_built ⟨#[45, 45, 62]⟩ (aT ⟨#[97]⟩) (cT ⟨#[44]⟩ [(aT ⟨#[98]⟩), (aT ⟨#[99]⟩)]) none (some ⟨wa3.heap.size, 0, none⟩) 0 2 wa4 (leaf_at _ _ _ _ _ _) Mwa4.out).keep hb); clear hb N tok TKwa4)
    | (go_at_call 14; have MM := hid (show TmAt wa5 tR1 (some ⟨wa4.heap.size, 0, none⟩) from Mwa5.out); (with_reducible refine (CR1.out _ _ TKwa5.out MM.out).mono ?_); rintro x wa6 ⟨⟨q1, c1, rfl, hm⟩, hb⟩; have MG1 := hid hm; clear MM; have TKwa6 := hid (TKwa5.out.trans (hb.mono TKwa5.out.size)); clear hb hm TKwa5)
    | fail)
  obtain ⟨V1, hV1⟩ : ∃ V1, V1 = wa6.alloc (.cells #[.int .i64 g1.kind, .string g1.name, .string g1.num, .int .u64 g1.bits, .int .i64 g1.var, .slice q1 g1.args.length c1] 25) := ⟨_, rfl⟩
  have O1 := hid (show V1.heap[wa6.heap.size]? = some (tobj g1 q1 c1) by rw [hV1]; exact heap_alloc_new wa6 _)
  have BV1 := hid (show Below w.heap.size w V1 by rw [hV1]; exact bl_alloc TKwa6.out)
  have M1 := hid (show TmAt V1 g1 q1 by rw [hV1]; exact MG1.out.keep (bl_alloc (Below.refl _ _)))
  rw [← hV1]
  clear hV1 MG1 Mwa4 Mwa5 TKwa6
  have TV1 := hid (Below.refl V1.heap.size V1)
  go_upto_region 3 with (first
    | (go_at_call 26; have tok := TV1; (with_reducible refine (CV.out _ _).mono ?_); rintro x wb1 ⟨rfl, hb⟩; have N := hid (show Below V1.heap.size V1 wb1 from bl_call (Below.refl _ _) hb); have TKwb1 := hid (TV1.out.trans (N.out.mono TV1.out.size)); clear hb N tok TV1)
    | (go_at_call 48; have tok := TKwb1; (with_reducible refine (CA.out _ _).mono ?_); rintro x wb2 ⟨rfl, hb⟩; have N := hid (show Below wb1.heap.size wb1 wb2 from bl_call (Below.refl _ _) hb); have TKwb2 := hid (TKwb1.out.trans (N.out.mono TKwb1.out.size)); clear hb N tok TKwb1)
    | (go_at_call 47; have tok := TKwb2; (with_reducible refine (CF.out _ _ _).mono ?_); rintro x wb3 ⟨rfl, hb⟩; have N := hid (show Below wb2.heap.size wb2 wb3 from bl_call (bl_alloc (Below.refl _ _)) hb); have TKwb3 := hid (TKwb2.out.trans (N.out.mono TKwb2.out.size)); have Mwb3 := hid (show TmAt wb3 (cT ⟨#[45, 45, 62]⟩ [(vrT 0), (aT ⟨#[98]⟩)]) (some ⟨wb2.heap.size, 0, none⟩) from (pair_built ⟨#[45, 45, 62]⟩ (vrT 0) (aT ⟨#[98]⟩) none none 0 0 wb2 (leaf_at _ _ _ _ _ _) (leaf_at _ _ _ _ _ _)).keep hb); clear hb N tok TKwb2)
    | (go_at_call 14; have MM := hid (show TmAt wb3 tR2 (some ⟨wb2.heap.size, 0, none⟩) from Mwb3.out); (with_reducible refine (CR2.out _ _ (BV1.out.trans (TKwb3.out.mono BV1.out.size)) MM.out).mono ?_); rintro x wb4 ⟨⟨k, rfl, hk⟩, hb⟩; clear MM; have TKwb4 := hid (TKwb3.out.trans (hb.mono TKwb3.out.size)); clear hb hk TKwb3)
    | fail)
  obtain ⟨V2, hV2⟩ : ∃ V2, V2 = wb4.alloc (.cells #[.int .i64 0, .string ⟨#[]⟩, .string ⟨#[]⟩, .int .u64 0, .int .i64 0, .slice none 0 0] 25) := ⟨_, rfl⟩
  have D2 := hid (show Below V1.heap.size V1 V2 by rw [hV2]; exact bl_alloc TKwb4.out)
  have BV2 := hid (show Below w.heap.size w V2 from BV1.out.trans (D2.out.mono BV1.out.size))
  have O2 := hid (obj_keep O1.out D2.out)
  have M2 := hid (M1.out.keep D2.out)
  rw [← hV2]
  clear hV2 TKwb4 Mwb3 O1 M1
  have TV2 := hid (Below.refl V2.heap.size V2)
  go_upto_region 4 with (first
    | (go_at_call 48; have tok := TV2; (with_reducible refine (CA.out _ _).mono ?_); rintro x wc1 ⟨rfl, hb⟩; have N := hid (show Below V2.heap.size V2 wc1 from bl_call (Below.refl _ _) hb); have TKwc1 := hid (TV2.out.trans (N.out.mono TV2.out.size)); clear hb N tok TV2)
    | (go_at_call 48; have tok := TKwc1; (with_reducible refine (CA.out _ _).mono ?_); rintro x wc2 ⟨rfl, hb⟩; have N := hid (show Below wc1.heap.size wc1 wc2 from bl_call (Below.refl _ _) hb); have TKwc2 := hid (TKwc1.out.trans (N.out.mono TKwc1.out.size)); clear hb N tok TKwc1)
    | (go_at_call 47; have tok := TKwc2; (with_reducible refine (CF.out _ _ _).mono ?_); rintro x wc3 ⟨rfl, hb⟩; have N := hid (show Below wc2.heap.size wc2 wc3 from bl_call (bl_alloc (Below.refl _ _)) hb); have TKwc3 := hid (TKwc2.out.trans (N.out.mono TKwc2.out.size)); have Mwc3 := hid (show TmAt wc3 (cT ⟨#[46]⟩ [(aT ⟨#[120]⟩), (aT ⟨#[91, 93]⟩)]) (some ⟨wc2.heap.size, 0, none⟩) from (pair_built ⟨#[46]⟩ (aT ⟨#[120]⟩) (aT ⟨#[91, 93]⟩) none none 0 0 wc2 (leaf_at _ _ _ _ _ _) (leaf_at _ _ _ _ _ _)).keep hb); clear hb N tok TKwc2)
    | (go_at_call 26; have tok := TKwc3; (with_reducible refine (CV.out _ _).mono ?_); rintro x wc4 ⟨rfl, hb⟩; have N := hid (show Below wc3.heap.size wc3 wc4 from bl_call (Below.refl _ _) hb); have TKwc4 := hid (TKwc3.out.trans (N.out.mono TKwc3.out.size)); have Mwc3 := hid (Mwc3.out.keep N.out); clear hb N tok TKwc3)
    | (go_at_call 26; have tok := TKwc4; (with_reducible refine (CV.out _ _).mono ?_); rintro x wc5 ⟨rfl, hb⟩; have N := hid (show Below wc4.heap.size wc4 wc5 from bl_call (Below.refl _ _) hb); have TKwc5 := hid (TKwc4.out.trans (N.out.mono TKwc4.out.size)); have Mwc3 := hid (Mwc3.out.keep N.out); clear hb N tok TKwc4)
    | (go_at_call 21; have MM := hid (show TmAt wc5 tB3 (some ⟨wc2.heap.size, 0, none⟩) from Mwc3.out); (with_reducible refine (CB3.out _ _ (BV2.out.trans (TKwc5.out.mono BV2.out.size)) MM.out).mono ?_); rintro x wc6 ⟨⟨q3, c3, rfl, hm⟩, hb⟩; have MG3 := hid hm; clear MM; have TKwc6 := hid (TKwc5.out.trans (hb.mono TKwc5.out.size)); clear hb hm TKwc5)
    | fail)
  obtain ⟨V3, hV3⟩ : ∃ V3, V3 = wc6.alloc (.cells #[.int .i64 g3.kind, .string g3.name, .string g3.num, .int .u64 g3.bits, .int .i64 g3.var, .slice q3 g3.args.length c3] 25) := ⟨_, rfl⟩
  have D3 := hid (show Below V2.heap.size V2 V3 by rw [hV3]; exact bl_alloc TKwc6.out)
  have BV3 := hid (show Below w.heap.size w V3 from BV2.out.trans (D3.out.mono BV2.out.size))
  have O3 := hid (obj_keep O2.out D3.out)
  have M3 := hid (M2.out.keep D3.out)
  have P3 := hid (show V3.heap[wc6.heap.size]? = some (tobj g3 q3 c3) by rw [hV3]; exact heap_alloc_new wc6 _)
  have N3 := hid (show TmAt V3 g3 q3 by rw [hV3]; exact MG3.out.keep (bl_alloc (Below.refl _ _)))
  rw [← hV3]
  clear hV3 TKwc6 Mwc3 MG3 O2 M2
  have TV3 := hid (Below.refl V3.heap.size V3)
  have SR := hid (fun (V : World) (h : Below V3.heap.size V3 V) => (show V.cell? ⟨wa6.heap.size, 0, none⟩ = some (.int .i64 g1.kind) ∧ V.cell? ⟨wa6.heap.size, 1, none⟩ = some (.string g1.name) ∧ V.cell? ⟨wa6.heap.size, 2, none⟩ = some (.string g1.num) ∧ V.cell? ⟨wa6.heap.size, 3, none⟩ = some (.int .u64 g1.bits) ∧ V.cell? ⟨wa6.heap.size, 4, none⟩ = some (.int .i64 g1.var) ∧ V.cell? ⟨wa6.heap.size, 5, none⟩ = some (.slice q1 g1.args.length c1) from by
    have m := six_of (obj_keep O3.out h)
    exact ⟨m.c0, m.c1, m.c2, m.c3, m.c4, m.c5⟩))
  have sr := SR.out V3 (Below.refl _ _)
  go_region_held3 (fun V => V.cell? ⟨wa6.heap.size, 0, none⟩ = some (.int .i64 g1.kind) ∧ V.cell? ⟨wa6.heap.size, 1, none⟩ = some (.string g1.name) ∧ V.cell? ⟨wa6.heap.size, 2, none⟩ = some (.string g1.num) ∧ V.cell? ⟨wa6.heap.size, 3, none⟩ = some (.int .u64 g1.bits) ∧ V.cell? ⟨wa6.heap.size, 4, none⟩ = some (.int .i64 g1.var) ∧ V.cell? ⟨wa6.heap.size, 5, none⟩ = some (.slice q1 g1.args.length c1))
    (first
      | (with_reducible exact sr)
      | (with_reducible exact SR.out _ (bl_drew (Below.refl _ _)))
      | (with_reducible exact SR.out _ TKwd1.out)
      | (with_reducible exact SR.out _ (bl_alloc TKwd1.out))
      | (with_reducible exact SR.out _ TKwd2.out)
      | (with_reducible exact SR.out _ (bl_alloc TKwd2.out))
      | (with_reducible exact SR.out _ TKwd3.out)
      | (with_reducible exact SR.out _ (bl_alloc TKwd3.out))
      | (with_reducible exact SR.out _ TKwd4.out)
      | (with_reducible exact SR.out _ (bl_alloc TKwd4.out))
      | (with_reducible exact SR.out _ TKwd5.out)
      | (with_reducible exact SR.out _ (bl_alloc TKwd5.out))
      | (with_reducible exact SR.out _ TKwd6.out)
      | (with_reducible exact SR.out _ (bl_alloc TKwd6.out))
      | (with_reducible exact SR.out _ TKwd7.out)
      | (with_reducible exact SR.out _ (bl_alloc TKwd7.out))
      | (with_reducible exact SR.out _ TKwd8.out)
      | (with_reducible exact SR.out _ (bl_alloc TKwd8.out))
      | (with_reducible exact SR.out _ TKwd9.out)
      | (with_reducible exact SR.out _ (bl_alloc TKwd9.out))
      | (with_reducible exact SR.out _ TKwd10.out)
      | (with_reducible exact SR.out _ (bl_alloc TKwd10.out))
      | (with_reducible exact SR.out _ TKwd11.out)
      | (with_reducible exact SR.out _ (bl_alloc TKwd11.out))
      | (with_reducible exact SR.out _ TKwd12.out)
      | (with_reducible exact SR.out _ (bl_alloc TKwd12.out))
      | fail)
    ((first
      | (go_at_call 26; have tok := TV3; (with_reducible refine (CV.out _ _).mono ?_); rintro x wd1 ⟨rfl, hb⟩; have N := hid (show Below V3.heap.size V3 wd1 from bl_call (bl_drew (Below.refl _ _)) hb); have TKwd1 := hid (TV3.out.trans (N.out.mono TV3.out.size)); clear hb N tok TV3)
      | (go_at_call 26; have tok := TKwd1; (with_reducible refine (CV.out _ _).mono ?_); rintro x wd2 ⟨rfl, hb⟩; have N := hid (show Below wd1.heap.size wd1 wd2 from bl_call (Below.refl _ _) hb); have TKwd2 := hid (TKwd1.out.trans (N.out.mono TKwd1.out.size)); clear hb N tok TKwd1)
      | (go_at_call 47; have tok := TKwd2; (with_reducible refine (CF.out _ _ _).mono ?_); rintro x wd3 ⟨rfl, hb⟩; have N := hid (show Below wd2.heap.size wd2 wd3 from bl_call (bl_alloc (Below.refl _ _)) hb); have TKwd3 := hid (TKwd2.out.trans (N.out.mono TKwd2.out.size)); have Mwd3 := hid (show TmAt wd3 (cT ⟨#[97]⟩ [(vrT 0), (vrT 1)]) (some ⟨wd2.heap.size, 0, none⟩) from (pair_built ⟨#[97]⟩ (vrT 0) (vrT 1) none none 0 0 wd2 (leaf_at _ _ _ _ _ _) (leaf_at _ _ _ _ _ _)).keep hb); clear hb N tok TKwd2)
      | (go_at_call 26; have tok := TKwd3; (with_reducible refine (CV.out _ _).mono ?_); rintro x wd4 ⟨rfl, hb⟩; have N := hid (show Below wd3.heap.size wd3 wd4 from bl_call (Below.refl _ _) hb); have TKwd4 := hid (TKwd3.out.trans (N.out.mono TKwd3.out.size)); have Mwd3 := hid (Mwd3.out.keep N.out); clear hb N tok TKwd3)
      | (go_at_call 26; have tok := TKwd4; (with_reducible refine (CV.out _ _).mono ?_); rintro x wd5 ⟨rfl, hb⟩; have N := hid (show Below wd4.heap.size wd4 wd5 from bl_call (Below.refl _ _) hb); have TKwd5 := hid (TKwd4.out.trans (N.out.mono TKwd4.out.size)); have Mwd3 := hid (Mwd3.out.keep N.out); clear hb N tok TKwd4)
      | (go_at_call 47; have tok := TKwd5; (with_reducible refine (CF.out _ _ _).mono ?_); rintro x wd6 ⟨rfl, hb⟩; have N := hid (show Below wd5.heap.size wd5 wd6 from bl_call (bl_alloc (Below.refl _ _)) hb); have TKwd6 := hid (TKwd5.out.trans (N.out.mono TKwd5.out.size)); have Mwd6 := hid (show TmAt wd6 (cT ⟨#[98]⟩ [(vrT 0), (vrT 2)]) (some ⟨wd5.heap.size, 0, none⟩) from (pair_built ⟨#[98]⟩ (vrT 0) (vrT 2) none none 0 0 wd5 (leaf_at _ _ _ _ _ _) (leaf_at _ _ _ _ _ _)).keep hb); have Mwd3 := hid (Mwd3.out.keep N.out); clear hb N tok TKwd5)
      | (go_at_call 26; have tok := TKwd6; (with_reducible refine (CV.out _ _).mono ?_); rintro x wd7 ⟨rfl, hb⟩; have N := hid (show Below wd6.heap.size wd6 wd7 from bl_call (Below.refl _ _) hb); have TKwd7 := hid (TKwd6.out.trans (N.out.mono TKwd6.out.size)); have Mwd3 := hid (Mwd3.out.keep N.out); have Mwd6 := hid (Mwd6.out.keep N.out); clear hb N tok TKwd6)
      | (go_at_call 26; have tok := TKwd7; (with_reducible refine (CV.out _ _).mono ?_); rintro x wd8 ⟨rfl, hb⟩; have N := hid (show Below wd7.heap.size wd7 wd8 from bl_call (Below.refl _ _) hb); have TKwd8 := hid (TKwd7.out.trans (N.out.mono TKwd7.out.size)); have Mwd3 := hid (Mwd3.out.keep N.out); have Mwd6 := hid (Mwd6.out.keep N.out); clear hb N tok TKwd7)
      | (go_at_call 47; have tok := TKwd8; (with_reducible refine (CF.out _ _ _).mono ?_); rintro x wd9 ⟨rfl, hb⟩; have N := hid (show Below wd8.heap.size wd8 wd9 from bl_call (bl_alloc (Below.refl _ _)) hb); have TKwd9 := hid (TKwd8.out.trans (N.out.mono TKwd8.out.size)); have Mwd9 := hid (show TmAt wd9 (cT ⟨#[99]⟩ [(vrT 2), (vrT 1)]) (some ⟨wd8.heap.size, 0, none⟩) from (pair_built ⟨#[99]⟩ (vrT 2) (vrT 1) none none 0 0 wd8 (leaf_at _ _ _ _ _ _) (leaf_at _ _ _ _ _ _)).keep hb); have Mwd3 := hid (Mwd3.out.keep N.out); have Mwd6 := hid (Mwd6.out.keep N.out); clear hb N tok TKwd8)
      | (go_at_call 47; have tok := TKwd9; (with_reducible refine (CF.out _ _ _).mono ?_); rintro x wd10 ⟨rfl, hb⟩; have N := hid (show Below wd9.heap.size wd9 wd10 from bl_call (bl_alloc (Below.refl _ _)) hb); have TKwd10 := hid (TKwd9.out.trans (N.out.mono TKwd9.out.size)); have Mwd10 := hid (show TmAt wd10 (cT ⟨#[44]⟩ [(cT ⟨#[98]⟩ [(vrT 0), (vrT 2)]), (cT ⟨#[99]⟩ [(vrT 2), (vrT 1)])]) (some ⟨wd9.heap.size, 0, none⟩) from (pair_built ⟨#[44]⟩ (cT ⟨#[98]⟩ [(vrT 0), (vrT 2)]) (cT ⟨#[99]⟩ [(vrT 2), (vrT 1)]) (some ⟨wd5.heap.size, 0, none⟩) (some ⟨wd8.heap.size, 0, none⟩) 2 2 wd9 Mwd6.out Mwd9.out).keep hb); have Mwd3 := hid (Mwd3.out.keep N.out); clear hb N tok TKwd9)
      | (go_at_call 47; have tok := TKwd10; (with_reducible refine (CF.out _ _ _).mono ?_); rintro x wd11 ⟨rfl, hb⟩; have N := hid (show Below wd10.heap.size wd10 wd11 from bl_call (bl_alloc (Below.refl _ _)) hb); have TKwd11 := hid (TKwd10.out.trans (N.out.mono TKwd10.out.size)); have Mwd11 := hid (show TmAt wd11 (cT ⟨#[58, 45]⟩ [(cT ⟨#[97]⟩ [(vrT 0), (vrT 1)]), (cT ⟨#[44]⟩ [(cT ⟨#[98]⟩ [(vrT 0), (vrT 2)]), (cT ⟨#[99]⟩ [(vrT 2), (vrT 1)])])]) (some ⟨wd10.heap.size, 0, none⟩) from (pair_built ⟨#[58, 45]⟩ (cT ⟨#[97]⟩ [(vrT 0), (vrT 1)]) (cT ⟨#[44]⟩ [(cT ⟨#[98]⟩ [(vrT 0), (vrT 2)]), (cT ⟨#[99]⟩ [(vrT 2), (vrT 1)])]) (some ⟨wd2.heap.size, 0, none⟩) (some ⟨wd9.heap.size, 0, none⟩) 2 2 wd10 Mwd3.out Mwd10.out).keep hb); clear hb N tok TKwd10)
      | (go_at_call 18; have tok := TKwd11; have MM := hid (show TmAt _ gR1 _ from Mwd11.out); (with_reducible refine (CS1.out _ _ _ _ (M3.out.keep TKwd11.out) MM.out).mono ?_); rintro x wd12 ⟨rfl, hb⟩; have TKwd12 := hid (TKwd11.out.trans (hb.mono TKwd11.out.size)); clear hb tok MM TKwd11)
      | fail))
  have P4 := hid (obj_keep P3.out TKwd12.out)
  have N4 := hid (N3.out.keep TKwd12.out)
  have BV4 := hid (BV3.out.trans (TKwd12.out.mono BV3.out.size))
  clear SR sr Mwd11 P3 N3 O3 M3 TKwd12
  have TV4 := hid (Below.refl wd12.heap.size wd12)
  go_upto_region 5 with fail
  have SR := hid (fun (V : World) (h : Below wd12.heap.size wd12 V) => (show V.cell? ⟨wc6.heap.size, 0, none⟩ = some (.int .i64 g3.kind) ∧ V.cell? ⟨wc6.heap.size, 1, none⟩ = some (.string g3.name) ∧ V.cell? ⟨wc6.heap.size, 2, none⟩ = some (.string g3.num) ∧ V.cell? ⟨wc6.heap.size, 3, none⟩ = some (.int .u64 g3.bits) ∧ V.cell? ⟨wc6.heap.size, 4, none⟩ = some (.int .i64 g3.var) ∧ V.cell? ⟨wc6.heap.size, 5, none⟩ = some (.slice q3 g3.args.length c3) from by
    have m := six_of (obj_keep P4.out h)
    exact ⟨m.c0, m.c1, m.c2, m.c3, m.c4, m.c5⟩))
  have sr := SR.out wd12 (Below.refl _ _)
  go_region_held3 (fun V => V.cell? ⟨wc6.heap.size, 0, none⟩ = some (.int .i64 g3.kind) ∧ V.cell? ⟨wc6.heap.size, 1, none⟩ = some (.string g3.name) ∧ V.cell? ⟨wc6.heap.size, 2, none⟩ = some (.string g3.num) ∧ V.cell? ⟨wc6.heap.size, 3, none⟩ = some (.int .u64 g3.bits) ∧ V.cell? ⟨wc6.heap.size, 4, none⟩ = some (.int .i64 g3.var) ∧ V.cell? ⟨wc6.heap.size, 5, none⟩ = some (.slice q3 g3.args.length c3))
    (first
      | (with_reducible exact sr)
      | (with_reducible exact SR.out _ (bl_drew (Below.refl _ _)))
      | (with_reducible exact SR.out _ TKwe1.out)
      | (with_reducible exact SR.out _ (bl_alloc TKwe1.out))
      | (with_reducible exact SR.out _ TKwe2.out)
      | (with_reducible exact SR.out _ (bl_alloc TKwe2.out))
      | (with_reducible exact SR.out _ TKwe3.out)
      | (with_reducible exact SR.out _ (bl_alloc TKwe3.out))
      | (with_reducible exact SR.out _ TKwe4.out)
      | (with_reducible exact SR.out _ (bl_alloc TKwe4.out))
      | (with_reducible exact SR.out _ TKwe5.out)
      | (with_reducible exact SR.out _ (bl_alloc TKwe5.out))
      | (with_reducible exact SR.out _ TKwe6.out)
      | (with_reducible exact SR.out _ (bl_alloc TKwe6.out))
      | fail)
    ((first
      | (go_at_call 26; have tok := TV4; (with_reducible refine (CV.out _ _).mono ?_); rintro x we1 ⟨rfl, hb⟩; have N := hid (show Below wd12.heap.size wd12 we1 from bl_call (bl_drew (Below.refl _ _)) hb); have TKwe1 := hid (TV4.out.trans (N.out.mono TV4.out.size)); clear hb N tok TV4)
      | (go_at_call 48; have tok := TKwe1; (with_reducible refine (CA.out _ _).mono ?_); rintro x we2 ⟨rfl, hb⟩; have N := hid (show Below we1.heap.size we1 we2 from bl_call (Below.refl _ _) hb); have TKwe2 := hid (TKwe1.out.trans (N.out.mono TKwe1.out.size)); clear hb N tok TKwe1)
      | (go_at_call 26; have tok := TKwe2; (with_reducible refine (CV.out _ _).mono ?_); rintro x we3 ⟨rfl, hb⟩; have N := hid (show Below we2.heap.size we2 we3 from bl_call (Below.refl _ _) hb); have TKwe3 := hid (TKwe2.out.trans (N.out.mono TKwe2.out.size)); clear hb N tok TKwe2)
      | (go_at_call 47; have tok := TKwe3; (with_reducible refine (CF.out _ _ _).mono ?_); rintro x we4 ⟨rfl, hb⟩; have N := hid (show Below we3.heap.size we3 we4 from bl_call (bl_alloc (Below.refl _ _)) hb); have TKwe4 := hid (TKwe3.out.trans (N.out.mono TKwe3.out.size)); have Mwe4 := hid (show TmAt we4 (cT ⟨#[46]⟩ [(aT ⟨#[120]⟩), (vrT 5)]) (some ⟨we3.heap.size, 0, none⟩) from (pair_built ⟨#[46]⟩ (aT ⟨#[120]⟩) (vrT 5) none none 0 0 we3 (leaf_at _ _ _ _ _ _) (leaf_at _ _ _ _ _ _)).keep hb); clear hb N tok TKwe3)
      | (go_at_call 47; have tok := TKwe4; (with_reducible refine (CF.out _ _ _).mono ?_); rintro x we5 ⟨rfl, hb⟩; have N := hid (show Below we4.heap.size we4 we5 from bl_call (bl_alloc (Below.refl _ _)) hb); have TKwe5 := hid (TKwe4.out.trans (N.out.mono TKwe4.out.size)); have Mwe5 := hid (show TmAt we5 (cT ⟨#[61]⟩ [(vrT 4), (cT ⟨#[46]⟩ [(aT ⟨#[120]⟩), (vrT 5)])]) (some ⟨we4.heap.size, 0, none⟩) from (pair_built ⟨#[61]⟩ (vrT 4) (cT ⟨#[46]⟩ [(aT ⟨#[120]⟩), (vrT 5)]) none (some ⟨we3.heap.size, 0, none⟩) 0 2 we4 (leaf_at _ _ _ _ _ _) Mwe4.out).keep hb); clear hb N tok TKwe4)
      | (go_at_call 18; have tok := TKwe5; have MM := hid (show TmAt _ gB3 _ from Mwe5.out); (with_reducible refine (CS3.out _ _ _ _ (N4.out.keep TKwe5.out) MM.out).mono ?_); rintro x we6 ⟨rfl, hb⟩; have TKwe6 := hid (TKwe5.out.trans (hb.mono TKwe5.out.size)); clear hb tok MM TKwe5)
      | fail))
  go_wp2_with fail
  go_ret
  exact ⟨rfl, BV4.out.trans (TKwe6.out.mono BV4.out.size)⟩
end Go.Proofs.YtiaddfedaikaiaaGreatDoor
