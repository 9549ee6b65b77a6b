/- Walks: awake. -/
import Derived.Test.YtldafoojkimdeaaDoorW23m
import Derived.Test.YtldafoojkimdeaaDoorW24
import Derived.Test.YtldafoojkimdeaaDoorW33
import Derived.Deep.DeepCutAuto
namespace Go.Proofs.YtldafoojkimdeaaDoor
open Go.RowKit Lm

abbrev Z24 : Obj := .cells #[.bool false, .slice none 0 0] 24

theorem Bx.read_put {w : World} {b : Nat} {u : Int} (hb : Bx w b u) {ao : Option Addr} {len cap : Nat} {A : List Nat} (h : Rd w ao len cap A) (x' y' : Value) : Rd ((w.setCell ⟨b, 0, none⟩ x').setCell ⟨b, 1, none⟩ y') ao len cap A := by
  obtain ⟨n', ao', len', cap', A', k1, _⟩ := hb
  exact h.pair24 k1 (by simp) (by simp) _ _

theorem heap_new2 (w : World) (o1 o2 : Obj) : ((w.alloc o1).alloc o2).heap[w.heap.size + 1]? = some o2 := by
  have := heap_alloc_new (w.alloc o1) o2; simpa using this

theorem sm_small {v : Int} (h1 : -9223372036854775808 ≤ v) (h2 : v ≤ 9223372036854775807) : Sm v := sm_of (k := 64) (by omega) (by decide)

/-- A small whole number has one limb at most; a positive one no sign. -/
theorem num_pos {n : Bool} {A : List Nat} {v : Int} (h : num n A = v) (h0 : 0 < v) : n = false ∧ val A = v.toNat := by
  unfold num at h
  cases n
  · simp at h; exact ⟨rfl, by omega⟩
  · simp at h; omega
theorem from_ok (n : Int) (w : World) (h1 : -9223372036854775808 ≤ n) (h2 : n ≤ 9223372036854775807) :
    Calls Tryd.prog 24 #[.int .i64 n] w fun e w' => ∃ n' ao' len' C, e = .returned (.agg #[.bool n', .slice ao' len' len']) ∧ Rd w' ao' len' len' C ∧ num n' C = n ∧ Below w.heap.size w w' := by
  refine (from_any n w h1 h2).mono ?_
  rintro e w' ⟨n', ao', len', rfl, hn, hb⟩
  obtain ⟨C, h1, h2⟩ := hn.read
  exact ⟨n', ao', len', C, rfl, h1, h2, hb⟩
theorem pow_ok {na : Bool} {aa : Option Addr} {la ca : Nat} {A : List Nat} (w : World) (hA : Rd w aa la ca A) (ea : num na A = 2) :
    Calls Tryd.prog 52 #[.agg #[.bool na, .slice aa la ca], .int .i64 100] w fun e w' => ∃ n' ao' len' C, e = .returned (.tuple #[.agg #[.bool n', .slice ao' len' len'], .int .i64 0]) ∧ Rd w' ao' len' len' C ∧ num n' C = 1267650600228229401496703205376 ∧ Below w.heap.size w w' := by
  refine (pow_good na aa la ca A 100 w hA (by decide) ((sm_small (by decide) (by decide)).short ea)).mono ?_
  rintro e w' ⟨n', ao', len', c, rfl, hf, hb⟩
  have e2 : num na A ^ 100 = 1267650600228229401496703205376 := by rw [ea]; decide
  rw [e2] at hf
  obtain ⟨rfl, C, h1, h2⟩ := hf.read (sm_of (k := 101) (by decide) (by decide))
  exact ⟨n', ao', len', C, rfl, h1, h2, hb⟩
theorem txt100 : strOf (txt false 10 1267650600228229401496703205376) = ⟨#[49, 50, 54, 55, 54, 53, 48, 54, 48, 48, 50, 50, 56, 50, 50, 57, 52, 48, 49, 52, 57, 54, 55, 48, 51, 50, 48, 53, 51, 55, 54]⟩ := by kernel_rfl
theorem text_ok {na : Bool} {aa : Option Addr} {la ca : Nat} {A : List Nat} (w : World) (hA : Rd w aa la ca A) (ea : num na A = 1267650600228229401496703205376) :
    Calls Tryd.prog 59 #[.agg #[.bool na, .slice aa la ca], .int .i64 10] w fun e w' => e = .returned (.tuple #[.string ⟨#[49, 50, 54, 55, 54, 53, 48, 54, 48, 48, 50, 50, 56, 50, 50, 57, 52, 48, 49, 52, 57, 54, 55, 48, 51, 50, 48, 53, 51, 55, 54]⟩, .int .i64 0]) ∧ Below w.heap.size w w' := by
  obtain ⟨hn, hv⟩ := num_pos ea (by decide)
  have h := text_good na aa la ca A 10 w hA (by decide) (by decide) ((sm_of (k := 101) (by decide) (by decide)).short ea)
  rw [hn, hv, show ((1267650600228229401496703205376 : Int).toNat) = 1267650600228229401496703205376 from rfl, txt100] at h
  rw [hn]; exact h
theorem parse_ok (w : World) : Calls Tryd.prog 57 #[.string ⟨#[45, 48, 48, 102, 102]⟩, .int .i64 16] w fun e w' => ∃ n' ao' len' C, e = .returned (.tuple #[.agg #[.bool n', .slice ao' len' len'], .int .i64 0]) ∧ Rd w' ao' len' len' C ∧ num n' C = -255 ∧ Below w.heap.size w w' := by
  refine (parse_good ⟨#[45, 48, 48, 102, 102]⟩ 16 w (by decide) (by decide) (by decide) (by decide) (by decide) (by decide)).mono ?_
  rintro e w' ⟨n', ao', len', c, rfl, hf, hb⟩
  have e2 : sval (signed ⟨#[45, 48, 48, 102, 102]⟩) (dval 16 (bare ⟨#[45, 48, 48, 102, 102]⟩).data.toList) = -255 := by decide
  rw [e2] at hf
  obtain ⟨rfl, C, h1, h2⟩ := hf.read (sm_small (by decide) (by decide))
  exact ⟨n', ao', len', C, rfl, h1, h2, hb⟩
theorem to_ok {n : Bool} {ao : Option Addr} {len cap : Nat} {A : List Nat} (v : Int) (w : World) (h : Rd w ao len cap A) (e : num n A = v) (h1 : as64 v = v) (h2 : fits64 v = true) :
    Calls Tryd.prog 26 #[.agg #[.bool n, .slice ao len cap]] w fun e w' => e = .returned (.tuple #[.int .i64 v, .bool true]) ∧ Below w.heap.size w w' := by
  have := to_any n ao len cap A w h
  rw [e, h1, h2] at this
  exact this
theorem divMod_ok {na : Bool} {aa : Option Addr} {la ca : Nat} {A : List Nat} {nb : Bool} {ab : Option Addr} {lb cb : Nat} {B : List Nat} (w : World) (hA : Rd w aa la ca A) (hB : Rd w ab lb cb B) (ea : num na A = -7) (eb : num nb B = 2) :
    Calls Tryd.prog 42 #[.agg #[.bool na, .slice aa la ca], .agg #[.bool nb, .slice ab lb cb]] w fun e w' => ∃ nq qo ql Q nr ro rl R, e = .returned (.tuple #[.agg #[.bool nq, .slice qo ql ql], .agg #[.bool nr, .slice ro rl rl], .int .i64 0]) ∧
      Rd w' qo ql ql Q ∧ num nq Q = -4 ∧ Rd w' ro rl rl R ∧ num nr R = 1 ∧ Below w.heap.size w w' := by
  obtain ⟨hn, hv⟩ := num_pos eb (by decide)
  refine (divMod_good na aa la ca A nb ab lb cb B w hA hB (by rw [(sm_small (by decide) (by decide)).short ea, (sm_small (by decide) (by decide)).short eb]; rfl) (by rw [hv]; decide) (len_of_bl B 1 (by rw [hv]; decide))).mono ?_
  rintro e w' ⟨nq, qo, ql, nr, ro, rl, q, r, rfl, h1, h2, hf, hb⟩
  rw [ea, eb] at hf
  obtain ⟨f1, f2, f3, f4⟩ := hf
  have f4' := f4 hn
  have hr : r = 1 := by omega
  have hq : q = -4 := by omega
  subst hr; subst hq
  obtain ⟨Q, k1, k2⟩ := h1.read
  obtain ⟨R, k3, k4⟩ := h2.read
  exact ⟨nq, qo, ql, Q, nr, ro, rl, R, rfl, k1, k2, k3, k4, hb⟩

theorem swap3 {a b c d : Prop} (h : a ∧ b ∧ c ∧ d) : a ∧ c ∧ b ∧ d := ⟨h.1, h.2.2.1, h.2.1, h.2.2.2⟩

theorem zero_bx {w : World} {p : Nat} (h : w.heap[p]? = some Z24) : Bx w p 0 := ⟨false, none, 0, 0, [], h, ⟨rfl, Ok.nil, Nat.le_refl _, by omega, fun h => by omega⟩, rfl⟩

section
variable {B : Nat} {w w3 : World} {g p q : Nat} {u v1 v2 z z' : Int} {n1 n2 : Bool} {o1 o2 : Option Addr} {l1 l2 c1 c2 : Nat} {C1 C2 : List Nat}
/-- Two numbers laid in two boxes: both new; one new; none. -/
theorem pairA (hB : Below B w w3) (hs : B ≤ w3.heap.size) (bg : Bx w3 g u) (h1 : Rd w3 o1 l1 c1 C1) (e1 : num n1 C1 = v1) (h2 : Rd w3 o2 l2 c2 C2) (e2 : num n2 C2 = v2) :
    Bx ((w3.alloc (.cells #[.bool n1, .slice o1 l1 c1] 24)).alloc (.cells #[.bool n2, .slice o2 l2 c2] 24)) g u ∧ Bx ((w3.alloc (.cells #[.bool n1, .slice o1 l1 c1] 24)).alloc (.cells #[.bool n2, .slice o2 l2 c2] 24)) w3.heap.size v1 ∧
      Bx ((w3.alloc (.cells #[.bool n1, .slice o1 l1 c1] 24)).alloc (.cells #[.bool n2, .slice o2 l2 c2] 24)) (w3.heap.size + 1) v2 ∧ Below B w ((w3.alloc (.cells #[.bool n1, .slice o1 l1 c1] 24)).alloc (.cells #[.bool n2, .slice o2 l2 c2] 24)) :=
  ⟨(bg.alloc _).alloc _, (Bx.new h1 e1).alloc _, by have := Bx.new (h2.alloc (.cells #[.bool n1, .slice o1 l1 c1] 24)) e2; simpa using this, (hB.alloc hs _).alloc (by simp; omega) _⟩
theorem pairB (hB : Below B w w3) (hs : B ≤ w3.heap.size) (bg : Bx w3 g u) (bp : Bx w3 p z) (hp : B ≤ p) (hg : g ≠ p) (h1 : Rd w3 o1 l1 c1 C1) (e1 : num n1 C1 = v1) (h2 : Rd w3 o2 l2 c2 C2) (e2 : num n2 C2 = v2) :
    Bx (((w3.setCell ⟨p, 0, none⟩ (.bool n1)).setCell ⟨p, 1, none⟩ (.slice o1 l1 c1)).alloc (.cells #[.bool n2, .slice o2 l2 c2] 24)) g u ∧ Bx (((w3.setCell ⟨p, 0, none⟩ (.bool n1)).setCell ⟨p, 1, none⟩ (.slice o1 l1 c1)).alloc (.cells #[.bool n2, .slice o2 l2 c2] 24)) p v1 ∧
      Bx (((w3.setCell ⟨p, 0, none⟩ (.bool n1)).setCell ⟨p, 1, none⟩ (.slice o1 l1 c1)).alloc (.cells #[.bool n2, .slice o2 l2 c2] 24)) w3.heap.size v2 ∧ Below B w (((w3.setCell ⟨p, 0, none⟩ (.bool n1)).setCell ⟨p, 1, none⟩ (.slice o1 l1 c1)).alloc (.cells #[.bool n2, .slice o2 l2 c2] 24)) := by
  have h2' := bp.read_put h2 (.bool n1) (.slice o1 l1 c1)
  exact ⟨(bg.put_other bp hg _ _).alloc _, (bp.put h1 e1).alloc _, by have := Bx.new h2' e2; simpa using this, (below_put hB hp _ _).alloc (by simpa using hs) _⟩
theorem pairC (hB : Below B w w3) (bg : Bx w3 g u) (bp : Bx w3 p z) (hp : B ≤ p) (hg : g ≠ p) (bq : Bx w3 q z') (hq : B ≤ q) (hgq : g ≠ q) (hpq : p ≠ q) (h1 : Rd w3 o1 l1 c1 C1) (e1 : num n1 C1 = v1) (h2 : Rd w3 o2 l2 c2 C2) (e2 : num n2 C2 = v2) :
    Bx ((((w3.setCell ⟨p, 0, none⟩ (.bool n1)).setCell ⟨p, 1, none⟩ (.slice o1 l1 c1)).setCell ⟨q, 0, none⟩ (.bool n2)).setCell ⟨q, 1, none⟩ (.slice o2 l2 c2)) g u ∧ Bx ((((w3.setCell ⟨p, 0, none⟩ (.bool n1)).setCell ⟨p, 1, none⟩ (.slice o1 l1 c1)).setCell ⟨q, 0, none⟩ (.bool n2)).setCell ⟨q, 1, none⟩ (.slice o2 l2 c2)) p v1 ∧
      Bx ((((w3.setCell ⟨p, 0, none⟩ (.bool n1)).setCell ⟨p, 1, none⟩ (.slice o1 l1 c1)).setCell ⟨q, 0, none⟩ (.bool n2)).setCell ⟨q, 1, none⟩ (.slice o2 l2 c2)) q v2 ∧ Below B w ((((w3.setCell ⟨p, 0, none⟩ (.bool n1)).setCell ⟨p, 1, none⟩ (.slice o1 l1 c1)).setCell ⟨q, 0, none⟩ (.bool n2)).setCell ⟨q, 1, none⟩ (.slice o2 l2 c2)) := by
  have h2' := bp.read_put h2 (.bool n1) (.slice o1 l1 c1)
  have bq' := bq.put_other bp (Ne.symm hpq) (.bool n1) (.slice o1 l1 c1)
  exact ⟨(bg.put_other bp hg _ _).put_other bq' hgq _ _, (bp.put h1 e1).put_other bq' hpq _ _, bq'.put h2' e2, below_put (below_put hB hp _ _) hq _ _⟩
end

set_option maxRecDepth 100000 in
set_option maxHeartbeats 2000000 in
theorem awake_yes (w : World) : Calls Tryd.prog 16 #[] w fun e w' => e = .returned (.bool true) ∧ Below w.heap.size w w' := by
  go_enter Tryd.func16, Tryd.ntmps16
  go_upto_region 1 with fail
  go_cut [1] (fun s1 wx => ∃ g1, s1 = .pointer (some ⟨g1, 0, none⟩) ∧ Bx wx g1 (-7) ∧ w.heap.size ≤ g1 ∧ Below w.heap.size w wx)
  case first =>
    go_wp2_with fail
    refine (from_ok _ _ (by omega) (by omega)).mono ?_
    rintro e w1 ⟨n1, ao1, len1, C1, rfl, hR1, hE1, hb1⟩
    have HE1 := hid hE1
    clear hE1
    go_wp2
    go_meet
    exact ⟨_, rfl, Bx.new hR1 HE1.out, hb1.size, hb1.alloc hb1.size _⟩
  case rest =>
    obtain ⟨g1, rfl, b1, hg1, hb1⟩ := hcut
    go_upto_region 2 with fail
    go_cut [2, 3, 4] (fun s2 s3 s4 wx => ∃ g2 g3, s2 = .pointer (some ⟨g2, 0, none⟩) ∧ s3 = .pointer (some ⟨g3, 0, none⟩) ∧ s4 = .int .i64 0 ∧ Bx wx g1 (-7) ∧ Bx wx g2 (-4) ∧ Bx wx g3 1 ∧ Below w.heap.size w wx)
    case first => --R2BEGIN
      have hgl := b1.lt
      have b1' := b1
      obtain ⟨na, aa, la, ca, A, hH, hR, hE⟩ := b1'
      obtain ⟨a0, a1, _, _⟩ := two_cells hH
      have HE := hid hE
      have HH := hid hH
      have hs1 := hb1.size
      have nC : wc.heap.size ≠ g1 := by omega
      have nD : wc.heap.size + 1 ≠ g1 := by omega
      have HHD := hid (show wc.drew.heap[g1]? = some (.cells #[.bool na, .slice aa la ca] 24 (0, 0)) from hH)
      clear hE hH
      go_wp2_with fail
      go_region_held3 (fun w' => w'.cell? ⟨g1, 0, none⟩ = some (.bool na) ∧ w'.cell? ⟨g1, 1, none⟩ = some (.slice aa la ca))
        (first
          | go_keep
          | (with_reducible exact ⟨c2, d2⟩)
          | (with_reducible exact ⟨c2, d2⟩)
          | (with_reducible exact ⟨c3, d3⟩))
        ((first
          | (go_at_call 24; (with_reducible refine (from_ok 2 wc.drew (by omega) (by omega)).mono ?_); rintro e w2 ⟨n2, ao2, len2, C2, rfl, hR2, hE2, hb2⟩; have hA2 := hR.drew.keep hb2; have HE2 := hid hE2; have B1 := b1.drew.keep hb2; have H2 := hid (heap_keep HHD.out hb2); have c2 := (two_cells H2.out).1; have d2 := (two_cells H2.out).2.1; have hbx := hb1.drew.trans (hb2.mono (by simp; omega)); have hwl := Nat.lt_of_lt_of_le hgl hb2.size; have nA : w2.heap.size ≠ g1 := (by have := hb2.size; simp at this; omega); have nB : w2.heap.size + 1 ≠ g1 := (by have := hb2.size; simp at this; omega); clear hE2)
          | (go_at_call 24; (with_reducible refine (from_ok 2 (wc.alloc Z24).drew (by omega) (by omega)).mono ?_); rintro e w2 ⟨n2, ao2, len2, C2, rfl, hR2, hE2, hb2⟩; have hb2 : Below (wc.drew.alloc Z24).heap.size (wc.drew.alloc Z24) w2 := hb2; have hA2 := (hR.drew.alloc _).keep hb2; have HE2 := hid hE2; have B1 := (b1.drew.alloc _).keep hb2; have H2 := hid (heap_keep (hpS Z24 HHD.out) hb2); have c2 := (two_cells H2.out).1; have d2 := (two_cells H2.out).2.1; have hbx := (hb1.drew.alloc hs1 _).trans (hb2.mono (by simp; omega)); have nA : w2.heap.size ≠ g1 := (by have := hb2.size; simp at this; omega); have nB : w2.heap.size + 1 ≠ g1 := (by have := hb2.size; simp at this; omega); clear hE2; have Z0 : Hid (w2.heap[wc.heap.size]? = some Z24) := hid (heap_keep (heap_alloc_new wc.drew Z24) hb2); have hz0 := lt_of_block Z0.out; have nE : wc.heap.size ≠ w2.heap.size := (by omega); have nF : w2.heap.size ≠ wc.heap.size := (by omega))
          | (go_at_call 24; (with_reducible refine (from_ok 2 ((wc.alloc Z24).alloc Z24).drew (by omega) (by omega)).mono ?_); rintro e w2 ⟨n2, ao2, len2, C2, rfl, hR2, hE2, hb2⟩; have hb2 : Below ((wc.drew.alloc Z24).alloc Z24).heap.size ((wc.drew.alloc Z24).alloc Z24) w2 := hb2; have hA2 := ((hR.drew.alloc _).alloc _).keep hb2; have HE2 := hid hE2; have B1 := ((b1.drew.alloc _).alloc _).keep hb2; have H2 := hid (heap_keep (hpS Z24 (hpS Z24 HHD.out)) hb2); have c2 := (two_cells H2.out).1; have d2 := (two_cells H2.out).2.1; have hbx := ((hb1.drew.alloc hs1 _).alloc (by simp; omega) _).trans (hb2.mono (by simp; omega)); have nA : w2.heap.size ≠ g1 := (by have := hb2.size; simp at this; omega); have nB : w2.heap.size + 1 ≠ g1 := (by have := hb2.size; simp at this; omega); clear hE2; have Z0 : Hid (w2.heap[wc.heap.size]? = some Z24) := hid (heap_keep (hpS Z24 (heap_alloc_new wc.drew Z24)) hb2); have Z1 : Hid (w2.heap[wc.heap.size + 1]? = some Z24) := hid (heap_keep (heap_new2 wc.drew Z24 Z24) hb2); have hz0 := lt_of_block Z0.out; have nE : wc.heap.size ≠ w2.heap.size := (by omega); have nF : w2.heap.size ≠ wc.heap.size := (by omega); have hz1 := lt_of_block Z1.out)
          | (go_at_call 42; (with_reducible refine (divMod_ok w2 hA2 hR2 HE.out HE2.out).mono ?_); rintro e w3 ⟨nq, qo, ql, Q, nr, ro, rl, R, rfl, k1, k2, k3, k4, hb3⟩; have K2 := hid k2; have K4 := hid k4; have H3 := hid (heap_keep H2.out hb3); have c3 := (two_cells H3.out).1; have d3 := (two_cells H3.out).2.1; have hby := hbx.trans (hb3.mono (by have := hbx.size; simp; omega)); have B2 := B1.keep hb3; have n0 := World.new_ne w3 _ c3; have n1 := World.new_ne w3 _ d3; clear k2 k4; (try (have Z0' := hid (heap_keep Z0.out hb3); obtain ⟨z0, z1, z2, z3⟩ := two_cells Z0'.out; have hz03 := lt_of_block Z0'.out)); (try (have Z1' := hid (heap_keep Z1.out hb3); obtain ⟨z4, z5, z6, z7⟩ := two_cells Z1'.out; have hz13 := lt_of_block Z1'.out)))
          | (go_at_call 42; (with_reducible refine (divMod_ok (w2.alloc Z24) (hA2.alloc _) (hR2.alloc _) HE.out HE2.out).mono ?_); rintro e w3 ⟨nq, qo, ql, Q, nr, ro, rl, R, rfl, k1, k2, k3, k4, hb3⟩; have K2 := hid k2; have K4 := hid k4; have H3 := hid (heap_keep (hpS Z24 H2.out) hb3); have c3 := (two_cells H3.out).1; have d3 := (two_cells H3.out).2.1; have hby := (hbx.alloc hbx.size _).trans (hb3.mono (by have := hbx.size; simp; omega)); have B2 := (B1.alloc _).keep hb3; have n0 := World.new_ne w3 _ c3; have n1 := World.new_ne w3 _ d3; clear k2 k4; have Y0 := hid (heap_keep (heap_alloc_new w2 Z24) hb3); obtain ⟨y0, y1, y2, y3⟩ := two_cells Y0.out; have hy0 := lt_of_block Y0.out; (try (have Z0' := hid (heap_keep (hpS Z24 Z0.out) hb3); obtain ⟨z0, z1, z2, z3⟩ := two_cells Z0'.out; have hz03 := lt_of_block Z0'.out)); (try (have Z1' := hid (heap_keep (hpS Z24 Z1.out) hb3); obtain ⟨z4, z5, z6, z7⟩ := two_cells Z1'.out; have hz13 := lt_of_block Z1'.out)))
          | (go_at_call 42; (with_reducible refine (divMod_ok ((w2.alloc Z24).alloc Z24) ((hA2.alloc _).alloc _) ((hR2.alloc _).alloc _) HE.out HE2.out).mono ?_); rintro e w3 ⟨nq, qo, ql, Q, nr, ro, rl, R, rfl, k1, k2, k3, k4, hb3⟩; have K2 := hid k2; have K4 := hid k4; have H3 := hid (heap_keep (hpS Z24 (hpS Z24 H2.out)) hb3); have c3 := (two_cells H3.out).1; have d3 := (two_cells H3.out).2.1; have hby := ((hbx.alloc hbx.size _).alloc (by have := hbx.size; simp; omega) _).trans (hb3.mono (by have := hbx.size; simp; omega)); have B2 := ((B1.alloc _).alloc _).keep hb3; have n0 := World.new_ne w3 _ c3; have n1 := World.new_ne w3 _ d3; clear k2 k4; have Y0 := hid (heap_keep (hpS Z24 (heap_alloc_new w2 Z24)) hb3); have Y1 := hid (heap_keep (heap_new2 w2 Z24 Z24) hb3); obtain ⟨y0, y1, y2, y3⟩ := two_cells Y0.out; obtain ⟨y4, y5, y6, y7⟩ := two_cells Y1.out; have hy0 := lt_of_block Y0.out; have hy1 := lt_of_block Y1.out; (try (have Z0' := hid (heap_keep (hpS Z24 (hpS Z24 Z0.out)) hb3); obtain ⟨z0, z1, z2, z3⟩ := two_cells Z0'.out; have hz03 := lt_of_block Z0'.out)); (try (have Z1' := hid (heap_keep (hpS Z24 (hpS Z24 Z1.out)) hb3); obtain ⟨z4, z5, z6, z7⟩ := two_cells Z1'.out; have hz13 := lt_of_block Z1'.out)))))
      all_goals
        go_wp2
        go_meet
        have hsy := hby.size
        (try have bz0 := zero_bx Z0'.out)
        (try have bz1 := zero_bx Z1'.out)
        (try have by0 := zero_bx Y0.out)
        (try have by1 := zero_bx Y1.out)
        have hl2 : w.heap.size ≤ w2.heap.size := hbx.size
        have i1 : w.heap.size ≤ w2.heap.size := hl2
        have i2 : w.heap.size ≤ w2.heap.size + 1 := by omega
        have i3 : w.heap.size ≤ wc.heap.size := hs1
        have i4 : w.heap.size ≤ wc.heap.size + 1 := by omega
        have m1 : g1 ≠ w2.heap.size := by omega
        have m2 : g1 ≠ w2.heap.size + 1 := by omega
        have m3 : g1 ≠ wc.heap.size := by omega
        have m4 : g1 ≠ wc.heap.size + 1 := by omega
        have k12 : w2.heap.size ≠ w2.heap.size + 1 := by omega
        have k21 : w2.heap.size + 1 ≠ w2.heap.size := by omega
        have k34 : wc.heap.size ≠ wc.heap.size + 1 := by omega
        have k43 : wc.heap.size + 1 ≠ wc.heap.size := by omega
        with_reducible refine ⟨_, _, rfl, rfl, rfl, ?_⟩
        first
          | (with_reducible exact pairA hby hsy B2 k1 K2.out k3 K4.out)
          | (with_reducible refine swap3 (pairA hby hsy B2 k3 K4.out k1 K2.out))
          | (with_reducible exact pairB hby hsy B2 by0 i1 m1 k1 K2.out k3 K4.out)
          | (with_reducible refine swap3 (pairB hby hsy B2 by0 i1 m1 k3 K4.out k1 K2.out))
          | (with_reducible exact pairB hby hsy B2 bz0 i3 m3 k1 K2.out k3 K4.out)
          | (with_reducible refine swap3 (pairB hby hsy B2 bz0 i3 m3 k3 K4.out k1 K2.out))
          | (with_reducible exact pairC hby B2 by0 i1 m1 by1 i2 m2 k12 k1 K2.out k3 K4.out)
          | (with_reducible refine swap3 (pairC hby B2 by0 i1 m1 by1 i2 m2 k12 k3 K4.out k1 K2.out))
          | (with_reducible exact pairC hby B2 by1 i2 m2 by0 i1 m1 k21 k1 K2.out k3 K4.out)
          | (with_reducible refine swap3 (pairC hby B2 by1 i2 m2 by0 i1 m1 k21 k3 K4.out k1 K2.out))
          | (with_reducible exact pairC hby B2 bz0 i3 m3 by0 i1 m1 nE k1 K2.out k3 K4.out)
          | (with_reducible refine swap3 (pairC hby B2 bz0 i3 m3 by0 i1 m1 nE k3 K4.out k1 K2.out))
          | (with_reducible exact pairC hby B2 by0 i1 m1 bz0 i3 m3 nF k1 K2.out k3 K4.out)
          | (with_reducible refine swap3 (pairC hby B2 by0 i1 m1 bz0 i3 m3 nF k3 K4.out k1 K2.out))
          | (with_reducible exact pairC hby B2 bz0 i3 m3 bz1 i4 m4 k34 k1 K2.out k3 K4.out)
          | (with_reducible refine swap3 (pairC hby B2 bz0 i3 m3 bz1 i4 m4 k34 k3 K4.out k1 K2.out))
          | (with_reducible exact pairC hby B2 bz1 i4 m4 bz0 i3 m3 k43 k1 K2.out k3 K4.out)
          | (with_reducible refine swap3 (pairC hby B2 bz1 i4 m4 bz0 i3 m3 k43 k3 K4.out k1 K2.out))
          | trace_state
    --R2END
    case rest =>
      obtain ⟨g2, g3, rfl, rfl, rfl, b1, b2, b3, hb1⟩ := hcut
      go_upto_region 3 with fail
      go_cut [5, 6] (fun s5 s6 wx => ∃ g5, s5 = .pointer (some ⟨g5, 0, none⟩) ∧ s6 = .int .i64 0 ∧ Bx wx g1 (-7) ∧ Bx wx g2 (-4) ∧ Bx wx g3 1 ∧ Bx wx g5 1267650600228229401496703205376 ∧ Below w.heap.size w wx)
      case first =>
        go_wp2_with fail
        refine (from_ok _ _ (by omega) (by omega)).mono ?_
        rintro e w1 ⟨n1, ao1, len1, C1, rfl, hR1, hE1, hb2⟩
        have HE1 := hid hE1
        clear hE1
        go_wp2_with fail
        refine (pow_ok _ hR1 HE1.out).mono ?_
        rintro e w2 ⟨n2, ao2, len2, C2, rfl, hR2, hE2, hb3⟩
        have HE2 := hid hE2
        clear hE2
        go_wp2
        go_meet
        have hc1 := hb1.trans (hb2.mono hb1.size)
        have hc2 := hc1.trans (hb3.mono hc1.size)
        exact ⟨_, rfl, rfl, ((b1.keep hb2).keep hb3).alloc _, ((b2.keep hb2).keep hb3).alloc _, ((b3.keep hb2).keep hb3).alloc _, Bx.new hR2 HE2.out, hc2.alloc hc2.size _⟩
      case rest =>
        obtain ⟨g5, rfl, rfl, b1, b2, b3, b5, hb1⟩ := hcut
        go_upto_region 4 with fail
        go_cut [7, 8] (fun s7 s8 wx => s7 = .string ⟨#[49, 50, 54, 55, 54, 53, 48, 54, 48, 48, 50, 50, 56, 50, 50, 57, 52, 48, 49, 52, 57, 54, 55, 48, 51, 50, 48, 53, 51, 55, 54]⟩ ∧ s8 = .int .i64 0 ∧ Bx wx g1 (-7) ∧ Bx wx g2 (-4) ∧ Bx wx g3 1 ∧ Bx wx g5 1267650600228229401496703205376 ∧ Below w.heap.size w wx)
        case first =>
          have b5' := b5
          obtain ⟨na, aa, la, ca, A, hH, hR, hE⟩ := b5'
          obtain ⟨a0, a1, _, _⟩ := two_cells hH
          have HE := hid hE
          clear hE hH
          go_wp2_with fail
          refine (text_ok _ hR HE.out).mono ?_
          rintro e w2 ⟨rfl, hb2⟩
          go_wp2
          go_meet
          exact ⟨rfl, rfl, b1.keep hb2, b2.keep hb2, b3.keep hb2, b5.keep hb2, hb1.trans (hb2.mono hb1.size)⟩
        case rest =>
          obtain ⟨rfl, rfl, b1, b2, b3, b5, hb1⟩ := hcut
          go_upto_region 5 with fail
          go_cut [9, 10] (fun s9 s10 wx => ∃ g9, s9 = .pointer (some ⟨g9, 0, none⟩) ∧ s10 = .int .i64 0 ∧ Bx wx g1 (-7) ∧ Bx wx g2 (-4) ∧ Bx wx g3 1 ∧ Bx wx g5 1267650600228229401496703205376 ∧ Bx wx g9 (-255) ∧ Below w.heap.size w wx)
          case first =>
            go_wp2_with fail
            refine (parse_ok _).mono ?_
            rintro e w2 ⟨n2, ao2, len2, C2, rfl, hR2, hE2, hb2⟩
            have HE2 := hid hE2
            clear hE2
            go_wp2
            go_meet
            have hc1 := hb1.trans (hb2.mono hb1.size)
            exact ⟨_, rfl, rfl, (b1.keep hb2).alloc _, (b2.keep hb2).alloc _, (b3.keep hb2).alloc _, (b5.keep hb2).alloc _, Bx.new hR2 HE2.out, hc1.alloc hc1.size _⟩
          case rest =>
            obtain ⟨g9, rfl, rfl, b1, b2, b3, b5, b9, hb1⟩ := hcut
            go_upto_region 6 with fail
            go_cut [11, 12] (fun s11 s12 wx => s11 = .int .i64 (-4) ∧ s12 = .bool true ∧ Bx wx g1 (-7) ∧ Bx wx g3 1 ∧ Bx wx g5 1267650600228229401496703205376 ∧ Bx wx g9 (-255) ∧ Below w.heap.size w wx)
            case first =>
              have b2' := b2
              obtain ⟨na, aa, la, ca, A, hH, hR, hE⟩ := b2'
              obtain ⟨a0, a1, _, _⟩ := two_cells hH
              have HE := hid hE
              clear hE hH
              go_wp2_with fail
              refine (to_ok (-4) _ hR HE.out (by decide) (by decide)).mono ?_
              rintro e w2 ⟨rfl, hb2⟩
              go_wp2
              go_meet
              exact ⟨rfl, rfl, b1.keep hb2, b3.keep hb2, b5.keep hb2, b9.keep hb2, hb1.trans (hb2.mono hb1.size)⟩
            case rest =>
              obtain ⟨rfl, rfl, b1, b3, b5, b9, hb1⟩ := hcut
              go_upto_region 7 with fail
              go_cut [13, 14] (fun s13 s14 wx => s13 = .int .i64 (-255) ∧ s14 = .bool true ∧ Bx wx g1 (-7) ∧ Bx wx g3 1 ∧ Bx wx g5 1267650600228229401496703205376 ∧ Below w.heap.size w wx)
              case first =>
                have b9' := b9
                obtain ⟨na, aa, la, ca, A, hH, hR, hE⟩ := b9'
                obtain ⟨a0, a1, _, _⟩ := two_cells hH
                have HE := hid hE
                clear hE hH
                go_wp2_with fail
                refine (to_ok (-255) _ hR HE.out (by decide) (by decide)).mono ?_
                rintro e w2 ⟨rfl, hb2⟩
                go_wp2
                go_meet
                exact ⟨rfl, rfl, b1.keep hb2, b3.keep hb2, b5.keep hb2, hb1.trans (hb2.mono hb1.size)⟩
              case rest =>
                obtain ⟨rfl, rfl, b1, b3, b5, hb1⟩ := hcut
                have b1' := b1
                have b3' := b3
                have b5' := b5
                obtain ⟨n1, ao1, l1, k1, A1, hH1, hR1, hE1⟩ := b1'
                obtain ⟨n3, ao3, l3, k3, A3, hH3, hR3, hE3⟩ := b3'
                obtain ⟨n5, ao5, l5, k5, A5, hH5, hR5, hE5⟩ := b5'
                obtain ⟨c10, c11, _, _⟩ := two_cells hH1
                obtain ⟨c30, c31, _, _⟩ := two_cells hH3
                obtain ⟨c50, c51, _, _⟩ := two_cells hH5
                have HE1 := hid hE1
                have HE3 := hid hE3
                have HE5 := hid hE5
                have HH1 := hid (show wc.drew.heap[g1]? = _ from hH1)
                have HH3 := hid (show wc.drew.heap[g3]? = _ from hH3)
                have HH5 := hid (show wc.drew.heap[g5]? = _ from hH5)
                have hbd := hb1.drew
                have Hb5 : Hid (bl (val A5) = 101) := hid (by
                  obtain ⟨_, h2⟩ := num_pos hE5 (by decide)
                  rw [h2]; exact bl_unique (by decide) (by decide))
                clear hE1 hE3 hE5 hH1 hH3 hH5 b1 b3 b5
                go_wp2_with fail
                go_region_held3 (fun w' => w'.cell? ⟨g1, 0, none⟩ = some (.bool n1) ∧ w'.cell? ⟨g1, 1, none⟩ = some (.slice ao1 l1 k1) ∧ w'.cell? ⟨g3, 0, none⟩ = some (.bool n3) ∧ w'.cell? ⟨g3, 1, none⟩ = some (.slice ao3 l3 k3) ∧ w'.cell? ⟨g5, 0, none⟩ = some (.bool n5) ∧ w'.cell? ⟨g5, 1, none⟩ = some (.slice ao5 l5 k5))
                  (first
                    | go_keep
                    | (with_reducible exact ⟨(two_cells K1.out).1, (two_cells K1.out).2.1, (two_cells K3.out).1, (two_cells K3.out).2.1, (two_cells K5.out).1, (two_cells K5.out).2.1⟩)
                    | (with_reducible exact ⟨(two_cells J1.out).1, (two_cells J1.out).2.1, (two_cells J3.out).1, (two_cells J3.out).2.1, (two_cells J5.out).1, (two_cells J5.out).2.1⟩)
                    | (with_reducible exact ⟨(two_cells I1.out).1, (two_cells I1.out).2.1, (two_cells I3.out).1, (two_cells I3.out).2.1, (two_cells I5.out).1, (two_cells I5.out).2.1⟩)
                    | (with_reducible exact ⟨(two_cells L1.out).1, (two_cells L1.out).2.1, (two_cells L3.out).1, (two_cells L3.out).2.1, (two_cells L5.out).1, (two_cells L5.out).2.1⟩))
                  ((first
                    | (go_at_call 24; (with_reducible refine (from_ok 1 wc.drew (by omega) (by omega)).mono ?_); rintro e w2 ⟨n2, ao2, len2, C2, rfl, hR2, hE2, hb2⟩; have HE2 := hid hE2; have K1 := hid (heap_keep HH1.out hb2); have K3 := hid (heap_keep HH3.out hb2); have K5 := hid (heap_keep HH5.out hb2); have hr1 := hR1.drew.keep hb2; have hr3 := hR3.drew.keep hb2; have hr5 := hR5.drew.keep hb2; have hbx := hbd.trans (hb2.mono hbd.size); clear hE2)
                    | (go_at_call 30; (with_reducible refine (cmp_any n3 ao3 l3 k3 A3 n2 ao2 len2 len2 C2 w2 hr3 hR2).mono ?_); rintro e w3 ⟨rfl, hb3⟩; rw [HE3.out, HE2.out, show Int.sign (1 - 1) = 0 from rfl]; have J1 := hid (heap_keep K1.out hb3); have J3 := hid (heap_keep K3.out hb3); have J5 := hid (heap_keep K5.out hb3); have hq1 := hr1.keep hb3; have hq5 := hr5.keep hb3; have hby := hbx.trans (hb3.mono hbx.size))
                    | (go_at_call 28; (with_reducible refine (sign_any n1 ao1 l1 k1 A1 w3 hq1).mono ?_); rintro e w4 ⟨rfl, hw4⟩; rw [HE1.out, show Int.sign (-7) = -1 from rfl]; have hb4 : Below w3.heap.size w3 w4 := (by rw [← hw4]; exact (Below.refl _ _).alloc (Nat.le_refl _) _); clear hw4; have I1 := hid (heap_keep J1.out hb4); have I3 := hid (heap_keep J3.out hb4); have I5 := hid (heap_keep J5.out hb4); have hp5 := hq5.keep hb4; have hbz := hby.trans (hb4.mono hby.size))
                    | (go_at_call 32; (with_reducible refine (bits_any n5 ao5 l5 k5 A5 w4 hp5).mono ?_); rintro e w5 ⟨rfl, hb5⟩; rw [Hb5.out]; have L1 := hid (heap_keep I1.out hb5); have L3 := hid (heap_keep I3.out hb5); have L5 := hid (heap_keep I5.out hb5); have hbu := hbz.trans (hb5.mono hbz.size))))
                all_goals
                  go_wp2
                  go_ret
                  exact ⟨rfl, hbu⟩
end Go.Proofs.YtldafoojkimdeaaDoor
