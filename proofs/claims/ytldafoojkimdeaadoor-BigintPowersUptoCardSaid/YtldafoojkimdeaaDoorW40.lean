/- Walks: negate. And what and, or, exclusive or and complement are of limbs. -/
import Derived.Test.YtldafoojkimdeaaDoorW19m
namespace Go.Proofs.YtldafoojkimdeaaDoor
open Go.RowKit Lm

theorem vec_nat (a : Nat) (ha : a < 4294967296) : (BitVec.ofInt 32 (a : Int)).toNat = a := by
  rw [BitVec.ofInt_natCast, BitVec.toNat_ofNat]; exact Nat.mod_eq_of_lt (by omega)
theorem wrap32 (n : Nat) (h : n < 4294967296) : IntKind.u32.wrap (n : Int) = (n : Int) := by
  simp [IntKind.wrap, IntKind.bits, IntKind.signed]; omega
theorem and32 (a b : Nat) (ha : a < 4294967296) (hb : b < 4294967296) : bits .and .u32 (a : Int) (b : Int) = ((a &&& b : Nat) : Int) := by
  show IntKind.u32.wrap ((BitVec.ofInt 32 (a : Int) &&& BitVec.ofInt 32 (b : Int)).toNat : Int) = _
  rw [BitVec.toNat_and, vec_nat a ha, vec_nat b hb]
  exact wrap32 _ (Nat.and_lt_two_pow (n := 32) _ (by omega))
theorem or32 (a b : Nat) (ha : a < 4294967296) (hb : b < 4294967296) : bits .or .u32 (a : Int) (b : Int) = ((a ||| b : Nat) : Int) := by
  show IntKind.u32.wrap ((BitVec.ofInt 32 (a : Int) ||| BitVec.ofInt 32 (b : Int)).toNat : Int) = _
  rw [BitVec.toNat_or, vec_nat a ha, vec_nat b hb]
  exact wrap32 _ (Nat.or_lt_two_pow (n := 32) (by omega) (by omega))
theorem xor32 (a b : Nat) (ha : a < 4294967296) (hb : b < 4294967296) : bits .xor .u32 (a : Int) (b : Int) = ((a ^^^ b : Nat) : Int) := by
  show IntKind.u32.wrap ((BitVec.ofInt 32 (a : Int) ^^^ BitVec.ofInt 32 (b : Int)).toNat : Int) = _
  rw [BitVec.toNat_xor, vec_nat a ha, vec_nat b hb]
  exact wrap32 _ (Nat.xor_lt_two_pow (n := 32) (by omega) (by omega))
theorem not32 (x : Nat) (hx : x < 4294967296) : bits .xor .u32 (if IntKind.u32.signed = true then -1 else IntKind.u32.max) (x : Int) = ((4294967295 - x : Nat) : Int) := by
  show IntKind.u32.wrap ((BitVec.allOnes 32 ^^^ BitVec.ofInt 32 (x : Int)).toNat : Int) = _
  rw [BitVec.allOnes_xor, BitVec.toNat_not, vec_nat x hx]
  exact wrap32 _ (by omega)

theorem neg_step {p c x o c' s u : Nat} (h : s + p * c + u = p) (he : c + (4294967295 - x) = o + 4294967296 * c') (hx : x < 4294967296) :
    (s + p * o) + p * 4294967296 * c' + (u + p * x) = p * 4294967296 := by
  obtain ⟨y, hy⟩ : ∃ y, y = 4294967295 - x := ⟨_, rfl⟩
  have h1 : c + y = o + 4294967296 * c' := by omega
  have h2 : x + y + 1 = 4294967296 := by omega
  clear he hy hx
  grind
theorem wrap_not (c x : Nat) (hc : c ≤ 1) (hx : x < 4294967296) : IntKind.u64.wrap ((c : Int) + IntKind.u64.wrap ((4294967295 - x : Nat) : Int)) = ((c + (4294967295 - x) : Nat) : Int) := by
  rw [IntKind.wrap_u64, IntKind.wrap_u64]; omega

set_option maxRecDepth 100000 in
set_option maxHeartbeats 2000000 in
theorem negate_any (g n cr : Nat) (X : List Nat) (w : World) (hX : Rw w g X) (oX : Ok X) (hl : X.length = n) (hn : n ≤ 5000) :
    Calls Tryd.prog 113 #[.slice (some ⟨g, 0, none⟩) n cr] w fun e w' => ∃ (M : List Nat) (c : Nat), e = .returned (.tuple #[]) ∧ M.length = n ∧ Ok M ∧ Rw w' g M ∧ val M + P n * c + val X = P n ∧ w.grownBy w' (some g) := by
  have HL := hid hl
  clear hl
  go_enter Tryd.func113, Tryd.ntmps113
  go_wp2
  go_loopw [2, 7] (fun c i wr => ∃ (k cv : Nat) (M : List Nat), k ≤ n ∧ i = .int .i64 (k : Int) ∧ c = .int .u64 (cv : Int) ∧ cv ≤ 1 ∧ Hid (M.length = k) ∧ Ok M ∧
      Hid (val M + P k * cv + val (X.take k) = P k) ∧ Rw wr g (M ++ X.drop k) ∧ w.grownBy wr (some g)) (fun _ i _ => n - (intOf i).toNat)
  case atStart => exact ⟨0, 1, [], by omega, rfl, rfl, by omega, hid rfl, Ok.nil, hid (by simp [val, P]), by simpa using hX, World.grownBy.refl _ _⟩
  case round =>
    obtain ⟨k, cv, M, hk, rfl, rfl, hcv, hM, hok, hval, hRw, hgr⟩ := hrel
    by_cases hlt : k < n
    · have hlen : k < (M ++ X.drop k).length := by rw [len_mid _ X _ hM.out (by rw [HL.out]; omega), HL.out]; omega
      have hcur := hRw.cell k hlen
      rw [dg_mid _ X _ hM.out] at hcur
      have hfr := hRw.free k
      have hx := oX.dg k
      have HX := hid (val_take_dg X k (by rw [HL.out]; omega))
      clear hlen
      obtain ⟨x, hxx⟩ : ∃ x, x = dg X k := ⟨_, rfl⟩
      have HXX := hid hxx
      rw [← hxx] at hcur hx
      clear hxx
      go_wp2
      obtain ⟨V, hV⟩ : ∃ V, V = cv + (4294967295 - x) := ⟨_, rfl⟩
      have hz : IntKind.u64.wrap ((cv : Int) + IntKind.u64.wrap (bits BinOp.xor IntKind.u32 (if IntKind.u32.signed = true then -1 else IntKind.u32.max) (x : Int))) = (V : Int) := by
        rw [not32 x hx, wrap_not cv x hcv hx, hV]
      go_roundw
      case rel =>
        refine ⟨k + 1, V / 4294967296, M ++ [V % 4294967296], by omega, by go_num, congrArg (Value.int .u64) (by rw [hz]; omega), by omega, hid (by rw [List.length_append, hM.out]; rfl), hok.snoc (Nat.mod_lt _ (by decide)), hid ?_, ?_, grown_set hgr _ _⟩
        · rw [val_snoc, hM.out, P_succ, HX.out, ← HXX.out]
          exact neg_step hval.out (by rw [← hV]; omega) hx
        · have := hRw.set' k (V % 4294967296) (z := IntKind.u64.wrap ((cv : Int) + IntKind.u64.wrap (bits BinOp.xor IntKind.u32 (if IntKind.u32.signed = true then -1 else IntKind.u32.max) (x : Int))) % 4294967296) (by rw [hz]; omega)
          rw [set_mid _ X _ _ hM.out (by rw [HL.out]; omega)] at this
          exact this
      case measure => simp [intOf]; omega
    · obtain rfl : k = n := by omega
      go_wp2
      go_end0
      refine ⟨M, cv, rfl, hM.out, hok, ?_, ?_, hgr⟩
      · rw [List.drop_of_length_le (by rw [HL.out]; exact Nat.le_refl _), List.append_nil] at hRw
        exact hRw
      · have := hval.out
        rw [List.take_of_length_le (by rw [HL.out]; exact Nat.le_refl _)] at this
        exact this
end Go.Proofs.YtldafoojkimdeaaDoor
