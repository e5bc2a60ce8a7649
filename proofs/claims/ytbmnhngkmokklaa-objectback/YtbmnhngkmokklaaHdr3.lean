/-
  The twin's Header, ParseHeader: what each returns, for every input. No conditions.
-/
import Derived.Test.YtbmnhngkmokklaaHdr2
namespace Go.Proofs.Ytbmnhngkmokklaa
open Go.RowKit Go.Bit Go.Flo

theorem rheader_no (k m e : Int) (h : ¬ MayH k m) (w : World) : Calls Try.prog 19 #[.int .i64 k, .int .i64 m, .int .u64 e] w fun e w' => e = .returned (.int .u64 0) ∧ w = w' := by
  unfold MayH at h
  by_cases c1 : k < 0
  · go_enter Try.func19, Try.ntmps19
    go_wp2
    go_ret
    exact ⟨rfl, rfl⟩
  · by_cases c2 : 15 < k
    · go_enter Try.func19, Try.ntmps19
      go_wp2
      go_ret
      exact ⟨rfl, rfl⟩
    · by_cases c3 : m < 1
      · go_enter Try.func19, Try.ntmps19
        go_wp2
        go_ret
        exact ⟨rfl, rfl⟩
      · have c4 : 16 < m := by omega
        go_enter Try.func19, Try.ntmps19
        go_wp2
        go_ret
        exact ⟨rfl, rfl⟩

theorem or_up (x v f : Nat) (hx : x < 2 ^ f) (h : x < 18446744073709551616) (hv : v * 2 ^ f < 18446744073709551616) : bits BinOp.or IntKind.u64 (x : Int) ((v * 2 ^ f : Nat) : Int) = ((x + v * 2 ^ f : Nat) : Int) := by
  rw [u64_or_nat _ _ h hv, Nat.or_comm, Nat.mul_comm v, ← Nat.two_pow_add_eq_or_of_lt hx, Nat.add_comm]

theorem body_bits (k m t : Nat) (hk : k < 16) (hm : m ≤ 16) (he : t < 18446744073709551616) :
    bits BinOp.or IntKind.u64 (bits BinOp.or IntKind.u64 (k : Int) ((m : Int) * 16)) (IntKind.u64.wrap (bits BinOp.and IntKind.u64 (t : Int) 4294967295 * 512)) = ((hbody k m t : Nat) : Int) := by
  have e1 : bits BinOp.or IntKind.u64 (k : Int) ((m : Int) * 16) = ((k + m * 16 : Nat) : Int) := or_up k m 4 (by omega) (by omega) (by omega)
  have e2 : bits BinOp.and IntKind.u64 (t : Int) 4294967295 = ((t % 4294967296 : Nat) : Int) := and_mask t 32 he (by decide)
  have e3 : IntKind.u64.wrap (((t % 4294967296 : Nat) : Int) * 512) = ((t % 4294967296 * 2 ^ 9 : Nat) : Int) := by rw [IntKind.wrap_u64]; omega
  rw [e1, e2, e3, or_up (k + m * 16) (t % 4294967296) 9 (by omega) (by omega) (by omega)]
  unfold hbody
  omega

theorem hd_bits (k m t : Nat) (hk : k < 16) (hm : m ≤ 16) :
    bits BinOp.or IntKind.u64 ((hbody k m t : Nat) : Int) (IntKind.u64.wrap (((hck (hbody k m t) : Nat) : Int) * 72057594037927936)) = ((hd k m t : Nat) : Int) := by
  have hb := hbody_lt k m t hk hm
  have hc := hck_le (hbody k m t)
  have e3 : IntKind.u64.wrap (((hck (hbody k m t) : Nat) : Int) * 72057594037927936) = ((hck (hbody k m t) * 2 ^ 56 : Nat) : Int) := by rw [IntKind.wrap_u64]; omega
  rw [e3, or_up (hbody k m t) (hck (hbody k m t)) 56 (by omega) (by omega) (by omega)]
  unfold hd
  omega

theorem rheader_yes (k m t : Nat) (hk : k < 16) (h0 : 0 < m) (hm : m ≤ 16) (he : t < 18446744073709551616) (w : World) : Calls Try.prog 19 #[.int .i64 k, .int .i64 m, .int .u64 t] w fun e w' => e = .returned (.int .u64 (hd k m t : Nat)) ∧ w = w' := by
  have c1 : ¬ (k : Int) < 0 := by omega
  have c2 : ¬ 15 < (k : Int) := by omega
  have c3 : ¬ (m : Int) < 1 := by omega
  have c4 : ¬ 16 < (m : Int) := by omega
  have E1 := Lib.hid (body_bits k m t hk hm he)
  have E2 := hd_bits k m t hk hm
  have hb := hbody_lt k m t hk hm
  have hr := rcheck_any (hbody k m t) (by omega)
  generalize hd k m t = z at *
  generalize hck (hbody k m t) = q at *
  generalize hbody k m t = y at *
  have E2' := Lib.hid E2
  clear E2
  go_enter Try.func19, Try.ntmps19
  go_wp2_with fail
  rw [E1.out]
  (with_reducible refine (hr _).mono ?_)
  rintro e w' ⟨rfl, rfl⟩
  go_wp2
  go_ret
  exact ⟨ret_u64 E2'.out, rfl⟩
theorem rp_k (x : Nat) (hx : x < 18446744073709551616) : bits BinOp.and IntKind.u64 (x : Int) 15 = ((getN x 0 4 : Nat) : Int) := by
  rw [get_k]
  exact and_mask x 4 hx (by decide)

theorem rp_m (x : Nat) (hx : x < 18446744073709551616) : bits BinOp.and IntKind.u64 ((x : Int) / 16) 31 = ((getN x 4 5 : Nat) : Int) := by
  rw [get_m]
  exact and_mask (x / 16) 5 (by omega) (by decide)

theorem rp_e (x : Nat) (hx : x < 18446744073709551616) : bits BinOp.and IntKind.u64 ((x : Int) / 512) 4294967295 = ((getN x 9 32 : Nat) : Int) := by
  rw [get_e]
  exact and_mask (x / 512) 32 (by omega) (by decide)

/-- The twin's ParseHeader, whatever its Header tells of the parts: they make the word, and it isn't 0. -/
theorem rparse_yes' (x k m t : Nat) (hk : k < 16) (hm : m < 32) (h1 : bits BinOp.and IntKind.u64 (x : Int) 15 = (k : Int)) (h2 : bits BinOp.and IntKind.u64 ((x : Int) / 16) 31 = (m : Int)) (h3 : bits BinOp.and IntKind.u64 ((x : Int) / 512) 4294967295 = (t : Int))
    (h4 : ∀ w, Calls Try.prog 19 #[.int .i64 k, .int .i64 m, .int .u64 t] w fun e w' => e = .returned (.int .u64 x) ∧ w = w') (h0 : 0 < x) (w : World) :
    Calls Try.prog 30 #[.int .u64 x] w fun e w' => e = .returned (.tuple #[.int .i64 k, .int .i64 m, .int .u64 t, .bool true]) ∧ w = w' := by
  have c1 : ((x : Int) == 0) = false := by simp; omega
  have c2 : ¬ ((x : Int) = 0) := by omega
  go_enter Try.func30, Try.ntmps30
  go_wp2_with fail
  (with_reducible refine (h4 _).mono ?_)
  rintro e w' ⟨rfl, rfl⟩
  go_wp2
  (try simp only [Exit.inBlock, Exit.then])
  refine bodyPost_ret (results_tmp4 rfl _ _ _) rfl ?_
  exact ⟨rfl, rfl⟩

/-- .. they make another word. -/
theorem rparse_no' (x k m t z : Nat) (hk : k < 16) (hm : m < 32) (h1 : bits BinOp.and IntKind.u64 (x : Int) 15 = (k : Int)) (h2 : bits BinOp.and IntKind.u64 ((x : Int) / 16) 31 = (m : Int)) (h3 : bits BinOp.and IntKind.u64 ((x : Int) / 512) 4294967295 = (t : Int))
    (h4 : ∀ w, Calls Try.prog 19 #[.int .i64 k, .int .i64 m, .int .u64 t] w fun e w' => e = .returned (.int .u64 z) ∧ w = w') (h0 : z ≠ x) (w : World) :
    Calls Try.prog 30 #[.int .u64 x] w fun e w' => e = .returned noneV ∧ w = w' := by
  have c1 : ((z : Int) == x) = false := by simp; omega
  have c2 : ¬ ((z : Int) = x) := by omega
  go_enter Try.func30, Try.ntmps30
  go_wp2_with fail
  (with_reducible refine (h4 _).mono ?_)
  rintro e w' ⟨rfl, rfl⟩
  go_wp2
  (try simp only [Exit.inBlock, Exit.then])
  refine bodyPost_ret (results_tmp4 rfl _ _ _) rfl ?_
  exact ⟨rfl, rfl⟩

theorem rheader_zero (w : World) : Calls Try.prog 19 #[.int .i64 0, .int .i64 0, .int .u64 0] w fun e w' => e = .returned (.int .u64 0) ∧ w = w' :=
  rheader_no 0 0 0 (fun h => by unfold MayH at h; omega) w

/-- .. of the word 0. -/
theorem rparse_zero (w : World) : Calls Try.prog 30 #[.int .u64 0] w fun e w' => e = .returned noneV ∧ w = w' := by
  have h4 := rheader_zero
  have e1 : bits BinOp.and IntKind.u64 0 15 = 0 := by decide
  have e2 : bits BinOp.and IntKind.u64 0 31 = 0 := by decide
  have e3 : bits BinOp.and IntKind.u64 0 4294967295 = 0 := by decide
  go_enter Try.func30, Try.ntmps30
  go_wp2_with fail
  (with_reducible refine (h4 _).mono ?_)
  rintro e w' ⟨rfl, rfl⟩
  go_wp2
  (try simp only [Exit.inBlock, Exit.then])
  refine bodyPost_ret (results_tmp4 rfl _ _ _) rfl ?_
  exact ⟨rfl, rfl⟩

theorem rparse_yes (x : Nat) (hx : x < 18446744073709551616) (h : IsH x) (w : World) : Calls Try.prog 30 #[.int .u64 x] w fun e w' => e = .returned (partsV x) ∧ w = w' := by
  have hk := getN_lt x 0 4
  have hm := getN_lt x 4 5
  have ht := getN_lt x 9 32
  have h4 := rheader_yes (getN x 0 4) (getN x 4 5) (getN x 9 32) hk h.1.1 h.1.2 (by omega)
  rw [is_hd x hx h] at h4
  have h0 : x ≠ 0 := fun e => zero_no (e ▸ h)
  exact rparse_yes' x _ _ _ hk hm (rp_k x hx) (rp_m x hx) (rp_e x hx) h4 (by omega) w

theorem rparse_no (x : Nat) (hx : x < 18446744073709551616) (h : ¬ IsH x) (w : World) : Calls Try.prog 30 #[.int .u64 x] w fun e w' => e = .returned noneV ∧ w = w' := by
  have hk := getN_lt x 0 4
  have hm := getN_lt x 4 5
  have ht := getN_lt x 9 32
  by_cases hz : x = 0
  · subst hz
    exact rparse_zero w
  by_cases c : 0 < getN x 4 5 ∧ getN x 4 5 ≤ 16
  · have h4 := rheader_yes (getN x 0 4) (getN x 4 5) (getN x 9 32) hk c.1 c.2 (by omega)
    exact rparse_no' x _ _ _ _ hk hm (rp_k x hx) (rp_m x hx) (rp_e x hx) h4 (fun e => h ((is_iff x hx c.1 c.2).1 e)) w
  · have h4 := rheader_no (getN x 0 4 : Nat) (getN x 4 5 : Nat) (getN x 9 32 : Nat) (fun e => c ⟨by have := e.2.1; omega, by have := e.2.2; omega⟩)
    exact rparse_no' x _ _ _ 0 hk hm (rp_k x hx) (rp_m x hx) (rp_e x hx) h4 (by omega) w
end Go.Proofs.Ytbmnhngkmokklaa
