/-
  Package header: isHeader, Make, Parse, Epoch; the twin's Header, ParseHeader; the laws' awake: what each returns, for every input. No conditions.
-/
import Derived.Test.YtbmnhngkmokklaaHdr
namespace Go.Proofs.Ytbmnhngkmokklaa
open Go.RowKit Go.Bit Go.Flo

theorem is_bools (x : Nat) : decide (IsH x) = ((decide ((0 : Int) < (getN x 4 5 : Nat) ∧ ((getN x 4 5 : Nat) : Int) ≤ 16) && (((getN x 41 15 : Nat) : Int) == 0)) && (((getN x 56 8 : Nat) : Int) == (hck x : Nat))) := by
  rw [Bool.eq_iff_iff, decide_eq_true_iff]
  unfold IsH
  simp only [decide_eq_true_eq, Bool.and_eq_true, beq_iff_eq]
  constructor
  · rintro ⟨⟨h1, h2⟩, h3, h4⟩
    exact ⟨⟨⟨by omega, by omega⟩, by omega⟩, by omega⟩
  · rintro ⟨⟨⟨h1, h2⟩, h3⟩, h4⟩
    exact ⟨⟨by omega, by omega⟩, by omega, by omega⟩

set_option maxHeartbeats 400000 in
theorem is_any (x : Nat) (hx : x < 18446744073709551616) (w : World) : Calls Try.prog 38 #[.int .u64 x] w fun e w' => e = .returned (.bool (decide (IsH x))) ∧ Dr w w' := by
  have h1 := number_lit x 4 5 4 5 rfl rfl hx (by decide) (by decide)
  have h2 := words_any (getN x 4 5 : Nat)
  have h3 := get_lit x 41 15 41 15 rfl rfl hx (by decide)
  have h4 := get_lit x 56 8 56 8 rfl rfl hx (by decide)
  have h5 := check_any x hx
  rw [is_bools]
  generalize getN x 4 5 = m at *
  generalize getN x 41 15 = n at *
  generalize getN x 56 8 = c at *
  generalize hck x = q at *
  generalize decide ((0 : Int) < m ∧ (m : Int) ≤ 16) = b1 at *
  cases b1 with
  | false =>
    go_enter Try.func38, Try.ntmps38
    go_wp2_with fail
    (with_reducible refine (h1 _).mono ?_)
    rintro e w' ⟨rfl, d1⟩
    go_wp2_with fail
    (with_reducible refine (h2 _).mono ?_)
    rintro e w' ⟨rfl, rfl⟩
    go_wp2
    go_ret
    exact ⟨rfl, d1⟩
  | true =>
    obtain ⟨b2, hb2⟩ : ∃ b, ((n : Int) == 0) = b := ⟨_, rfl⟩
    rw [hb2]
    cases b2 with
    | false =>
      go_enter Try.func38, Try.ntmps38
      go_wp2_with fail
      (with_reducible refine (h1 _).mono ?_)
      rintro e w' ⟨rfl, d1⟩
      go_wp2_with fail
      (with_reducible refine (h2 _).mono ?_)
      rintro e w' ⟨rfl, rfl⟩
      go_wp2_with fail
      (with_reducible refine (h3 _).mono ?_)
      rintro e w' ⟨rfl, d2⟩
      go_wp2
      go_ret
      exact ⟨rfl, d1.trans d2⟩
    | true =>
      go_enter Try.func38, Try.ntmps38
      go_wp2_with fail
      (with_reducible refine (h1 _).mono ?_)
      rintro e w' ⟨rfl, d1⟩
      go_wp2_with fail
      (with_reducible refine (h2 _).mono ?_)
      rintro e w' ⟨rfl, rfl⟩
      go_wp2_with fail
      (with_reducible refine (h3 _).mono ?_)
      rintro e w' ⟨rfl, d2⟩
      go_wp2_with fail
      (with_reducible refine (h4 _).mono ?_)
      rintro e w' ⟨rfl, d3⟩
      go_wp2_with fail
      (with_reducible refine (h5 _).mono ?_)
      rintro e w' ⟨rfl, d4⟩
      go_wp2
      go_ret
      exact ⟨rfl, ((d1.trans d2).trans d3).trans d4⟩
/-- Four results, each in a slot. -/
theorem results_tmp4 {fn : Func} {t u v x : Tmp} (h : fn.results = #[.tmp t, .tmp u, .tmp v, .tmp x]) (tmps : Array Value) (P : Program) (w : World) :
    (results fn tmps).run P w = .ok (.tuple #[tmps.getD t undef, tmps.getD u undef, tmps.getD v undef, tmps.getD x undef]) w := by
  simp [results, h]

/-- What Parse tells of a header: its parts, and true. -/
def partsV (x : Nat) : Value := .tuple #[.int .i64 (getN x 0 4 : Nat), .int .i64 (getN x 4 5 : Nat), .int .u64 (getN x 9 32 : Nat), .bool true]

/-- .. of a word that is none. -/
def noneV : Value := .tuple #[.int .i64 0, .int .i64 0, .int .u64 0, .bool false]

theorem parse_no (x : Nat) (hx : x < 18446744073709551616) (h : ¬ IsH x) (w : World) : Calls Try.prog 27 #[.int .u64 x] w fun e w' => e = .returned noneV ∧ Dr w w' := by
  have h1 := is_any x hx
  rw [decide_eq_false h] at h1
  go_enter Try.func27, Try.ntmps27
  go_wp2_with fail
  (with_reducible refine (h1 _).mono ?_)
  rintro e w' ⟨rfl, d0⟩
  go_wp2
  (try simp only [Exit.inBlock, Exit.then])
  refine bodyPost_ret (results_tmp4 rfl _ _ _) rfl ?_
  exact ⟨rfl, d0⟩

set_option maxHeartbeats 400000 in
theorem parse_yes (x : Nat) (hx : x < 18446744073709551616) (h : IsH x) (w : World) : Calls Try.prog 27 #[.int .u64 x] w fun e w' => e = .returned (partsV x) ∧ Dr w w' := by
  have h1 := is_any x hx
  rw [decide_eq_true h] at h1
  have h2 := number_lit x 0 4 0 4 rfl rfl hx (by decide) (by decide)
  have h3 := number_lit x 4 5 4 5 rfl rfl hx (by decide) (by decide)
  have h4 := get_lit x 9 32 9 32 rfl rfl hx (by decide)
  unfold partsV
  generalize getN x 0 4 = k at *
  generalize getN x 4 5 = m at *
  generalize getN x 9 32 = q at *
  go_enter Try.func27, Try.ntmps27
  go_wp2_with fail
  (with_reducible refine (h1 _).mono ?_)
  rintro e w' ⟨rfl, d0⟩
  go_wp2_with fail
  (with_reducible refine (h2 _).mono ?_)
  rintro e w' ⟨rfl, d1⟩
  go_wp2_with fail
  (with_reducible refine (h3 _).mono ?_)
  rintro e w' ⟨rfl, d2⟩
  go_wp2_with fail
  (with_reducible refine (h4 _).mono ?_)
  rintro e w' ⟨rfl, d3⟩
  go_wp2
  (try simp only [Exit.inBlock, Exit.then])
  refine bodyPost_ret (results_tmp4 rfl _ _ _) rfl ?_
  exact ⟨rfl, ((d0.trans d1).trans d2).trans d3⟩

/-- May a header have such a kind, so many words? -/
def MayH (k m : Int) : Prop := (0 ≤ k ∧ k < 16) ∧ 0 < m ∧ m ≤ 16

theorem make_no (k m e : Int) (h : ¬ MayH k m) (w : World) : Calls Try.prog 34 #[.int .i64 k, .int .i64 m, .int .u64 e] w fun e w' => e = .returned (.int .u64 0) ∧ Dr w w' := by
  have h1 := kind_any k
  have h2 := words_any m
  by_cases c1 : 0 ≤ k ∧ k < 16
  · have c2 : ¬ (0 < m ∧ m ≤ 16) := fun c => h ⟨c1, c⟩
    rw [decide_eq_true c1] at h1
    rw [decide_eq_false c2] at h2
    clear h c1 c2
    go_enter Try.func34, Try.ntmps34
    go_wp2_with fail
    (with_reducible refine (h1 _).mono ?_)
    rintro e w' ⟨rfl, rfl⟩
    go_wp2_with fail
    (with_reducible refine (h2 _).mono ?_)
    rintro e w' ⟨rfl, rfl⟩
    go_wp2
    go_ret
    exact ⟨rfl, Dr.refl _⟩
  · rw [decide_eq_false c1] at h1
    clear h c1 h2
    go_enter Try.func34, Try.ntmps34
    go_wp2_with fail
    (with_reducible refine (h1 _).mono ?_)
    rintro e w' ⟨rfl, rfl⟩
    go_wp2
    go_ret
    exact ⟨rfl, Dr.refl _⟩

theorem set_lit (x f n v : Nat) (F N : Int) (eF : (f : Int) = F) (eN : (n : Int) = N) (hx : x < 2 ^ f) (hv : v < 18446744073709551616) (h : f + n ≤ 64) (w : World) : Calls Try.prog 47 #[.int .u64 x, .int .i64 F, .int .i64 N, .int .u64 v] w fun e w' => e = .returned (.int .u64 (x + 2 ^ f * (v % 2 ^ n) : Nat)) ∧ Dr w w' := by
  rw [← eF, ← eN, ← setN_add x f n v hx h]
  have h4 : (2 : Nat) ^ 64 = 18446744073709551616 := by decide
  have hx6 : x < 18446744073709551616 := by
    rw [← h4]
    exact Nat.lt_of_lt_of_le hx (Nat.pow_le_pow_right (by decide) (by omega))
  exact set_any x f n v hx6 hv h w

set_option maxHeartbeats 400000 in
theorem make_yes (k m t : Nat) (hk : k < 16) (h0 : 0 < m) (hm : m ≤ 16) (he : t < 18446744073709551616) (w : World) : Calls Try.prog 34 #[.int .i64 k, .int .i64 m, .int .u64 t] w fun e w' => e = .returned (.int .u64 (hd k m t : Nat)) ∧ Dr w w' := by
  have h1 := kind_any k
  rw [decide_eq_true (⟨by omega, by omega⟩ : (0 : Int) ≤ k ∧ (k : Int) < 16)] at h1
  have h2 := words_any m
  rw [decide_eq_true (⟨by omega, by omega⟩ : (0 : Int) < m ∧ (m : Int) ≤ 16)] at h2
  have h3 := int_small k (by omega)
  have h4 : ∀ w, Calls Try.prog 47 #[.int .u64 0, .int .i64 0, .int .i64 4, .int .u64 k] w fun e w' => e = .returned (.int .u64 k) ∧ Dr w w' := fun w =>
    (set_lit 0 0 4 k 0 4 rfl rfl (by decide) (by omega) (by decide) w).mono fun _ _ ⟨a, b⟩ => ⟨a.trans (ret_u64 (by omega)), b⟩
  have h5 := int_small m (by omega)
  have h6 : ∀ w, Calls Try.prog 47 #[.int .u64 k, .int .i64 4, .int .i64 5, .int .u64 m] w fun e w' => e = .returned (.int .u64 (k + 16 * m : Nat)) ∧ Dr w w' := fun w =>
    (set_lit k 4 5 m 4 5 rfl rfl (by omega) (by omega) (by decide) w).mono fun _ _ ⟨a, b⟩ => ⟨a.trans (ret_u64 (by omega)), b⟩
  have h7 : ∀ w, Calls Try.prog 47 #[.int .u64 (k + 16 * m : Nat), .int .i64 9, .int .i64 32, .int .u64 t] w fun e w' => e = .returned (.int .u64 (hbody k m t : Nat)) ∧ Dr w w' := fun w =>
    (set_lit (k + 16 * m) 9 32 t 9 32 rfl rfl (by omega) (by omega) (by decide) w).mono fun _ _ ⟨a, b⟩ => ⟨a.trans (ret_u64 (by unfold hbody; omega)), b⟩
  have hb := hbody_lt k m t hk hm
  have hc := hck_le (hbody k m t)
  have h8 := check_any (hbody k m t) (by omega)
  have h9 : ∀ w, Calls Try.prog 47 #[.int .u64 (hbody k m t : Nat), .int .i64 56, .int .i64 8, .int .u64 (hck (hbody k m t) : Nat)] w fun e w' => e = .returned (.int .u64 (hd k m t : Nat)) ∧ Dr w w' := fun w =>
    (set_lit (hbody k m t) 56 8 (hck (hbody k m t)) 56 8 rfl rfl (by omega) (by omega) (by decide) w).mono fun _ _ ⟨a, b⟩ => ⟨a.trans (ret_u64 (by unfold hd; omega)), b⟩
  generalize hd k m t = z at *
  generalize hck (hbody k m t) = q at *
  generalize hbody k m t = y at *
  generalize k + 16 * m = u at *
  clear hb hc hk h0 hm he
  go_enter Try.func34, Try.ntmps34
  go_wp2_with fail
  (with_reducible refine (h1 _).mono ?_)
  rintro e w' ⟨rfl, rfl⟩
  go_wp2_with fail
  (with_reducible refine (h2 _).mono ?_)
  rintro e w' ⟨rfl, rfl⟩
  go_wp2_with fail
  (with_reducible refine (h3 _).mono ?_)
  rintro e w' ⟨rfl, rfl⟩
  go_wp2_with fail
  (with_reducible refine (h4 _).mono ?_)
  rintro e w' ⟨rfl, d3⟩
  go_wp2_with fail
  (with_reducible refine (h5 _).mono ?_)
  rintro e w' ⟨rfl, rfl⟩
  go_wp2_with fail
  (with_reducible refine (h6 _).mono ?_)
  rintro e w' ⟨rfl, d5⟩
  go_wp2_with fail
  (with_reducible refine (h7 _).mono ?_)
  rintro e w' ⟨rfl, d6⟩
  go_wp2_with fail
  (with_reducible refine (h8 _).mono ?_)
  rintro e w' ⟨rfl, d7⟩
  go_wp2_with fail
  (with_reducible refine (h9 _).mono ?_)
  rintro e w' ⟨rfl, d8⟩
  go_wp2
  go_ret
  exact ⟨rfl, (((d3.trans d5).trans d6).trans d7).trans d8⟩

theorem make_lit (k m t : Nat) (K M T : Int) (eK : (k : Int) = K) (eM : (m : Int) = M) (eT : (t : Int) = T) (hk : k < 16) (h0 : 0 < m) (hm : m ≤ 16) (he : t < 18446744073709551616) (w : World) :
    Calls Try.prog 34 #[.int .i64 K, .int .i64 M, .int .u64 T] w fun e w' => e = .returned (.int .u64 (hd k m t : Nat)) ∧ Dr w w' := by
  rw [← eK, ← eM, ← eT]
  exact make_yes k m t hk h0 hm he w

end Go.Proofs.Ytbmnhngkmokklaa
