/-
  Decimals of 64 bits in their shortest form: a plain function of the bytes, and what it has to do with the library's own. No Go text in sight. No conditions.
-/
import Derived.Lib.ParseIntBTie
import Derived.Lib.ItoaMem
import Derived.Lib.Atoi
namespace Go.Flo
open Go.Lib

/-- The digits behind the sign: in their shortest form, and not too many. -/
def shortT (l t : List UInt8) : Bool := !t.isEmpty && decide (t.length ≤ 19) && !(t.head? == some 48 && !(l == [48]))

/-- A decimal of 64 bits in its shortest form. -/
def numT (l : List UInt8) : Option Int :=
  match l with
  | 45 :: t => if shortT (45 :: t) t then (decFrom 0 t).bind fun n => if n ≤ 9223372036854775808 then some (-(n : Int)) else none else none
  | t => if shortT t t then (decFrom 0 t).bind fun n => if n < 9223372036854775808 then some (n : Int) else none else none

theorem decFrom_append (l m : List UInt8) : ∀ a, decFrom a (l ++ m) = (decFrom a l).bind (fun b => decFrom b m) := by
  induction l with
  | nil => intro a; rfl
  | cons c l ih =>
    intro a
    simp only [List.cons_append, decFrom]
    cases digitVal c with
    | none => rfl
    | some d => exact ih _

theorem digit_ofNat {d : Nat} (h : d < 10) : digitVal (UInt8.ofNat (48 + d)) = some d := by
  have e : (UInt8.ofNat (48 + d)).toNat = 48 + d := by simp; omega
  unfold digitVal
  rw [e, if_pos (by omega)]
  congr 1
  omega

theorem digit_eq {c : UInt8} {d : Nat} (h : digitVal c = some d) : c = UInt8.ofNat (48 + d) ∧ d < 10 := by
  obtain ⟨h1, h2, h3⟩ := digitVal_eq h
  refine ⟨?_, by omega⟩
  subst h3
  apply UInt8.toNat_inj.1
  simp
  omega

theorem dec_small {n : Nat} (h : n < 10) : decDigits n = [UInt8.ofNat (48 + n)] := by rw [decDigits, dif_pos h]
theorem dec_big {n : Nat} (h : ¬ n < 10) : decDigits n = decDigits (n / 10) ++ [UInt8.ofNat (48 + n % 10)] := by rw [decDigits, dif_neg h]

theorem decFrom_dec (n : Nat) : decFrom 0 (decDigits n) = some n := by
  induction n using Nat.strongRecOn with
  | _ n ih =>
    by_cases h : n < 10
    · rw [dec_small h]
      simp only [decFrom, digit_ofNat h]
      congr 1
      omega
    · rw [dec_big h, decFrom_append, ih (n / 10) (by omega)]
      simp only [Option.bind_some, decFrom, digit_ofNat (show n % 10 < 10 by omega)]
      congr 1
      omega

theorem dec_ne (n : Nat) : decDigits n ≠ [] := by
  by_cases h : n < 10
  · rw [dec_small h]; simp
  · rw [dec_big h]; simp

theorem dec_head {n : Nat} (h0 : n ≠ 0) : ∃ c r, decDigits n = c :: r ∧ c ≠ 48 := by
  induction n using Nat.strongRecOn with
  | _ n ih =>
    by_cases h : n < 10
    · refine ⟨_, [], dec_small h, fun e => ?_⟩
      have := congrArg UInt8.toNat e
      simp at this
      omega
    · obtain ⟨c, r, e, hc⟩ := ih (n / 10) (by omega) (by omega)
      exact ⟨c, r ++ [UInt8.ofNat (48 + n % 10)], by rw [dec_big h, e]; rfl, hc⟩

theorem nDigits_le {n k : Nat} (hk : 1 ≤ k) (h : n < 10 ^ k) : nDigits n ≤ k := by
  induction k generalizing n with
  | zero => omega
  | succ k ih =>
    by_cases h10 : n < 10
    · rw [nDigits_small h10]; omega
    · rw [nDigits_big h10]
      rw [Nat.pow_succ] at h
      rcases Nat.eq_zero_or_pos k with e | e
      · subst e; omega
      · have := ih e (n := n / 10) (by omega)
        omega

/-- A row of digits in its shortest form is its number's. -/
theorem dec_of {t : List UInt8} {n : Nat} (hne : t ≠ []) (h : decFrom 0 t = some n) (h48 : t.head? = some 48 → t = [48]) : decDigits n = t := by
  obtain ⟨k, hk⟩ : ∃ k, t.length = k := ⟨_, rfl⟩
  induction k generalizing t n with
  | zero => exact absurd (List.length_eq_zero_iff.1 hk) hne
  | succ k ih =>
    obtain ⟨r, c, rfl⟩ : ∃ r c, t = r ++ [c] := ⟨t.dropLast, t.getLast hne, (List.dropLast_concat_getLast hne).symm⟩
    rw [decFrom_append] at h
    cases hr : decFrom 0 r with
    | none => rw [hr] at h; cases h
    | some m =>
      rw [hr] at h
      simp only [Option.bind_some, decFrom] at h
      cases hd : digitVal c with
      | none => rw [hd] at h; cases h
      | some d =>
        rw [hd] at h
        simp only [Option.some.injEq] at h
        obtain ⟨hc, hd10⟩ := digit_eq hd
        by_cases hr0 : r = []
        · subst hr0
          simp only [decFrom, Option.some.injEq] at hr
          subst hr
          have : n = d := by omega
          subst this
          rw [dec_small hd10, hc]
          rfl
        · have hh : ∀ x, r.head? = some x → (r ++ [c]).head? = some x := by
            intro x hx
            cases r with
            | nil => cases hx
            | cons y r => simpa using hx
          have hz : r.head? = some 48 → r = [48] := by
            intro hx
            have e := h48 (hh _ hx)
            have := congrArg List.length e
            rw [List.length_append] at this
            exact absurd (List.length_eq_zero_iff.1 (by simpa using this)) hr0
          have e := ih (t := r) hr0 hr hz (by simp at hk; omega)
          have hm : m ≠ 0 := by
            intro h0
            subst h0
            rw [dec_small (by omega)] at e
            have e2 := h48 (hh 48 (by rw [← e]; rfl))
            have := congrArg List.length e2
            rw [List.length_append] at this
            exact absurd (List.length_eq_zero_iff.1 (by simpa using this)) hr0
          have hn : ¬ n < 10 := by omega
          rw [dec_big hn, show n / 10 = m by omega, show n % 10 = d by omega, e, hc]

theorem up_ok (l : List UInt8) : ∀ (a n : Nat), decFrom a l = some n → n < 18446744073709551616 → parseUint10 a l = .ok n ∧ a ≤ n := by
  induction l with
  | nil =>
    intro a n h _
    simp only [decFrom, Option.some.injEq] at h
    subst h
    exact ⟨rfl, Nat.le_refl _⟩
  | cons c l ih =>
    intro a n h hn
    simp only [decFrom] at h
    cases hd : digitVal c with
    | none => rw [hd] at h; cases h
    | some d =>
      rw [hd] at h
      obtain ⟨h1, h2, h3⟩ := digitVal_eq hd
      obtain ⟨k1, k2⟩ := ih _ _ h hn
      subst h3
      refine ⟨?_, by omega⟩
      simp only [parseUint10]
      rw [if_pos ⟨h1, h2⟩, if_neg (by omega), if_neg (by omega)]
      exact k1

theorem minus_toNat {c : UInt8} (h : c.toNat = 45) : c = 45 := UInt8.toNat_inj.1 h
theorem plus_toNat {c : UInt8} (h : c.toNat = 43) : c = 43 := UInt8.toNat_inj.1 h

/-- What a decimal in its shortest form is to the library. -/
theorem numT_some {l : List UInt8} {v : Int} (h : numT l = some v) : itoa v = l ∧ parseIntB 64 l = .ok v ∧ -9223372036854775808 ≤ v ∧ v ≤ 9223372036854775807 := by
  rw [parseIntB_64]
  unfold numT at h
  split at h
  · rename_i t
    by_cases hs : shortT (45 :: t) t = true
    case neg => rw [if_neg hs] at h; cases h
    rw [if_pos hs] at h
    cases hd : decFrom 0 t with
    | none => rw [hd] at h; cases h
    | some n =>
      rw [hd] at h
      simp only [Option.bind_some] at h
      split at h
      case isFalse => cases h
      rename_i hn
      injection h with h
      subst h
      simp only [shortT, Bool.and_eq_true, Bool.not_eq_true'] at hs
      obtain ⟨⟨s1, s2⟩, s3⟩ := hs
      have hne : t ≠ [] := by intro e; rw [e] at s1; simp at s1
      have h48 : t.head? ≠ some 48 := by
        intro e
        rw [e] at s3
        simp at s3
      have e := dec_of hne hd (fun x => absurd x h48)
      have h1 : 1 ≤ n := by
        rcases Nat.eq_zero_or_pos n with h0 | h0
        · subst h0
          rw [dec_small (by omega)] at e
          exact absurd (by rw [← e]; rfl) h48
        · exact h0
      refine ⟨by rw [itoa_neg n h1, e], ?_, by omega, by omega⟩
      rw [atoiAll_minus]
      unfold parseMag
      rw [if_neg hne, (up_ok t 0 n hd (by omega)).1]
      simp only [signed]
      rw [if_neg (by omega)]
  · rename_i hno
    by_cases hs : shortT l l = true
    case neg => rw [if_neg hs] at h; cases h
    rw [if_pos hs] at h
    cases hd : decFrom 0 l with
    | none => rw [hd] at h; cases h
    | some n =>
      rw [hd] at h
      simp only [Option.bind_some] at h
      split at h
      case isFalse => cases h
      rename_i hn
      injection h with h
      subst h
      simp only [shortT, Bool.and_eq_true, Bool.not_eq_true'] at hs
      obtain ⟨⟨s1, s2⟩, s3⟩ := hs
      have hne : l ≠ [] := by intro e; rw [e] at s1; simp at s1
      have h48 : l.head? = some 48 → l = [48] := by
        intro e
        rw [e] at s3
        simpa using s3
      have e := dec_of hne hd h48
      refine ⟨by rw [itoa_nonneg n, e], ?_, by omega, by omega⟩
      cases l with
      | nil => exact absurd rfl hne
      | cons c r =>
        have hc : digitVal c ≠ none := by
          intro e0
          simp [decFrom, e0] at hd
        have hb : 48 ≤ c.toNat ∧ c.toNat ≤ 57 := by
          cases e0 : digitVal c with
          | none => exact absurd e0 hc
          | some d => exact ⟨(digitVal_eq e0).1, (digitVal_eq e0).2.1⟩
        rw [atoiAll_plain c r (by omega) (by omega)]
        unfold parseMag
        rw [if_neg hne, (up_ok _ 0 n hd (by omega)).1]
        simp only [signless]
        rw [if_neg (by omega)]

/-- Every number's decimal is in its shortest form. -/
theorem numT_itoa {v : Int} (h0 : -9223372036854775808 ≤ v) (h1 : v ≤ 9223372036854775807) : numT (itoa v) = some v := by
  have hlen : ∀ n : Nat, n ≤ 9223372036854775808 → (decDigits n).length ≤ 19 := fun n hn => by
    rw [decDigits_length]
    exact nDigits_le (by omega) (Nat.lt_of_le_of_lt hn (by decide))
  rcases Int.lt_or_le v 0 with hv | hv
  · obtain ⟨n, rfl⟩ : ∃ n : Nat, v = -(n : Int) := ⟨v.natAbs, by omega⟩
    rw [itoa_neg n (by omega)]
    obtain ⟨c, r, e, hc⟩ := dec_head (n := n) (by omega)
    have hs : shortT (45 :: decDigits n) (decDigits n) = true := by
      have := hlen n (by omega)
      rw [e] at this ⊢
      simp [shortT, hc]
      simpa using this
    show (if shortT (45 :: decDigits n) (decDigits n) then _ else _) = _
    rw [if_pos hs, decFrom_dec]
    simp only [Option.bind_some]
    rw [if_pos (by omega)]
  · obtain ⟨n, rfl⟩ : ∃ n : Nat, v = (n : Int) := ⟨v.toNat, by omega⟩
    rw [itoa_nonneg n]
    have hs : shortT (decDigits n) (decDigits n) = true := by
      have := hlen n (by omega)
      by_cases h00 : n = 0
      · subst h00
        rw [dec_small (by omega)]
        decide
      · obtain ⟨c, r, e, hc⟩ := dec_head h00
        rw [e] at this ⊢
        simp [shortT, hc]
        simpa using this
    have hno : ∀ t, decDigits n ≠ 45 :: t := by
      intro t e
      have hd := decFrom_dec n
      rw [e] at hd
      simp [decFrom, digitVal] at hd
    unfold numT
    split
    · rename_i t e
      exact absurd e (hno t)
    · rw [if_pos hs, decFrom_dec]
      simp only [Option.bind_some]
      rw [if_pos (by omega)]

/-- By the library's two functions. -/
theorem numT_lib (l : List UInt8) : numT l = match parseIntB 64 l with | .ok v => if itoa v = l then some v else none | _ => none := by
  cases hn : numT l with
  | some v =>
    obtain ⟨h1, h2, _⟩ := numT_some hn
    rw [h2]
    simp [h1]
  | none =>
    split
    · rename_i v hp
      split
      · rename_i he
        have hb := parseIntB_bounds hp
        have := numT_itoa (v := v) (by simpa using hb.1) (by have := hb.2; simp at this; omega)
        rw [he, hn] at this
        cases this
      · rfl
    · rfl

theorem itoa_inj {a b : Int} (ha0 : -9223372036854775808 ≤ a) (ha1 : a ≤ 9223372036854775807) (hb0 : -9223372036854775808 ≤ b) (hb1 : b ≤ 9223372036854775807) (h : itoa a = itoa b) : a = b := by
  have e := numT_itoa ha0 ha1
  rw [h, numT_itoa hb0 hb1] at e
  injection e with e
  exact e.symm
end Go.Flo
