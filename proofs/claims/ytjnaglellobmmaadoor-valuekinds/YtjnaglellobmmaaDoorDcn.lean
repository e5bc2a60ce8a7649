/-
  The document's own Number: what it returns, for every text: a decimal of 64 bits in its shortest form. No conditions but that the text is not longer than one may be.
-/
import Derived.Test.YtjnaglellobmmaaDoorDcm
namespace Go.Proofs.YtjnaglellobmmaaDoor
open Go.RowKit Go.Flo Go.Lib
set_option maxRecDepth 100000

/-- The round's relation: the number so far, and how many digits were read. -/
def NumRel (t : ByteArray) (v i : Value) : Prop := ∃ k u : Nat, k ≤ t.size ∧ u < 10 ^ k ∧ v = .int .u64 u ∧ i = .int .i64 k ∧ decFrom 0 (t.data.toList.take k) = some u

theorem byte_at (t : ByteArray) (k : Nat) (h : k < t.size) : t.data.toList[k]? = some t[k] := by
  have hk : k < t.data.toList.length := by rw [Array.length_toList]; exact h
  rw [List.getElem?_eq_getElem hk]
  rfl

theorem dec_bad (l : List UInt8) : ∀ (a k : Nat) (b : UInt8), l[k]? = some b → digitVal b = none → decFrom a l = none := by
  induction l with
  | nil => intro a k b h; simp at h
  | cons c l ih =>
    intro a k b h hb
    simp only [decFrom]
    cases k with
    | zero =>
      simp only [List.getElem?_cons_zero, Option.some.injEq] at h
      subst h
      rw [hb]
    | succ k =>
      simp only [List.getElem?_cons_succ] at h
      cases digitVal c with
      | none => rfl
      | some d => exact ih _ k b h hb

theorem take_all {α : Type} (l : List α) (k : Nat) (h : l.length = k) : l.take k = l := by rw [← h]; exact List.take_length

/-- The sign, and what stands behind it. -/
theorem numB_neg {s t : ByteArray} (h : s.data.toList.head? = some 45) (ht : t = s.extract 1 s.size) (u : Option Nat) (hu : (if shortT s.data.toList t.data.toList then decFrom 0 t.data.toList else none) = u) :
    numB s = u.bind fun n => if n ≤ 9223372036854775808 then some (-(n : Int)) else none := by
  subst ht
  rw [Lib.extract_to_end] at hu
  unfold numB
  cases hl : s.data.toList with
  | nil => rw [hl] at h; cases h
  | cons c r =>
    rw [hl] at h hu
    simp at h
    subst h
    subst hu
    show (if shortT (45 :: r) r then _ else _) = _
    simp only [List.drop_succ_cons, List.drop_zero]
    split <;> rfl

theorem numB_pos {s : ByteArray} (h : s.data.toList.head? ≠ some 45) (u : Option Nat) (hu : (if shortT s.data.toList s.data.toList then decFrom 0 s.data.toList else none) = u) :
    numB s = u.bind fun n => if n < 9223372036854775808 then some (n : Int) else none := by
  subst hu
  unfold numB numT
  split
  · rename_i t e
    rw [e] at h
    exact absurd rfl h
  · split <;> rfl

theorem str_empty (s : ByteArray) : s.toList.isEmpty = decide (s.size = 0) := by
  rw [ByteArray.toList_eq, Bool.eq_iff_iff, List.isEmpty_iff_length_eq_zero, Array.length_toList, decide_eq_true_iff]
  exact Iff.rfl

theorem head_at {s : ByteArray} (h : 0 < s.size) : s.data.toList.head? = some s[0] := by
  rw [List.head?_eq_getElem?]
  exact byte_at s 0 h

theorem head_none {s : ByteArray} (h : ¬ 0 < s.size) : s.data.toList = [] := by
  apply List.length_eq_zero_iff.1
  have : s.data.toList.length = s.size := Array.length_toList
  omega

theorem byte_nat {c d : UInt8} {n : Nat} (h : c.toNat = n) (hd : d.toNat = n) : c = d := UInt8.toNat_inj.1 (h.trans hd.symm)

theorem short_len {l t : List UInt8} (h : t = [] ∨ 19 < t.length) : shortT l t = false := by
  rcases h with rfl | h
  · rfl
  · have : decide (t.length ≤ 19) = false := decide_eq_false (by omega)
    simp [shortT, this]

theorem short_zero {l t : List UInt8} (h : t.head? = some 48) (h' : l ≠ [48]) : shortT l t = false := by
  simp [shortT, h, h']

theorem short_ok {l t : List UInt8} (h0 : t ≠ []) (h1 : t.length ≤ 19) (h : t.head? ≠ some 48 ∨ l = [48]) : shortT l t = true := by
  simp only [shortT, Bool.and_eq_true, Bool.not_eq_true', decide_eq_true_eq]
  refine ⟨⟨?_, h1⟩, ?_⟩
  · cases t with
    | nil => exact absurd rfl h0
    | cons c r => rfl
  · rcases h with h | h
    · simp [h]
    · simp [h]

theorem neg_back (u : Nat) (h : u ≤ 9223372036854775808) : IntKind.i64.wrap (IntKind.u64.wrap (-(u : Int))) = -(u : Int) := by
  rcases Nat.eq_zero_or_pos u with e | e
  · subst e; rfl
  · have e1 : IntKind.u64.wrap (-(u : Int)) = 18446744073709551616 - u := by
      simp [IntKind.wrap, IntKind.bits, IntKind.signed]
      omega
    rw [e1]
    simp [IntKind.wrap, IntKind.bits, IntKind.signed]
    omega


set_option maxHeartbeats 2000000 in
theorem rn_empty (s : ByteArray) (w : World) (R : Option Int) (hR : R = none) (h0 : s.size = 0) :
    Calls Tryd.prog 42 #[.string s] w fun e w' => e = .returned (.tuple #[.int .i64 (R.getD 0), .bool R.isSome]) ∧ w = w' := by
  have he : s.toList.isEmpty = true := by rw [str_empty]; apply decide_eq_true; omega
  have hz : ¬ 0 < s.size := by omega
  subst hR
  go_enter Tryd.func42, Tryd.ntmps42
  go_wp2
  go_ret2
  exact ⟨rfl, rfl⟩

set_option maxHeartbeats 2000000 in
theorem rn_long (s : ByteArray) (w : World) (R : Option Int) (hR : R = none) (h0 : 0 < s.size) (h1 : ¬ s[0].toNat = 45) (hl : 19 < s.size) :
    Calls Tryd.prog 42 #[.string s] w fun e w' => e = .returned (.tuple #[.int .i64 (R.getD 0), .bool R.isSome]) ∧ w = w' := by
  have he : s.toList.isEmpty = false := by rw [str_empty]; apply decide_eq_false; omega
  subst hR
  go_enter Tryd.func42, Tryd.ntmps42
  go_wp2
  go_ret2
  exact ⟨rfl, rfl⟩

set_option maxHeartbeats 2000000 in
theorem rn_zero (s : ByteArray) (w : World) (R : Option Int) (hR : R = none) (h0 : 0 < s.size) (h1 : ¬ s[0].toNat = 45) (hl : s.size ≤ 19) (hz : s[0].toNat = 48) (hs : s ≠ { data := #[48] }) :
    Calls Tryd.prog 42 #[.string s] w fun e w' => e = .returned (.tuple #[.int .i64 (R.getD 0), .bool R.isSome]) ∧ w = w' := by
  have he : s.toList.isEmpty = false := by rw [str_empty]; apply decide_eq_false; omega
  have hq : (s.toList == [48]) = false := by rw [ByteArray.toList_eq]; exact beq_eq_false_iff_ne.2 (fun e => hs (ByteArray.ext (Array.toList_inj.1 e)))
  subst hR
  go_enter Tryd.func42, Tryd.ntmps42
  go_wp2
  go_ret2
  exact ⟨rfl, rfl⟩

set_option maxHeartbeats 2000000 in
theorem rn_nempty (s : ByteArray) (w : World) (R : Option Int) (hR : R = none) (h0 : 0 < s.size) (h1 : s[0].toNat = 45) (t : ByteArray) (ht : s.extract 1 s.size = t) (hl : t.size = 0) :
    Calls Tryd.prog 42 #[.string s] w fun e w' => e = .returned (.tuple #[.int .i64 (R.getD 0), .bool R.isSome]) ∧ w = w' := by
  have he : t.toList.isEmpty = true := by rw [str_empty]; apply decide_eq_true; omega
  subst hR
  go_enter Tryd.func42, Tryd.ntmps42
  go_wp2
  go_ret2
  exact ⟨rfl, rfl⟩

set_option maxHeartbeats 2000000 in
theorem rn_nlong (s : ByteArray) (w : World) (R : Option Int) (hR : R = none) (h0 : 0 < s.size) (h1 : s[0].toNat = 45) (t : ByteArray) (ht : s.extract 1 s.size = t) (hl : 19 < t.size) :
    Calls Tryd.prog 42 #[.string s] w fun e w' => e = .returned (.tuple #[.int .i64 (R.getD 0), .bool R.isSome]) ∧ w = w' := by
  have he : t.toList.isEmpty = false := by rw [str_empty]; apply decide_eq_false; omega
  subst hR
  go_enter Tryd.func42, Tryd.ntmps42
  go_wp2
  go_ret2
  exact ⟨rfl, rfl⟩

set_option maxHeartbeats 2000000 in
theorem rn_nzero (s : ByteArray) (w : World) (R : Option Int) (hR : R = none) (h0 : 0 < s.size) (h1 : s[0].toNat = 45) (t : ByteArray) (ht : s.extract 1 s.size = t) (hl : t.size ≤ 19) (hp : 0 < t.size) (hz : t[0].toNat = 48) (hs : s ≠ { data := #[48] }) :
    Calls Tryd.prog 42 #[.string s] w fun e w' => e = .returned (.tuple #[.int .i64 (R.getD 0), .bool R.isSome]) ∧ w = w' := by
  have he : t.toList.isEmpty = false := by rw [str_empty]; apply decide_eq_false; omega
  have hq : (s.toList == [48]) = false := by rw [ByteArray.toList_eq]; exact beq_eq_false_iff_ne.2 (fun e => hs (ByteArray.ext (Array.toList_inj.1 e)))
  subst hR
  go_enter Tryd.func42, Tryd.ntmps42
  go_wp2
  go_ret2
  exact ⟨rfl, rfl⟩

set_option maxHeartbeats 2000000 in
theorem rn_go (s : ByteArray) (w : World) (R : Option Int) (h0 : 0 < s.size) (h1 : ¬ s[0].toNat = 45) (hl : s.size ≤ 19) (hz : ¬ s[0].toNat = 48) (hR : R = (decFrom 0 s.data.toList).bind fun n => if n < 9223372036854775808 then some (n : Int) else none) :
    Calls Tryd.prog 42 #[.string s] w fun e w' => e = .returned (.tuple #[.int .i64 (R.getD 0), .bool R.isSome]) ∧ w = w' := by
  have he : s.toList.isEmpty = false := by rw [str_empty]; apply decide_eq_false; omega
  have HR := Lib.hid hR
  clear hR
  go_enter Tryd.func42, Tryd.ntmps42
  go_wp2
  go_loop [6, 38] (fun v i => NumRel s v i) (fun _ i => s.size - (RowKit.intOf i).toNat)
  case atStart => exact ⟨0, 0, by omega, by simp, rfl, rfl, by simp [decFrom]⟩
  case round =>
    obtain ⟨k, u, hk, hu, rfl, rfl, hp⟩ := hrel
    have hu2 : u < 10000000000000000000 := Nat.lt_of_lt_of_le hu (Nat.pow_le_pow_right (by decide) (show k ≤ 19 by omega))
    have HU := Lib.hid hu
    have HP := Lib.hid hp
    clear hp hu
    by_cases hkz : k < s.size
    · by_cases hd : 48 ≤ s[k].toNat ∧ s[k].toNat ≤ 57
      · obtain ⟨d1, d2⟩ := hd
        have hu3 : u < 1000000000000000000 := Nat.lt_of_lt_of_le HU.out (Nat.pow_le_pow_right (by decide) (show k ≤ 18 by omega))
        go_wp2
        go_round
        case rel =>
          have hdv : digitVal s[k] = some (s[k].toNat - 48) := if_pos ⟨d1, d2⟩
          refine ⟨k + 1, u * 10 + (s[k].toNat - 48), by omega, ?_, ?_, by go_num, Lib.decFrom_take _ k 0 u s[k] _ HP.out (byte_at s k hkz) hdv⟩
          · have := HU.out
            rw [Nat.pow_succ]
            omega
          · congr 1
            omega
        case measure => simp [RowKit.intOf]; omega
      · have hdv : digitVal s[k] = none := if_neg hd
        have HD := Lib.hid hdv
        clear hdv
        have hd' : s[k].toNat < 48 ∨ 57 < s[k].toNat := by omega
        clear hd
        rcases hd' with hd | hd
        all_goals
          go_wp2
          go_ret2
          obtain rfl : R = none := by rw [HR.out, dec_bad _ 0 k _ (byte_at s k hkz) HD.out]; rfl
          exact ⟨rfl, rfl⟩
    · obtain rfl : k = s.size := by omega
      have hall : decFrom 0 s.data.toList = some u := by
        have := HP.out
        rwa [take_all _ _ (show s.data.toList.length = s.size from Array.length_toList)] at this
      have HR := Lib.hid (show R = if u < 9223372036854775808 then some (u : Int) else none by rw [HR.out, hall]; rfl)
      clear hall hkz
      by_cases hf : u < 9223372036854775808
      · have hb : decide ((u : Int) < 9223372036854775808) = true := decide_eq_true (by omega)
        have hw : wrap64 (u : Int) = (u : Int) := by unfold wrap64; omega
        have HF := Lib.hid hf
        clear hf
        go_wp2
        go_ret2
        have hf := HF.out
        obtain rfl : R = some (u : Int) := by rw [HR.out, if_pos hf]
        exact ⟨rfl, rfl⟩
      · have hb : decide ((u : Int) < 9223372036854775808) = false := decide_eq_false (by omega)
        have HF := Lib.hid hf
        clear hf
        go_wp2
        go_ret2
        have hf := HF.out
        obtain rfl : R = none := by rw [HR.out, if_neg hf]
        exact ⟨rfl, rfl⟩

set_option maxHeartbeats 2000000 in
theorem rn_ngo (s : ByteArray) (w : World) (R : Option Int) (h0 : 0 < s.size) (h1 : s[0].toNat = 45) (t : ByteArray) (ht : s.extract 1 s.size = t) (hl : t.size ≤ 19) (hp : 0 < t.size) (hz : ¬ t[0].toNat = 48) (hR : R = (decFrom 0 t.data.toList).bind fun n => if n ≤ 9223372036854775808 then some (-(n : Int)) else none) :
    Calls Tryd.prog 42 #[.string s] w fun e w' => e = .returned (.tuple #[.int .i64 (R.getD 0), .bool R.isSome]) ∧ w = w' := by
  have he : t.toList.isEmpty = false := by rw [str_empty]; apply decide_eq_false; omega
  have HR := Lib.hid hR
  clear hR
  go_enter Tryd.func42, Tryd.ntmps42
  go_wp2
  go_loop [6, 38] (fun v i => NumRel t v i) (fun _ i => t.size - (RowKit.intOf i).toNat)
  case atStart => exact ⟨0, 0, by omega, by simp, rfl, rfl, by simp [decFrom]⟩
  case round =>
    obtain ⟨k, u, hk, hu, rfl, rfl, hp⟩ := hrel
    have hu2 : u < 10000000000000000000 := Nat.lt_of_lt_of_le hu (Nat.pow_le_pow_right (by decide) (show k ≤ 19 by omega))
    have HU := Lib.hid hu
    have HP := Lib.hid hp
    clear hp hu
    by_cases hkz : k < t.size
    · by_cases hd : 48 ≤ t[k].toNat ∧ t[k].toNat ≤ 57
      · obtain ⟨d1, d2⟩ := hd
        have hu3 : u < 1000000000000000000 := Nat.lt_of_lt_of_le HU.out (Nat.pow_le_pow_right (by decide) (show k ≤ 18 by omega))
        go_wp2
        go_round
        case rel =>
          have hdv : digitVal t[k] = some (t[k].toNat - 48) := if_pos ⟨d1, d2⟩
          refine ⟨k + 1, u * 10 + (t[k].toNat - 48), by omega, ?_, ?_, by go_num, Lib.decFrom_take _ k 0 u t[k] _ HP.out (byte_at t k hkz) hdv⟩
          · have := HU.out
            rw [Nat.pow_succ]
            omega
          · congr 1
            omega
        case measure => simp [RowKit.intOf]; omega
      · have hdv : digitVal t[k] = none := if_neg hd
        have HD := Lib.hid hdv
        clear hdv
        have hd' : t[k].toNat < 48 ∨ 57 < t[k].toNat := by omega
        clear hd
        rcases hd' with hd | hd
        all_goals
          go_wp2
          go_ret2
          obtain rfl : R = none := by rw [HR.out, dec_bad _ 0 k _ (byte_at t k hkz) HD.out]; rfl
          exact ⟨rfl, rfl⟩
    · obtain rfl : k = t.size := by omega
      have hall : decFrom 0 t.data.toList = some u := by
        have := HP.out
        rwa [take_all _ _ (show t.data.toList.length = t.size from Array.length_toList)] at this
      have HR := Lib.hid (show R = if u ≤ 9223372036854775808 then some (-(u : Int)) else none by rw [HR.out, hall]; rfl)
      clear hall hkz
      by_cases hf : u ≤ 9223372036854775808
      · have e1 := neg_back u hf
        go_wp2
        go_ret2
        obtain rfl : R = some (-(u : Int)) := by rw [HR.out, if_pos hf]
        exact ⟨rfl, rfl⟩
      · go_wp2
        go_ret2
        obtain rfl : R = none := by rw [HR.out, if_neg hf]
        exact ⟨rfl, rfl⟩

theorem rn_one (w : World) : Calls Tryd.prog 42 #[.string { data := #[48] }] w fun e w' => e = .returned (.tuple #[.int .i64 0, .bool true]) ∧ w = w' := by
  go_enter Tryd.func42, Tryd.ntmps42
  go_wp2
  go_loop [6, 38] (fun v i => (v = .int .u64 0 ∧ i = .int .i64 0) ∨ (v = .int .u64 0 ∧ i = .int .i64 1)) (fun _ i => 1 - (RowKit.intOf i).toNat)
  case atStart => exact Or.inl ⟨rfl, rfl⟩
  case round =>
    rcases hrel with ⟨rfl, rfl⟩ | ⟨rfl, rfl⟩
    · go_wp2
      go_round
      case rel => exact Or.inr ⟨rfl, rfl⟩
      case measure => simp [RowKit.intOf]
    · go_wp2
      go_ret2
      exact ⟨rfl, rfl⟩

/-- What the document's own Number returns. -/
theorem rnum_any (s : ByteArray) (w : World) :
    Calls Tryd.prog 42 #[.string s] w fun e w' => e = .returned (.tuple #[.int .i64 ((numB s).getD 0), .bool (numB s).isSome]) ∧ w = w' := by
  by_cases h0 : 0 < s.size
  case neg =>
    refine rn_empty s w _ ?_ (by omega)
    have h := head_none h0
    rw [numB_pos (by rw [h]; simp) none (by rw [h]; rfl)]
    rfl
  have hne : s.data.toList ≠ [] := by
    intro e
    have : s.data.toList.length = s.size := Array.length_toList
    rw [e] at this
    simp at this
    omega
  by_cases h1 : s[0].toNat = 45
  · have h45 : s.data.toList.head? = some 45 := by rw [head_at h0, byte_nat (d := 45) h1 rfl]
    have hs : s ≠ { data := #[48] } := by intro e; rw [e] at h45; cases h45
    obtain ⟨t, ht⟩ : ∃ t, s.extract 1 s.size = t := ⟨_, rfl⟩
    have hlen : t.data.toList.length = t.size := Array.length_toList
    by_cases hp : 0 < t.size
    case neg => exact rn_nempty s w _ (by rw [numB_neg h45 ht.symm none (by rw [short_len (Or.inl (head_none hp))]; rfl)]; rfl) h0 h1 t ht (by omega)
    have htne : t.data.toList ≠ [] := by intro e; rw [e] at hlen; simp at hlen; omega
    by_cases hl : t.size ≤ 19
    case neg => exact rn_nlong s w _ (by rw [numB_neg h45 ht.symm none (by rw [short_len (Or.inr (by omega))]; rfl)]; rfl) h0 h1 t ht (by omega)
    by_cases hz : t[0].toNat = 48
    · exact rn_nzero s w _ (by rw [numB_neg h45 ht.symm none (by rw [short_zero (by rw [head_at hp, byte_nat (d := 48) hz rfl]) (by intro e; rw [e] at h45; cases h45)]; rfl)]; rfl) h0 h1 t ht hl hp hz hs
    · refine rn_ngo s w _ h0 h1 t ht hl hp hz ?_
      exact numB_neg h45 ht.symm _ (by rw [short_ok htne (by omega) (Or.inl (by rw [head_at hp]; intro e; injection e with e; rw [e] at hz; exact hz rfl))]; rfl)
  · have h45 : s.data.toList.head? ≠ some 45 := by rw [head_at h0]; intro e; injection e with e; rw [e] at h1; exact h1 rfl
    have hlen : s.data.toList.length = s.size := Array.length_toList
    by_cases hl : s.size ≤ 19
    case neg => exact rn_long s w _ (by rw [numB_pos h45 none (by rw [short_len (Or.inr (by omega))]; rfl)]; rfl) h0 h1 (by omega)
    by_cases hs : s = { data := #[48] }
    · subst hs
      exact rn_one w
    by_cases hz : s[0].toNat = 48
    · refine rn_zero s w _ ?_ h0 h1 hl hz hs
      rw [numB_pos h45 none (by rw [short_zero (by rw [head_at h0, byte_nat (d := 48) hz rfl]) (by intro e; exact hs (ByteArray.ext (Array.toList_inj.1 e)))]; rfl)]
      rfl
    · refine rn_go s w _ h0 h1 hl hz ?_
      exact numB_pos h45 _ (by rw [short_ok hne (by omega) (Or.inl (by rw [head_at h0]; intro e; injection e with e; rw [e] at hz; exact hz rfl))]; rfl)
end Go.Proofs.YtjnaglellobmmaaDoor
