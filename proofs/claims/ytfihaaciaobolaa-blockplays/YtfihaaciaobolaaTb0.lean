/-
  Which block is told, what a list turns, which entries are told: plain facts. No program is named here. Each theorem bears its own conditions.
-/
import Derived.Test.YtfihaaciaobolaaBmp
import Derived.Test.YtfihaaciaobolaaLcf
namespace Go.Bmp
open Go.Bit Go.Flo

/-- The least class that has so many words. -/
def lc (x : Int) : Nat := if x ≤ 2 then 0 else if x ≤ 4 then 1 else if x ≤ 8 then 2 else 3

theorem lc_le (x : Int) : lc x ≤ 3 := by unfold lc; (repeat' split) <;> omega

theorem lc_size (x : Int) (k : Nat) (hx : x ≤ 16) : x ≤ ((2 * 2 ^ k : Nat) : Int) ↔ lc x ≤ k := by
  have h3 : ∀ j : Nat, 2 * 2 ^ (j + 3) = 16 * 2 ^ j := fun j => by rw [Nat.pow_add]; omega
  unfold lc
  match k with
  | 0 => (repeat' split) <;> simp <;> omega
  | 1 => (repeat' split) <;> simp <;> omega
  | 2 => (repeat' split) <;> simp <;> omega
  | j + 3 =>
    rw [h3]
    have := Nat.one_le_two_pow (n := j)
    (repeat' split) <;> omega

/-- A class's first block. -/
def fo (C : Cf) : Nat → Nat
  | 0 => 0
  | 1 => C.f1
  | 2 => C.f2
  | 3 => C.f3
  | _ => C.all

theorem fo_le (C : Cf) (k : Nat) : fo C k ≤ C.all := by
  unfold fo Cf.f1 Cf.f2 Cf.f3 Cf.all
  split <;> omega

theorem fo_next (C : Cf) (k : Nat) : fo C k ≤ fo C (k + 1) := by
  match k with
  | 0 => show 0 ≤ C.f1; omega
  | 1 => show C.f1 ≤ C.f2; unfold Cf.f1 Cf.f2; omega
  | 2 => show C.f2 ≤ C.f3; unfold Cf.f2 Cf.f3; omega
  | 3 => show C.f3 ≤ C.all; unfold Cf.f3 Cf.all; omega
  | k + 4 => exact Nat.le_refl C.all

theorem fst_cat {B : Nat → Bool} {a m t : Nat} {b : Bool} (h1 : a ≤ m) (h2 : m ≤ t) : fst B a t b = if 0 ≤ fst B a m b then fst B a m b else fst B m t b := by
  rcases fst_spec B m b (m - a) a rfl with ⟨e, hn⟩ | ⟨i, e, i1, i2, i3, i4⟩
  · rw [e, if_neg (by omega)]
    have := fst_skip (B := B) (t := t) (b := b) (m - a) a (fun j hj _ => hn (a + j) (by omega) (by omega))
    rwa [show a + (m - a) = m by omega] at this
  · rw [e, if_pos (by omega)]
    have := fst_skip (B := B) (t := t) (b := b) (i - a) a (fun j hj _ => i4 (a + j) (by omega) (by omega))
    rw [show a + (i - a) = i by omega] at this
    rw [this]
    exact fst_here (by omega) i3

/-- The other bits. -/
def nt (B : Nat → Bool) (i : Nat) : Bool := !B i

/-- How many of a class are free. -/
def fr (C : Cf) (T : Nat → Bool) (k : Nat) : Nat := cnt (nt T) (fo C (k + 1)) - cnt (nt T) (fo C k)

theorem cnt_flat {B : Nat → Bool} {p : Nat} : ∀ d, (∀ j, p ≤ j → j < p + d → B j = false) → cnt B (p + d) = cnt B p
  | 0, _ => rfl
  | d + 1, h => by
    show cnt B (p + d) + (B (p + d)).toNat = _
    rw [cnt_flat d (fun j h1 h2 => h j h1 (by omega)), h (p + d) (by omega) (by omega)]
    rfl

theorem cnt_mono (B : Nat → Bool) (p : Nat) : ∀ d, cnt B p ≤ cnt B (p + d)
  | 0 => Nat.le_refl _
  | d + 1 => Nat.le_trans (cnt_mono B p d) (Nat.le_add_right _ _)

theorem cnt_le2 (B : Nat → Bool) {p q : Nat} (h : p ≤ q) : cnt B p ≤ cnt B q := by
  have := cnt_mono B p (q - p)
  rwa [show p + (q - p) = q by omega] at this

theorem cnt_one {T : Nat → Bool} {p i : Nat} (h1 : p ≤ i) (h2 : ∀ j, p ≤ j → j < i → T j ≠ false) (h3 : T i = false) : cnt (nt T) (i + 1) = cnt (nt T) p + 1 := by
  have := cnt_flat (B := nt T) (p := p) (i - p) (fun j e1 e2 => by have := h2 j e1 (by omega); simp [nt]; simpa using this)
  rw [show p + (i - p) = i by omega] at this
  show cnt (nt T) i + (nt T i).toNat = _
  rw [this]
  simp [nt, h3]

theorem cnt_none {T : Nat → Bool} {p t : Nat} (h1 : p ≤ t) (h2 : ∀ j, p ≤ j → j < t → T j ≠ false) : cnt (nt T) t = cnt (nt T) p := by
  have := cnt_flat (B := nt T) (p := p) (t - p) (fun j e1 e2 => by have := h2 j e1 (by omega); simp [nt]; simpa using this)
  rwa [show p + (t - p) = t by omega] at this

/-- What a list names. -/
def nmB (l : Nat → Int) : Nat → Nat → Bool
  | 0 => fun _ => false
  | k + 1 => upd (nmB l k) (l k).toNat true

/-- May a list be turned? -/
def okT (may : Int → Bool) (l : Nat → Int) : Nat → Bool
  | 0 => true
  | k + 1 => okT may l k && (may (l k) && !nmB l k (l k).toNat)

/-- A list is turned. -/
def put (B : Nat → Bool) (l : Nat → Int) (v : Bool) : Nat → Nat → Bool
  | 0 => B
  | k + 1 => upd (put B l v k) (l k).toNat v

theorem nmB_congr {l l' : Nat → Int} : ∀ {n : Nat}, (∀ j, j < n → l j = l' j) → nmB l n = nmB l' n
  | 0, _ => rfl
  | n + 1, h => by unfold nmB; rw [nmB_congr (n := n) (fun j hj => h j (by omega)), h n (by omega)]

theorem okT_congr {may : Int → Bool} {l l' : Nat → Int} : ∀ {n : Nat}, (∀ j, j < n → l j = l' j) → okT may l n = okT may l' n
  | 0, _ => rfl
  | n + 1, h => by unfold okT; rw [okT_congr (n := n) (fun j hj => h j (by omega)), h n (by omega), nmB_congr (n := n) (fun j hj => h j (by omega))]

theorem put_congr {B : Nat → Bool} {v : Bool} {l l' : Nat → Int} : ∀ {n : Nat}, (∀ j, j < n → l j = l' j) → put B l v n = put B l' v n
  | 0, _ => rfl
  | n + 1, h => by unfold put; rw [put_congr (n := n) (fun j hj => h j (by omega)), h n (by omega)]

theorem okT_stop {may : Int → Bool} {l : Nat → Int} {i : Nat} (h : okT may l i = false) : ∀ d, okT may l (i + d) = false
  | 0 => h
  | d + 1 => by show (okT may l (i + d) && _) = false; rw [okT_stop h d]; rfl

theorem okT_may {may : Int → Bool} {l : Nat → Int} : ∀ {n : Nat}, okT may l n = true → ∀ j, j < n → may (l j) = true
  | 0, _, j, hj => by omega
  | n + 1, h, j, hj => by
    unfold okT at h
    simp only [Bool.and_eq_true] at h
    rcases Nat.lt_or_ge j n with hl | hl
    · exact okT_may h.1 j hl
    · obtain rfl : j = n := by omega
      exact h.2.1

theorem nmB_iff (l : Nat → Int) : ∀ (n i : Nat), nmB l n i = true ↔ ∃ j, j < n ∧ (l j).toNat = i
  | 0, i => by simp [nmB]
  | n + 1, i => by
    unfold nmB upd
    by_cases h : i = (l n).toNat
    · simp only [h, if_true, true_iff]
      exact ⟨n, by omega, rfl⟩
    · simp only [h, if_false]
      rw [nmB_iff l n i]
      constructor
      · rintro ⟨j, hj, e⟩
        exact ⟨j, by omega, e⟩
      · rintro ⟨j, hj, e⟩
        refine ⟨j, ?_, e⟩
        rcases Nat.lt_or_ge j n with hl | hl
        · exact hl
        · obtain rfl : j = n := by omega
          exact absurd e.symm h

theorem put_eq (B : Nat → Bool) (l : Nat → Int) (v : Bool) : ∀ (n i : Nat), put B l v n i = if nmB l n i then v else B i
  | 0, i => by simp [put, nmB]
  | n + 1, i => by
    unfold put nmB upd
    by_cases h : i = (l n).toNat
    · simp [h]
    · simp only [h, if_false]
      exact put_eq B l v n i

/-- An entry. -/
structure Ent where
  a : Int
  v : Int

/-- How many of the first words have a bit that was turned. -/
def enC (N : Nat → Bool) : Nat → Nat
  | 0 => 0
  | k + 1 => if pack N k = 0 then enC N k else enC N k + 1

/-- The entries of the first words. -/
def enE (base : Nat) (N U : Nat → Bool) : Nat → Nat → Ent
  | 0 => fun _ => ⟨0, 0⟩
  | k + 1 => fun j => if pack N k ≠ 0 ∧ j = enC N k then ⟨(base + k : Nat), (pack U k : Nat)⟩ else enE base N U k j

theorem enC_le (N : Nat → Bool) : ∀ k, enC N k ≤ k
  | 0 => Nat.le_refl _
  | k + 1 => by have := enC_le N k; unfold enC; split <;> omega

theorem enC_mono (N : Nat → Bool) (i : Nat) : ∀ d, enC N i ≤ enC N (i + d)
  | 0 => Nat.le_refl _
  | d + 1 => by
    have := enC_mono N i d
    show enC N i ≤ (if pack N (i + d) = 0 then enC N (i + d) else enC N (i + d) + 1)
    split <;> omega

theorem enE_old (base : Nat) (N U : Nat → Bool) (i j : Nat) (hj : j < enC N i) : ∀ d, enE base N U (i + d) j = enE base N U i j
  | 0 => rfl
  | d + 1 => by
    show (if pack N (i + d) ≠ 0 ∧ j = enC N (i + d) then _ else _) = _
    have := enC_mono N i d
    rw [if_neg (by omega)]
    exact enE_old base N U i j hj d

theorem enE_at (base : Nat) (N U : Nat → Bool) {i K : Nat} (hi : i < K) (h : pack N i ≠ 0) : enC N i < enC N K ∧ enE base N U K (enC N i) = ⟨(base + i : Nat), (pack U i : Nat)⟩ := by
  have h1 : enC N (i + 1) = enC N i + 1 := by
    show (if pack N i = 0 then enC N i else enC N i + 1) = _
    rw [if_neg h]
  have h2 := enC_mono N (i + 1) (K - (i + 1))
  rw [show i + 1 + (K - (i + 1)) = K by omega] at h2
  refine ⟨by omega, ?_⟩
  have h3 := enE_old base N U (i + 1) (enC N i) (by omega) (K - (i + 1))
  rw [show i + 1 + (K - (i + 1)) = K by omega] at h3
  rw [h3]
  show (if pack N i ≠ 0 ∧ enC N i = enC N i then _ else _) = _
  rw [if_pos ⟨h, rfl⟩]

theorem enE_what (base : Nat) (N U : Nat → Bool) : ∀ (K j : Nat), j < enC N K → ∃ i, i < K ∧ pack N i ≠ 0 ∧ enC N i = j ∧ enE base N U K j = ⟨(base + i : Nat), (pack U i : Nat)⟩
  | 0, j, h => by simp [enC] at h
  | K + 1, j, h => by
    by_cases hp : pack N K = 0
    · have e1 : enC N (K + 1) = enC N K := by show (if _ then _ else _) = _; rw [if_pos hp]
      rw [e1] at h
      obtain ⟨i, h1, h2, h3, h4⟩ := enE_what base N U K j h
      refine ⟨i, by omega, h2, h3, ?_⟩
      show (if _ then _ else _) = _
      rw [if_neg (by simp [hp])]
      exact h4
    · have e1 : enC N (K + 1) = enC N K + 1 := by show (if _ then _ else _) = _; rw [if_neg hp]
      rw [e1] at h
      by_cases hj : j = enC N K
      · subst hj
        exact ⟨K, by omega, hp, rfl, (enE_at base N U (by omega) hp).2⟩
      · obtain ⟨i, h1, h2, h3, h4⟩ := enE_what base N U K j (by omega)
        refine ⟨i, by omega, h2, h3, ?_⟩
        show (if _ then _ else _) = _
        rw [if_neg (by simp [hj])]
        exact h4
end Go.Bmp
