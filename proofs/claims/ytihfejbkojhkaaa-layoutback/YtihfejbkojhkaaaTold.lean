/-
  Super words with one word turned: plain numbers. No program is named here. Each theorem bears its own conditions.
-/
import Derived.Test.YtihfejbkojhkaaaLsup
import Derived.Test.YtihfejbkojhkaaaR64
namespace Go.Proofs.Ytihfejbkojhkaaa
open Go.RowKit Go.Flo Go.Bit

theorem told {C : Cf} {m : Nat → Nat} {f : Nat → Nat → Int} {L k : Nat} {W : Nat → Nat} (hk : k < 9 + C.n) (hne : W k ≠ supW C m f k) (heq : ∀ j, j ≠ k → j < 9 + C.n → W j = supW C m f j) (hP : POk L W) :
    ¬ SameC C.n m f C.b0 C.b1 C.b2 C.b3 C.r C.wk C.lg (W 8) (fun i => pm (W (9 + i))) (fun i => pf (W (9 + i))) (W 4 : Nat) (W 5 : Nat) (W 6 : Nat) (W 7 : Nat) (W 1 : Nat) (W 2 : Nat) (W 3 : Nat) := by
  rintro ⟨⟨s4, s5, s6, s7⟩, s1, s2, s3, s8, sk⟩
  match k, hk, hne, heq with
  | 0, _, hne, _ => exact hne hP.2.1
  | 1, _, hne, _ => have h : W 1 ≠ C.r := hne; omega
  | 2, _, hne, _ => have h : W 2 ≠ C.wk := hne; omega
  | 3, _, hne, _ => have h : W 3 ≠ C.lg := hne; omega
  | 4, _, hne, _ => have h : W 4 ≠ C.b0 := hne; omega
  | 5, _, hne, _ => have h : W 5 ≠ C.b1 := hne; omega
  | 6, _, hne, _ => have h : W 6 ≠ C.b2 := hne; omega
  | 7, _, hne, _ => have h : W 7 ≠ C.b3 := hne; omega
  | 8, _, hne, _ => have h : W 8 ≠ C.n := hne; omega
  | i + 9, hk, hne, _ =>
    have hi : i < C.n := by omega
    obtain ⟨e1, e2⟩ := sk i hi
    have hU := hP.2.2.2.1 i (by omega)
    dsimp only at e1 e2
    rw [Nat.add_comm 9 i] at e1 e2 hU
    have hq := (kw_p (W (i + 9))).2 hU
    apply hne
    rw [← hq, ← e1]
    show _ = kw (m i) (f i)
    exact (kw_congr e2).symm
theorem supW_lt {C : Cf} {m : Nat → Nat} {f : Nat → Nat → Int} (ok : C.Ok) (hk : MayKs C.n m f) {j : Nat} (hj : j < 9 + C.n) : supW C m f j < 18446744073709551616 := by
  have := ok.n
  have := ok.b0
  have := ok.b1
  have := ok.b2
  have := ok.b3
  have := ok.r
  have := ok.wk
  have := ok.lg
  match j, hj with
  | 0, _ => show magicN < _; unfold magicN; omega
  | 1, _ => show C.r < _; omega
  | 2, _ => show C.wk < _; omega
  | 3, _ => show C.lg < _; omega
  | 4, _ => show C.b0 < _; omega
  | 5, _ => show C.b1 < _; omega
  | 6, _ => show C.b2 < _; omega
  | 7, _ => show C.b3 < _; omega
  | 8, _ => show C.n < _; omega
  | i + 9, hj =>
    have hm := hk.2.2 i (by omega)
    have := kw_lt (f := f i) hm.2.1 (fun j hj => (hm.2.2.1 j hj).fld)
    show kw (m i) (f i) < _
    omega
/-- One word turned, and nothing behind the words. -/
def turnW (C : Cf) (m : Nat → Nat) (f : Nat → Nat → Int) (k y j : Nat) : Nat := if j = k then y else if j < 9 + C.n then supW C m f j else 0
theorem mod_any (a : Int) (N : Nat) (h0 : 0 < N) (hN : N ≤ 100000) : ∃ t : Nat, t < N ∧ wrap64 ((IntKind.u64.wrap a).tmod N) = t := by
  obtain ⟨x, hx⟩ : ∃ x : Nat, IntKind.u64.wrap a = x := by
    have : 0 ≤ IntKind.u64.wrap a := by rw [IntKind.wrap_u64]; omega
    exact ⟨(IntKind.u64.wrap a).toNat, by omega⟩
  refine ⟨x % N, Nat.mod_lt _ h0, ?_⟩
  have hl := Nat.mod_lt x h0
  rw [hx, show ((x : Int).tmod (N : Int)) = ((x % N : Nat) : Int) from rfl]
  generalize x % N = r at *
  unfold wrap64
  omega
theorem xor_turn (x p : Nat) (hx : x < 18446744073709551616) (hp : p < 64) : ∃ y : Nat, x ^^^ 2 ^ p = y ∧ y ≠ x ∧ y < 18446744073709551616 := by
  refine ⟨_, rfl, ?_, ?_⟩
  · intro h
    have := congrArg (fun z => z.testBit p) h
    simp [Nat.testBit_xor] at this
  · have h2 : 2 ^ p < 2 ^ 64 := Nat.pow_lt_pow_right (by omega) hp
    have := Nat.xor_lt_two_pow (x := x) (y := 2 ^ p) (n := 64) (by simpa using hx) h2
    simpa using this
end Go.Proofs.Ytihfejbkojhkaaa
