/-
  The document's twin of layout: line, Size, Need, KindWords, MayKind; light. No conditions but what is in memory.
-/
import Derived.Test.YtfihaaciaobolaaLay1
namespace Go.Proofs.Ytfihaaciaobolaa
open Go.RowKit Go.Flo Go.Bit
set_option maxRecDepth 100000

theorem rsize_any (k : Nat) (hk : k < 4) (w : World) : Calls Try.prog 32 #[.int .i64 k] w fun e w' => e = .returned (.int .i64 (2 * 2 ^ k : Nat)) ∧ w = w' := by
  match k, hk with
  | 0, _ =>
    go_enter Try.func32, Try.ntmps32
    go_wp2
    go_ret
    exact ⟨rfl, rfl⟩
  | 1, _ =>
    go_enter Try.func32, Try.ntmps32
    go_wp2
    go_ret
    exact ⟨rfl, rfl⟩
  | 2, _ =>
    go_enter Try.func32, Try.ntmps32
    go_wp2
    go_ret
    exact ⟨rfl, rfl⟩
  | 3, _ =>
    go_enter Try.func32, Try.ntmps32
    go_wp2
    go_ret
    exact ⟨rfl, rfl⟩

theorem rline_any (x : Nat) (hx : x ≤ 100000) (w : World) : Calls Try.prog 40 #[.int .i64 x] w fun e w' => e = .returned (.int .i64 (ln x : Nat)) ∧ w = w' := by
  obtain ⟨q, hq⟩ : ∃ q : Nat, q = (x + 7) / 8 := ⟨_, rfl⟩
  have hq1 : q ≤ 100000 := by omega
  have hl : ((ln x : Nat) : Int) = (q : Int) * 8 := by unfold ln; omega
  have hl2 : (((x : Int) + 7) / 8) = (q : Int) := by omega
  have HL := Lib.hid hl
  clear hl hq
  go_enter Try.func40, Try.ntmps40
  go_wp2
  go_ret
  exact ⟨ret_i64 (by rw [HL.out]; omega), rfl⟩

theorem rlineI (x : Int) (n : Nat) (hx : x = n) (hn : n ≤ 100000) (w : World) : Calls Try.prog 40 #[.int .i64 x] w fun e w' => e = .returned (.int .i64 (ln n : Nat)) ∧ w = w' := by
  subst hx
  exact rline_any n hn w

/-- What KindWords answers. -/
def kwds (m : Nat) (f : Nat → Int) : Nat := if 1 ≤ m ∧ m ≤ 15 ∧ ∀ j, j < m → OkF (f j) then sumF f m else 0

theorem kwds_le (m : Nat) (f : Nat → Int) : kwds m f ≤ 31 := by
  unfold kwds
  split
  · have := sumF_le f m; omega
  · omega

theorem kwds_may (m : Nat) (f : Nat → Int) : (0 < kwds m f ∧ kwds m f ≤ 16) ↔ MayK m f := by
  unfold kwds MayK
  have := sumF_ge f m
  split
  · rename_i h
    constructor
    · intro h2; exact ⟨h.1, h.2.1, h.2.2, h2.2⟩
    · intro h2; exact ⟨by omega, h2.2.2.2⟩
  · rename_i h
    constructor
    · intro h2; omega
    · intro h2; exact absurd ⟨h2.1, h2.2.1, h2.2.2.1⟩ h

/-- Few kinds, of few fields. -/
def Light (n : Nat) (m : Nat → Nat) : Prop := n ≤ 40 ∧ ∀ i, i < n → m i ≤ 40
instance (n : Nat) (m : Nat → Nat) : Decidable (Light n m) := by unfold Light; infer_instance

def LiRel (w : World) (n : Nat) (m : Nat → Nat) (x : Value) (wr : World) : Prop := ∃ j : Nat, j ≤ n ∧ x = .int .i64 j ∧ (∀ i, i < j → m i ≤ 40) ∧ Keep [] w wr

end Go.Proofs.Ytfihaaciaobolaa
