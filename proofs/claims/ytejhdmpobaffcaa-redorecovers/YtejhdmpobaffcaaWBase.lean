/-
  Rows that came in; what laws that write rows have in common. No conditions.
-/
import Derived.Test.YtejhdmpobaffcaaWSteps
import Derived.Test.YtejhdmpobaffcaaCrs
import Derived.Deep.DeepCutAuto
import Derived.BigQuiet
import Derived.Deep.QuietTactic
import Derived.Test.YtejhdmpobaffcaaGrow
namespace Go.Proofs.Ytejhdmpobaffcaa
open Go.RowKit Go.Flo
set_option maxRecDepth 100000

/-- Numbers that came in. -/
structure Ints (w : World) (A : Option Addr) (n cap : Nat) (f : Nat → Int) : Prop where
  nc : n ≤ cap
  cap : cap ≤ 9223372036854775807
  cells : 0 < n → ∃ b o, A = some ⟨b, o, none⟩ ∧ b < w.heap.size ∧ ∀ j, j < n → w.cell? ⟨b, o + j, none⟩ = some (.int .i64 (f j))
theorem Ints.keep {w w' : World} {A : Option Addr} {n cap : Nat} {f : Nat → Int} (h : Ints w A n cap f) (hk : Keep [] w w') : Ints w' A n cap f :=
  ⟨h.nc, h.cap, fun h0 => by
    obtain ⟨b, o, h1, h3, h4⟩ := h.cells h0
    exact ⟨b, o, h1, Nat.lt_of_lt_of_le h3 hk.size, fun j hj => (hk.cell (p := ⟨b, _, none⟩) h3 (by simp)).trans (h4 j hj)⟩⟩
theorem Ints.of_row {w : World} {a : Option Addr} {len cap : Nat} {zs : List Int}
    (h : (a = none ∧ len = 0 ∧ cap = 0 ∧ zs = []) ∨ ∃ x, a = some x ∧ len ≤ cap ∧ cap ≤ maxLen ∧ zs.length = cap ∧ (∀ i, i < zs.length → w.cell? (x.add i) = some (.int .i64 (zs.getD i 0))) ∧ ∀ n ∈ zs, (Lit.int .i64 n).wf = true) :
    ∃ f, Ints w a len cap f := by
  rcases h with ⟨rfl, rfl, rfl, rfl⟩ | ⟨x, rfl, h1, h2, h3, h4, h5⟩
  · exact ⟨fun _ => 0, ⟨by omega, by omega, fun h0 => by omega⟩⟩
  · refine ⟨fun j => zs.getD j 0, ⟨h1, by unfold maxLen at h2; omega, fun h0 => ?_⟩⟩
    have hc := h4 0 (by omega)
    have hs := spot_none hc
    obtain ⟨b, o, s⟩ := x
    have hs' : s = none := by
      unfold Addr.add at hs
      split at hs <;> simp_all
    subst hs'
    refine ⟨b, o, rfl, by have := World.block_lt_of_cell? w _ hc; rwa [addr_none] at this, fun j hj => ?_⟩
    have := h4 j (by omega)
    rwa [addr_none] at this
theorem IsRows.keep {P : World → Option Addr → Nat → Nat → Prop} {w w' : World} {a : Option Addr} {len cap : Nat} (h : IsRows P w a len cap) (hk : Keep [] w w') (hP : ∀ A m c, P w A m c → P w' A m c) : IsRows P w' a len cap := by
  obtain ⟨h1, h2, h3⟩ := h
  refine ⟨h1, h2, fun h0 => ?_⟩
  obtain ⟨b, o, e, hb, hc⟩ := h3 h0
  refine ⟨b, o, e, Nat.lt_of_lt_of_le hb hk.size, fun i hi' => ?_⟩
  obtain ⟨A, m, c, e1, e2⟩ := hc i hi'
  exact ⟨A, m, c, (hk.cell (p := ⟨b, _, none⟩) hb (by simp)).trans e1, hP A m c e2⟩
theorem IsPks.keep {w w' : World} {a : Option Addr} {len cap : Nat} (h : IsPks w a len cap) (hk : Keep [] w w') : IsPks w' a len cap := by
  obtain ⟨p, h1, h2⟩ := h
  exact ⟨p, h1.lift hk (by simp), h2⟩
structure Hid' (p : Prop) : Prop where
  out : p
theorem IsRows.keep' {P P' : World → Option Addr → Nat → Nat → Prop} {w w' : World} {a : Option Addr} {len cap : Nat} (h : IsRows P w a len cap) (hk : Keep [] w w') (hP : ∀ A m c, P w A m c → P' w' A m c) : IsRows P' w' a len cap := by
  obtain ⟨h1, h2, h3⟩ := h
  refine ⟨h1, h2, fun h0 => ?_⟩
  obtain ⟨b, o, e, hb, hc⟩ := h3 h0
  refine ⟨b, o, e, Nat.lt_of_lt_of_le hb hk.size, fun i hi' => ?_⟩
  obtain ⟨A, m, c, e1, e2⟩ := hc i hi'
  exact ⟨A, m, c, (hk.cell (p := ⟨b, _, none⟩) hb (by simp)).trans e1, hP A m c e2⟩
theorem Pk.none (w : World) (own : List Nat) : Pk w own none 0 0 (fun _ => 0) := ⟨by omega, by omega, fun _ _ => rfl, fun h => by omega⟩

/-- The entries that are taken, and what they make of the words. -/
def CrRel (w : World) (B N Wn capW k : Nat) (F : Nat → Int) (x y : Value) (wr : World) : Prop :=
  ∃ (i c : Nat) (G : Nat → Ent), x = .int .i64 i ∧ i ≤ k ∧ c ≤ i ∧ (∀ j, j < c → 64 ≤ (G j).a ∧ (G j).a < N ∧ 0 ≤ (G j).v ∧ (G j).v < 18446744073709551616) ∧
    wr.ownsRow B 46 2 y c (entsR G c) ∧ Row wr 44 Wn N capW (u64 (upd F G c)) ∧ Keep [Wn] w wr

theorem upd_congr {A : Nat → Int} {E E' : Nat → Ent} {n : Nat} (h : ∀ j, j < n → E j = E' j) (i : Nat) : upd A E n i = upd A E' n i := by
  induction n with
  | zero => rfl
  | succ n ih => simp only [upd]; rw [ih (fun j hj => h j (by omega)), h n (by omega)]

theorem laid_none {N n : Nat} {E : Nat → Ent} {F : Nat → Int} (hN : 0 < N) (h0 : F 0 = 0) (hF : ∀ j, j < N → 0 ≤ F j) : None_ N n E F (laidS N F) := by
  intro i
  have hw := laidS_wd N F hF i
  by_cases hi' : i < N
  · have hp := laidS_pic N F hi'
    have h4 : Pic (fun x => 0 ≤ x ∧ x = F i) (laidS N F) i := ⟨⟨hw.1, hp.1⟩, ⟨hw.2.1, hp.2.1⟩, fun hf => ⟨hw.2.2 hf, hp.2.2 hf⟩⟩
    exact h4.mono (fun x hx => ⟨hx.1, fun e => by rw [hx.2, e]; exact h0, fun e => (by cases e), fun _ _ => hx.2⟩)
  · exact hw.mono (fun x hx => ⟨hx, fun e => by omega, fun e => (by cases e), fun _ h => absurd h hi'⟩)

end Go.Proofs.Ytejhdmpobaffcaa
