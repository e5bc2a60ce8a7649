/-
  The document's twin of layout: KindWord, ParseKind. No conditions but what is in memory.
-/
import Derived.Test.YtolighoceecheaaR61
import Derived.Test.YtolighoceecheaaLps1
import Derived.OwnWalk
namespace Go.Proofs.Ytolighoceecheaa
open Go.RowKit Go.Flo Go.Bit
set_option maxRecDepth 100000

theorem or_nat (x y : Nat) (hx : x < 18446744073709551616) (hy : y < 18446744073709551616) : bits BinOp.or IntKind.u64 (x : Int) (y : Int) = ((x ||| y : Nat) : Int) := bits_or_u64_nat x y hx hy

set_option maxHeartbeats 1000000 in
theorem rkindWord_yes (w : World) (A : Option Addr) (m c : Nat) (f : Nat → Int) (h : Ints w A m c f) (hM : MayK m f) :
    Calls Try.prog 18 #[.agg #[.slice A m c]] w fun e w' => e = .returned (.int .u64 (kw m f : Nat)) ∧ Keep [] w w' := by
  have hb := Blk.new w 25 #[.slice A m c]
  have k1 : Keep [] w (w.alloc (.cells #[.slice A m c] 25)) := Keep.alloc _ _
  have hmk := rmayKind_any _ A m c f (h.keep k1)
  rw [show decide (MayK m f) = true from decide_eq_true hM] at hmk
  have hm := hM.2.1
  have hf : ∀ j, j < m → Fld (f j) := fun j hj => (hM.2.2.1 j hj).fld
  have HI := Lib.hid (h.keep k1)
  have HF := Lib.hid hf
  have hnc := h.nc
  have hcc := h.cap
  clear h hf hM
  go_enter Try.func18, Try.ntmps18
  go_wp2_with fail
  (with_reducible refine hmk.mono ?_)
  rintro e w2 ⟨rfl, k2⟩
  have hb2 := hb.keep k2 (by simp)
  have q0 := (hb2.cell 0).trans (show _ = some (Value.slice A m c) from rfl)
  clear hb hb2 hmk
  go_wp2
  clear q0
  go_loopw [3, 16] (fun x y wr => KwRel w2 m f x y wr) (fun _ y _ => m - (intOf y).toNat)
  case atStart => exact ⟨0, by omega, rfl, rfl, Keep.refl _ _⟩
  case round =>
  obtain ⟨j, hj, rfl, rfl, hK⟩ := hrel
  by_cases hlt : j < m
  case neg =>
    obtain rfl : j = m := by omega
    go_wp2
    go_ret
    exact ⟨rfl, (k1.trans k2).trans hK⟩
  obtain ⟨b, o, rfl, hb, hc⟩ := (HI.out.keep (k2.trans hK)).cells (by omega)
  have cj := hc j hlt
  have hfj := HF.out j hlt
  unfold Fld at hfj
  obtain ⟨v, hv⟩ : ∃ v : Nat, f j = (v : Int) := ⟨(f j).toNat, by omega⟩
  have hor := kwA_or m f hm j (fun i hi => HF.out i (by omega))
  have hl1 := kwA_lt64 m f hm j (by omega) (fun i hi => HF.out i (by omega))
  obtain ⟨p, hp⟩ : ∃ p, 4 + 2 * j = p := ⟨_, rfl⟩
  rw [hv, Int.toNat_natCast, hp] at hor
  rw [hv] at cj
  have hv3 : v ≤ 3 := by omega
  have hp1 : (4 : Int) + 2 * (j : Int) = (p : Int) := by omega
  have hp64 : p < 64 := by omega
  have hpl : 2 ^ p ≤ 17179869184 := by rw [← hp]; exact pw_le j (by omega)
  have hvl : v * 2 ^ p < 18446744073709551616 := by
    have : v * 2 ^ p ≤ 3 * 2 ^ p := Nat.mul_le_mul_right _ hv3
    omega
  have hwr : IntKind.u64.wrap ((v : Int) * 2 ^ p) = ((v * 2 ^ p : Nat) : Int) := by
    rw [IntKind.wrap_u64]
    have : (v : Int) * 2 ^ p = ((v * 2 ^ p : Nat) : Int) := by simp
    rw [this]
    omega
  have hOr := or_nat (kwA m f j) (v * 2 ^ p) (by omega) hvl
  rw [hor] at hOr
  have hOr2 : bits BinOp.or IntKind.u64 ((kwA m f j : Nat) : Int) (IntKind.u64.wrap ((v : Int) * 2 ^ p)) = ((kwA m f (j + 1) : Nat) : Int) := by rw [hwr]; exact hOr
  generalize kwA m f j = X at *
  clear hc hor hp hfj hv hwr hOr hvl hpl
  go_wp2
  go_roundw
  case rel => exact ⟨j + 1, by omega, by go_num, rfl, hK⟩
  case measure => simp [intOf]; omega

/-- What ParseKind tells. -/
def RPk (x : Nat) : Prop := MayK (pm x) (pf x) ∧ Up x
instance (x : Nat) : Decidable (RPk x) := by unfold RPk; infer_instance

def RPkYes (x : Nat) (w : World) (e : Ending) (w' : World) : Prop :=
  ∃ A c, e = .returned (.tuple #[.agg #[.slice A (pm x) c], .bool true]) ∧ Ints w' A (pm x) c (pf x) ∧ (∀ a, A = some a → w.heap.size ≤ a.block) ∧ Keep [] w w'

/-- Behind an append to a row from B on. -/
theorem grown_keep {w0 w w' : World} {B n size : Nat} {t : TypeId} {v : Value} {xs : List Value} (h : Keep [] w0 w) (hB : w0.heap.size ≤ B) (hown : w.ownsRow B t size v n xs) (hg : w.grownBy w' v.ownBlock) : Keep [] w0 w' := by
  rcases hown.2 with ⟨rfl, _⟩ | ⟨g, cap, cur, rfl, hgB, _⟩
  · exact h.trans (Keep.grown hg (fun k _ e => by simp [Value.ownBlock] at e))
  · exact h.since (own := [g]) (Keep.grown hg (fun k _ e => by simp [Value.ownBlock] at e; simp [e])) (by simp; omega)

theorem grown_blk {w w' : World} {B n size g : Nat} {t t' : TypeId} {v : Value} {xs : List Value} {cs : Array Value} (h : Blk w g t' cs) (hB : g < B) (hown : w.ownsRow B t size v n xs) (hg : w.grownBy w' v.ownBlock) : Blk w' g t' cs := by
  rcases hown.2 with ⟨rfl, _⟩ | ⟨g', cap, cur, rfl, hgB, _⟩
  · exact h.keep (own := []) (Keep.grown hg (fun k _ e => by simp [Value.ownBlock] at e)) (by simp)
  · exact h.keep (own := [g']) (Keep.grown hg (fun k _ e => by simp [Value.ownBlock] at e; simp [e])) (by simp; omega)

theorem owns_ints {w : World} {B n : Nat} {v : Value} {f : Nat → Int} (h : w.ownsRow B 3 1 v n ((List.range n).map (iv f))) : ∃ A c, v = .slice A n c ∧ Ints w A n c f ∧ ∀ a, A = some a → B ≤ a.block := by
  rcases h.2 with ⟨rfl, h0⟩ | ⟨g, cap, cur, rfl, hg, _⟩
  · have : n = 0 := by first | exact h0 | exact h0.1 | exact h0.2
    subst this
    exact ⟨none, 0, rfl, Ints.none _ _, fun a e => by cases e⟩
  · exact ⟨some ⟨g, 0, none⟩, cap, rfl, Ints.row (Row.of_owns h), fun a e => by injection e with e; subst e; exact hg⟩

theorem owns_kept {w w' : World} {B n size : Nat} {t : TypeId} {v : Value} {xs : List Value} (hown : w.ownsRow B t size v n xs) (hk : Keep [] w w') : w'.ownsRow B t size v n xs := by
  refine ⟨hown.1, ?_⟩
  rcases hown.2 with h | ⟨g, cap, cur, h1, h2, h3, h4⟩
  · exact Or.inl h
  · refine Or.inr ⟨g, cap, cur, h1, h2, ?_, h4⟩
    rw [hk.block g (by rcases Nat.lt_or_ge g w.heap.size with h | h; exact h; rw [Array.getElem?_eq_none h] at h3; cases h3) (by simp)]
    exact h3
end Go.Proofs.Ytolighoceecheaa
