/-
  scullionlaw6's awake: a layout that every program must know. No conditions.
-/
import Derived.Test.YtihfejbkojhkaaaLay5
namespace Go.Proofs.Ytihfejbkojhkaaa
open Go.RowKit Go.Flo Go.Bit
set_option maxRecDepth 100000

def awC : Cf := ⟨1, 8, 0, 0, 0, 1, 1, 40⟩
theorem awC_ok : awC.Ok := by constructor <;> decide
theorem awK : MayKs awC.n (fun _ => 1) (fun _ _ => 1) := by
  refine ⟨by decide, by decide, fun i _ => (show MayK 1 (fun _ => 1) from ⟨by decide, by decide, fun j _ => Or.inl rfl, by decide⟩)⟩

set_option maxHeartbeats 1000000 in
theorem awake6_any (w : World) : Calls Try.prog 11 #[] w fun e w' => e = .returned (.bool true) ∧ Keep [] w w' := by
  have b1 := Blk.new w 3 #[.int .i64 1]
  have k1 : Keep [] w (w.alloc (.cells #[.int .i64 1] 3)) := Keep.alloc _ _
  have b2 := Blk.new (w.alloc (.cells #[.int .i64 1] 3)) 60 #[.slice (some ⟨w.heap.size, 0, none⟩) 1 1]
  have k2 : Keep [] (w.alloc (.cells #[.int .i64 1] 3)) ((w.alloc (.cells #[.int .i64 1] 3)).alloc (.cells #[.slice (some ⟨w.heap.size, 0, none⟩) 1 1] 60)) := Keep.alloc _ _
  have e1 : (w.alloc (.cells #[.int .i64 1] 3)).heap.size = w.heap.size + 1 := by simp
  rw [e1] at b2
  have b1' := b1.keep k2 (by simp)
  have hK : KRow ((w.alloc (.cells #[.int .i64 1] 3)).alloc (.cells #[.slice (some ⟨w.heap.size, 0, none⟩) 1 1] 60)) (some ⟨w.heap.size + 1, 0, none⟩) awC.n 1 (fun _ => 1) (fun _ _ => 1) :=
    ⟨Nat.le_refl _, by omega, fun _ => ⟨w.heap.size + 1, 0, rfl, b2.lt, fun i hi => by
      have hi0 : i = 0 := by have : i < 1 := hi; omega
      subst hi0
      exact ⟨some ⟨w.heap.size, 0, none⟩, 1, b2.cell 0, Nat.le_refl _, fun e => by (cases e), by omega, fun _ => ⟨w.heap.size, 0, rfl, b1'.lt, fun j hj => by
        have hj0 : j = 0 := by omega
        subst hj0
        exact b1'.cell 0⟩⟩⟩⟩
  have hN : Calls Try.prog 12 #[.agg #[.slice (some ⟨w.heap.size + 1, 0, none⟩) 1 1, .int .i64 8, .int .i64 0, .int .i64 0, .int .i64 0, .int .i64 1, .int .i64 1, .int .i64 40]] ((w.alloc (.cells #[.int .i64 1] 3)).alloc (.cells #[.slice (some ⟨w.heap.size, 0, none⟩) 1 1] 60)) (LytPost awC (fun _ => 1) (fun _ _ => 1) ((w.alloc (.cells #[.int .i64 1] 3)).alloc (.cells #[.slice (some ⟨w.heap.size, 0, none⟩) 1 1] 60))) := new_yes _ _ 1 awC _ _ awC_ok awK hK
  have kk := k1.trans k2
  clear hK b1 b2 b1' e1 k1 k2
  go_enter Try.func11, Try.ntmps11
  go_wp2_with fail
  (with_reducible refine hN.mono ?_)
  rintro e w2 ⟨g, rfl, hL, k3⟩
  have hw : Calls Try.prog 16 #[.pointer (some ⟨g, 0, none⟩)] w2 fun e w' => e = .returned (.int .i64 88) ∧ w2 = w' := words_l hL
  clear hN
  go_wp2_with fail
  (with_reducible refine hw.mono ?_)
  rintro e w3 ⟨rfl, rfl⟩
  go_wp2
  go_ret
  exact ⟨rfl, kk.trans k3⟩
end Go.Proofs.Ytihfejbkojhkaaa
