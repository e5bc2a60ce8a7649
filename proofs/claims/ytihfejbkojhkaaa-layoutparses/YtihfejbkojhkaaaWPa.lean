/-
  LayoutParses' walk. No conditions but what came in.
-/
import Derived.Test.YtihfejbkojhkaaaR68
import Derived.Test.YtihfejbkojhkaaaR64
import Derived.Test.YtihfejbkojhkaaaLawk
namespace Go.Proofs.Ytihfejbkojhkaaa
open Go.RowKit Go.Flo Go.Bit
set_option maxRecDepth 100000

theorem spotN {w : World} {a : Addr} {v : Value} (h : w.cell? a = some v) : a.spot = none := by
  unfold World.cell? at h
  split at h
  · split at h
    · cases h
    · rename_i hs
      cases e : a.spot with
      | none => rfl
      | some _ => rw [e] at hs; simp at hs
  · cases h
theorem Wrd.of_row {w : World} {a : Option Addr} {len cap : Nat} {zs : List Int}
    (h : (a = none ∧ len = 0 ∧ cap = 0 ∧ zs = []) ∨ ∃ x, a = some x ∧ len ≤ cap ∧ cap ≤ maxLen ∧ zs.length = cap ∧ (∀ i, i < zs.length → w.cell? (x.add i) = some (.int .u64 (zs.getD i 0))) ∧ ∀ n ∈ zs, (Lit.int .u64 n).wf = true) :
    ∃ f, Wrd w a len cap f := by
  rcases h with ⟨rfl, rfl, rfl, rfl⟩ | ⟨x, rfl, h1, h2, h3, h4, h5⟩
  · exact ⟨_, Wrd.nil w⟩
  · have hb : ∀ j, 0 ≤ zs.getD j 0 ∧ zs.getD j 0 < 18446744073709551616 := fun j => by
      rcases Nat.lt_or_ge j zs.length with hj | hj
      · have hm : zs.getD j 0 ∈ zs := by
          rw [List.getD_eq_getElem?_getD, List.getElem?_eq_getElem hj]
          exact List.getElem_mem hj
        have := bounds_u64 (h5 _ hm)
        omega
      · rw [List.getD_eq_getElem?_getD, List.getElem?_eq_none hj]
        simp
    refine ⟨fun j => (zs.getD j 0).toNat, h1, by unfold maxLen at h2; omega, fun j => by have := hb j; omega, fun h0 => ?_⟩
    have hc := h4 0 (by omega)
    have hs := spotN hc
    obtain ⟨b, o, s⟩ := x
    have hs' : s = none := by
      unfold Addr.add at hs
      split at hs <;> simp_all
    subst hs'
    refine ⟨b, o, rfl, by have := World.block_lt_of_cell? w _ hc; rwa [addr_add0] at this, fun j hj => ?_⟩
    have := h4 j (by omega)
    rw [addr_add0] at this
    rw [this]
    have := hb j
    congr 2
    omega

set_option maxHeartbeats 2000000 in
theorem walk_parses (A : Option Addr) (L cap : Nat) (W : Nat → Nat) (w : World) (h : Wrd w A L cap W) :
    Calls Try.prog 4 #[.slice A L cap] w fun e w' => e = .returned (.bool true) ∧ Keep [] w w' := by
  have hA := awake6_any
  by_cases c1 : 100 < L
  case pos =>
    go_enter Try.func4, Try.ntmps4
    go_wp2_with fail
    (with_reducible refine (hA _).mono ?_)
    rintro e w2 ⟨rfl, k3⟩
    go_wp2
    go_ret
    exact ⟨rfl, k3⟩
  have h1 := parse_any w A L cap W h
  have h2 := fun V (hk : Keep [] w V) => rparse_any V A L cap W (h.keep hk)
  unfold PPost at h1 h2
  by_cases hP : POk L W
  case neg =>
    have g1 := h1.mono (fun e w' hh => (show e = .returned (.tuple #[.agg #[.slice none 0 0, .int .i64 0, .int .i64 0, .int .i64 0, .int .i64 0, .int .i64 0, .int .i64 0, .int .i64 0], .int .i64 8]) ∧ Keep [] w w' from hh.elim (fun x => absurd x.1 hP) (fun x => x.2)))
    have g2 := fun V hk => (h2 V hk).mono (fun e w' hh => (show e = .returned (.tuple #[.agg #[.slice none 0 0, .int .i64 0, .int .i64 0, .int .i64 0, .int .i64 0, .int .i64 0, .int .i64 0, .int .i64 0], .int .i64 8]) ∧ Keep [] V w' from hh.elim (fun x => absurd x.1 hP) (fun x => x.2)))
    have G2 := Lib.hid g2
    clear h1 h2 g2 hP h
    go_enter Try.func4, Try.ntmps4
    go_wp2_with fail
    (with_reducible refine g1.mono ?_)
    rintro e w2 ⟨rfl, k2⟩
    have ka : Keep [] w2 (w2.alloc (.cells #[.slice none 0 0, .int .i64 0, .int .i64 0, .int .i64 0, .int .i64 0, .int .i64 0, .int .i64 0, .int .i64 0] 25)) := Keep.alloc _ _
    have hb := Blk.new w2 25 #[.slice none 0 0, .int .i64 0, .int .i64 0, .int .i64 0, .int .i64 0, .int .i64 0, .int .i64 0, .int .i64 0]
    have HB := Lib.hid hb
    clear hb
    go_wp2_with fail
    (with_reducible refine (G2.out _ (k2.trans ka)).mono ?_)
    rintro e w3 ⟨rfl, k3⟩
    have hb3 := HB.out.keep k3 (by simp)
    have q0 := (hb3.cell 0).trans (show _ = some (Value.slice none 0 0) from rfl)
    have q5 := (hb3.cell 5).trans (show _ = some (Value.int .i64 0) from rfl)
    have hl3 := hb3.lt
    have kb : Keep [] w3 (w3.alloc (.cells #[.slice none 0 0, .int .i64 0, .int .i64 0, .int .i64 0, .int .i64 0, .int .i64 0, .int .i64 0, .int .i64 0] 25)) := Keep.alloc _ _
    clear hb3
    go_wp2_with fail
    (with_reducible refine (hA _).mono ?_)
    rintro e w4 ⟨rfl, k4⟩
    go_wp2
    go_ret
    exact ⟨rfl, (((k2.trans ka).trans k3).trans kb).trans k4⟩
  have g1 := h1.mono (fun e w' hh => hh.elim (fun x => x.2) (fun x => absurd hP x.1))
  have g2 := fun V hk => (h2 V hk).mono (fun e w' hh => hh.elim (fun x => x.2) (fun x => absurd hP x.1))
  have hsc := fun (V : World) (A1 A2 : Option Addr) (c1 c2 : Nat) (x1 : KRow V A1 (W 8) c1 (fun i => pm (W (9 + i))) (fun i => pf (W (9 + i)))) (x2 : KRow V A2 (W 8) c2 (fun i => pm (W (9 + i))) (fun i => pf (W (9 + i)))) => sameConfig_any V A1 A2 (W 8) c1 (W 8) c2 _ _ _ _ (W 4 : Nat) (W 5 : Nat) (W 6 : Nat) (W 7 : Nat) (W 1 : Nat) (W 2 : Nat) (W 3 : Nat) (W 4 : Nat) (W 5 : Nat) (W 6 : Nat) (W 7 : Nat) (W 1 : Nat) (W 2 : Nat) (W 3 : Nat) x1 x2
  rw [show decide (SameC (W 8) (fun i => pm (W (9 + i))) (fun i => pf (W (9 + i))) (W 4 : Nat) (W 5 : Nat) (W 6 : Nat) (W 7 : Nat) (W 1 : Nat) (W 2 : Nat) (W 3 : Nat) (W 8) (fun i => pm (W (9 + i))) (fun i => pf (W (9 + i))) (W 4 : Nat) (W 5 : Nat) (W 6 : Nat) (W 7 : Nat) (W 1 : Nat) (W 2 : Nat) (W 3 : Nat)) = true from decide_eq_true ⟨⟨rfl, rfl, rfl, rfl⟩, rfl, rfl, rfl, SameKs.refl _ _ _⟩] at hsc
  obtain ⟨mm, hmm⟩ : ∃ mm : Nat → Nat, (fun i => pm (W (9 + i))) = mm := ⟨_, rfl⟩
  obtain ⟨ff, hff⟩ : ∃ ff : Nat → Nat → Int, (fun i => pf (W (9 + i))) = ff := ⟨_, rfl⟩
  rw [hmm, hff] at g1 g2 hsc
  have HSC := Lib.hid hsc
  have G2 := Lib.hid g2
  clear h1 h2 g2 hP h hsc hmm hff
  generalize W 8 = z8 at *
  generalize W 1 = z1 at *
  generalize W 2 = z2 at *
  generalize W 3 = z3 at *
  generalize W 4 = z4 at *
  generalize W 5 = z5 at *
  generalize W 6 = z6 at *
  generalize W 7 = z7 at *
  go_enter Try.func4, Try.ntmps4
  go_wp2_with fail
  (with_reducible refine g1.mono ?_)
  rintro e w2 ⟨A1, cp1, rfl, hK1, k2⟩
  have ka : Keep [] w2 (w2.alloc (.cells #[.slice A1 z8 cp1, .int .i64 z4, .int .i64 z5, .int .i64 z6, .int .i64 z7, .int .i64 z1, .int .i64 z2, .int .i64 z3] 25)) := Keep.alloc _ _
  have hb := Blk.new w2 25 #[.slice A1 z8 cp1, .int .i64 z4, .int .i64 z5, .int .i64 z6, .int .i64 z7, .int .i64 z1, .int .i64 z2, .int .i64 z3]
  have HB := Lib.hid hb
  have HK1 := Lib.hid hK1
  clear hb hK1 g1
  go_wp2_with fail
  (with_reducible refine (G2.out _ (k2.trans ka)).mono ?_)
  rintro e w3 ⟨A2, cp2, rfl, hK2, k3⟩
  have hb3 := HB.out.keep k3 (by simp)
  have q0 := (hb3.cell 0).trans (show _ = some (Value.slice A1 z8 cp1) from rfl)
  have q1 := (hb3.cell 1).trans (show _ = some (Value.int .i64 z4) from rfl)
  have q2 := (hb3.cell 2).trans (show _ = some (Value.int .i64 z5) from rfl)
  have q3 := (hb3.cell 3).trans (show _ = some (Value.int .i64 z6) from rfl)
  have q4 := (hb3.cell 4).trans (show _ = some (Value.int .i64 z7) from rfl)
  have q5 := (hb3.cell 5).trans (show _ = some (Value.int .i64 z1) from rfl)
  have q6 := (hb3.cell 6).trans (show _ = some (Value.int .i64 z2) from rfl)
  have q7 := (hb3.cell 7).trans (show _ = some (Value.int .i64 z3) from rfl)
  have hl3 := hb3.lt
  have kb : Keep [] w3 (w3.alloc (.cells #[.slice A2 z8 cp2, .int .i64 z4, .int .i64 z5, .int .i64 z6, .int .i64 z7, .int .i64 z1, .int .i64 z2, .int .i64 z3] 25)) := Keep.alloc _ _
  have hs := HSC.out _ A1 A2 cp1 cp2 (((HK1.out.keep ka).keep k3).keep kb) (hK2.keep kb)
  clear hb3 hK2
  go_wp2_with fail
  (with_reducible refine hs.mono ?_)
  rintro e w4 ⟨rfl, k4⟩
  go_wp2_with fail
  (with_reducible refine (hA _).mono ?_)
  rintro e w5 ⟨rfl, k5⟩
  go_wp2
  go_ret
  exact ⟨rfl, ((((k2.trans ka).trans k3).trans kb).trans k4).trans k5⟩
end Go.Proofs.Ytihfejbkojhkaaa
