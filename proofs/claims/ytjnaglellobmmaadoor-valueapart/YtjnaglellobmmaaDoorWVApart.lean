/-
  The law on two values' texts, walked. Conditions: what the library's tables hold.
-/
import Derived.Test.YtjnaglellobmmaaDoorVal5
namespace Go.Proofs.YtjnaglellobmmaaDoor
open Go.RowKit Go.Flo
set_option maxRecDepth 100000

theorem rplain_any (K n p q r : Int) (w : World) : Calls Tryd.prog 29 #[.agg #[.int .i64 K, .int .i64 n, .int .u64 p, .int .u64 q, .int .i64 r]] w fun e w' => e = .returned (.agg #[.int .i64 (plainV ⟨K, n, p, q, r⟩).K, .int .i64 (plainV ⟨K, n, p, q, r⟩).n, .int .u64 (plainV ⟨K, n, p, q, r⟩).p, .int .u64 (plainV ⟨K, n, p, q, r⟩).q, .int .i64 (plainV ⟨K, n, p, q, r⟩).r]) ∧ Keep [] w w' := by
  by_cases h1 : K = 1
  · subst h1
    exact rplain1 n p q r w
  by_cases h2 : K = 2
  · subst h2
    exact rplain2 n p q r w
  by_cases h3 : K = 3
  · subst h3
    exact rplain3 n p q r w
  have e : plainV ⟨K, n, p, q, r⟩ = ⟨K, 0, 0, 0, 0⟩ := by
    unfold plainV
    dsimp only
    rw [if_neg h1, if_neg h2, if_neg h3]
  rw [e]
  exact rplainx K h1 h2 h3 n p q r w

/-- One of the two is no value. -/
theorem apart_no (w : World) (K n p q r K' n' p' q' r' : Int) (h : ¬ Kind4 K ∨ (Kind4 K ∧ ¬ Kind4 K')) (hT : Tabs w) :
    Calls Tryd.prog 7 #[.agg #[.int .i64 K, .int .i64 n, .int .u64 p, .int .u64 q, .int .i64 r], .agg #[.int .i64 K', .int .i64 n', .int .u64 p', .int .u64 q', .int .i64 r']] w fun e w' => e = .returned (.bool true) ∧ Keep [] w w' := by
  have ka : Keep [] w ((w.alloc (.cells #[.int .i64 K, .int .i64 n, .int .u64 p, .int .u64 q, .int .i64 r] 24)).alloc (.cells #[.int .i64 K', .int .i64 n', .int .u64 p', .int .u64 q', .int .i64 r'] 24)) := (Keep.alloc _ _).trans (Keep.alloc _ _)
  have hAw := awake10_any _ (hT.keep ka)
  have HK := Lib.hid ka
  clear ka hT
  unfold Kind4 at h
  have hc : K < 0 ∨ (0 ≤ K ∧ 3 < K) ∨ (0 ≤ K ∧ K ≤ 3 ∧ K' < 0) ∨ (0 ≤ K ∧ K ≤ 3 ∧ 0 ≤ K' ∧ 3 < K') := by omega
  clear h
  rcases hc with h | ⟨h, h1⟩ | ⟨h, h1, h2⟩ | ⟨h, h1, h2, h3⟩
  all_goals
    go_enter Tryd.func7, Tryd.ntmps7
    go_wp2_with fail
    (with_reducible refine hAw.mono ?_)
    rintro e w1 ⟨rfl, k1⟩
    go_wp2
    go_ret
    exact ⟨rfl, HK.out.trans k1⟩

set_option maxHeartbeats 4000000 in
theorem apart_yes (w : World) (K n p q r K' n' p' q' r' : Int) (h : Kind4 K) (h' : Kind4 K') (hv : VOk ⟨K, n, p, q, r⟩) (hv' : VOk ⟨K', n', p', q', r'⟩) (hT : Tabs w) :
    Calls Tryd.prog 7 #[.agg #[.int .i64 K, .int .i64 n, .int .u64 p, .int .u64 q, .int .i64 r], .agg #[.int .i64 K', .int .i64 n', .int .u64 p', .int .u64 q', .int .i64 r']] w fun e w' => e = .returned (.bool true) ∧ Keep [] w w' := by
  have K2 : Keep [] w ((w.alloc (.cells #[.int .i64 K, .int .i64 n, .int .u64 p, .int .u64 q, .int .i64 r] 24)).alloc (.cells #[.int .i64 K', .int .i64 n', .int .u64 p', .int .u64 q', .int .i64 r'] 24)) := (Keep.alloc _ _).trans (Keep.alloc _ _)
  have hb := (Blk.new w 24 #[.int .i64 K, .int .i64 n, .int .u64 p, .int .u64 q, .int .i64 r]).keep (Keep.alloc (own := []) (w.alloc (.cells #[.int .i64 K, .int .i64 n, .int .u64 p, .int .u64 q, .int .i64 r] 24)) (.cells #[.int .i64 K', .int .i64 n', .int .u64 p', .int .u64 q', .int .i64 r'] 24)) (by simp)
  have hc := Blk.new (w.alloc (.cells #[.int .i64 K, .int .i64 n, .int .u64 p, .int .u64 q, .int .i64 r] 24)) 24 #[.int .i64 K', .int .i64 n', .int .u64 p', .int .u64 q', .int .i64 r']
  rw [show (w.alloc (.cells #[.int .i64 K, .int .i64 n, .int .u64 p, .int .u64 q, .int .i64 r] 24)).heap.size = w.heap.size + 1 by simp] at hc
  have hX := fun W (hk : Keep [] w W) => vtext_any K n p q r hv W (hT.keep hk)
  have hX' := fun W (hk : Keep [] w W) => vtext_any K' n' p' q' r' hv' W (hT.keep hk)
  have hS := fun W => vsame_any K n p q r K' n' p' q' r' W
  have hS' := fun W => vsame_any K' n' p' q' r' K n p q r W
  rw [sameV_symm ⟨K', n', p', q', r'⟩ ⟨K, n, p, q, r⟩] at hS'
  have hPl := fun W => rplain_any K n p q r W
  have hSp := fun W => vsame_any K n p q r (plainV ⟨K, n, p, q, r⟩).K (plainV ⟨K, n, p, q, r⟩).n (plainV ⟨K, n, p, q, r⟩).p (plainV ⟨K, n, p, q, r⟩).q (plainV ⟨K, n, p, q, r⟩).r W
  have e1 := sameV_plain (v := ⟨K, n, p, q, r⟩) h
  generalize plainV ⟨K, n, p, q, r⟩ = V at *
  obtain ⟨a0, a1, a2, a3, a4⟩ := V
  dsimp only at hPl hSp
  rw [e1] at hSp
  have hAw := fun W (hk : Keep [] w W) => awake10_any W (hT.keep hk)
  have hq : ((textV ⟨K, n, p, q, r⟩).toList == (textV ⟨K', n', p', q', r'⟩).toList) = sameV ⟨K, n, p, q, r⟩ ⟨K', n', p', q', r'⟩ := by
    rw [str_beq, Bool.eq_iff_iff, decide_eq_true_iff]
    exact textV_iff h h' hv hv'
  generalize textV ⟨K, n, p, q, r⟩ = S at *
  generalize textV ⟨K', n', p', q', r'⟩ = S' at *
  generalize sameV ⟨K, n, p, q, r⟩ ⟨K', n', p', q', r'⟩ = B at *
  have hc0 : 0 ≤ K ∧ K ≤ 3 ∧ 0 ≤ K' ∧ K' ≤ 3 := by unfold Kind4 at h h'; omega
  obtain ⟨c0, c1, c2, c3⟩ := hc0
  have y0 := (hb.cell 0).trans (show _ = some (Value.int .i64 K) from rfl)
  have y1 := (hb.cell 1).trans (show _ = some (Value.int .i64 n) from rfl)
  have y2 := (hb.cell 2).trans (show _ = some (Value.int .u64 p) from rfl)
  have y3 := (hb.cell 3).trans (show _ = some (Value.int .u64 q) from rfl)
  have y4 := (hb.cell 4).trans (show _ = some (Value.int .i64 r) from rfl)
  have u0 := (hc.cell 0).trans (show _ = some (Value.int .i64 K') from rfl)
  have u1 := (hc.cell 1).trans (show _ = some (Value.int .i64 n') from rfl)
  have u2 := (hc.cell 2).trans (show _ = some (Value.int .u64 p') from rfl)
  have u3 := (hc.cell 3).trans (show _ = some (Value.int .u64 q') from rfl)
  have u4 := (hc.cell 4).trans (show _ = some (Value.int .i64 r') from rfl)
  have HX := Lib.hid (And.intro hX (And.intro hX' hAw))
  have HK := Lib.hid K2
  clear hb hc hX hX' hAw h h' hv hv' hT K2 e1
  cases B
  all_goals
    go_enter Tryd.func7, Tryd.ntmps7
    go_wp2_with fail
    have K2 := HK.out
    generalize (w.alloc (.cells #[.int .i64 K, .int .i64 n, .int .u64 p, .int .u64 q, .int .i64 r] 24)).alloc (.cells #[.int .i64 K', .int .i64 n', .int .u64 p', .int .u64 q', .int .i64 r'] 24) = wq at *
    have gy0 : ∀ x : KW wq, _ := fun x => KW.cell y0 x
    have gy1 : ∀ x : KW wq, _ := fun x => KW.cell y1 x
    have gy2 : ∀ x : KW wq, _ := fun x => KW.cell y2 x
    have gy3 : ∀ x : KW wq, _ := fun x => KW.cell y3 x
    have gy4 : ∀ x : KW wq, _ := fun x => KW.cell y4 x
    have gu0 : ∀ x : KW wq, _ := fun x => KW.cell u0 x
    have gu1 : ∀ x : KW wq, _ := fun x => KW.cell u1 x
    have gu2 : ∀ x : KW wq, _ := fun x => KW.cell u2 x
    have gu3 : ∀ x : KW wq, _ := fun x => KW.cell u3 x
    have gu4 : ∀ x : KW wq, _ := fun x => KW.cell u4 x
    clear y0 y1 y2 y3 y4 u0 u1 u2 u3 u4
    have G1 := Lib.hid (fun x : KW wq => KW.call (HX.out.1 x.w (K2.trans x.hk)))
    have G2 := Lib.hid (fun x : KW wq => KW.call (HX.out.2.1 x.w (K2.trans x.hk)))
    have G3 := Lib.hid (fun x : KW wq => KW.call (hS x.w))
    have G4 := Lib.hid (fun x : KW wq => KW.call (hS' x.w))
    have G5 := Lib.hid (fun x : KW wq => KW.call (hPl x.w))
    have G6 := Lib.hid (fun x : KW wq => KW.call (hSp x.w))
    have G7 := Lib.hid (fun x : KW wq => KW.call (HX.out.2.2 x.w (K2.trans x.hk)))
    clear hS hS' hPl hSp HK
    refine wp_region_grow (by kernel_rfl) (by kernel_rfl) ?_
    repeat (first | go_big_quiet_skip | (go_big_quiet_want; go_big_quiet_op; first | go_big_quiet_on | go_big_quiet_call ((first | (go_at_call 27; first | with_reducible exact G1.out _ | with_reducible exact G2.out _) | (go_at_call 17; first | with_reducible exact G3.out _ | with_reducible exact G4.out _ | with_reducible exact G6.out _) | (go_at_call 29; with_reducible exact G5.out _) | (go_at_call 19; with_reducible exact G7.out _)))))
    refine wpQuiet_nil ?_
    rintro _ ⟨x, rfl⟩
    go_wp2
    go_ret
    exact ⟨rfl, K2.trans x.hk⟩

theorem walk_vapart (w : World) (K n p q r K' n' p' q' r' : Int) (hv : VOk ⟨K, n, p, q, r⟩) (hv' : VOk ⟨K', n', p', q', r'⟩) (hT : Tabs w) :
    Calls Tryd.prog 7 #[.agg #[.int .i64 K, .int .i64 n, .int .u64 p, .int .u64 q, .int .i64 r], .agg #[.int .i64 K', .int .i64 n', .int .u64 p', .int .u64 q', .int .i64 r']] w fun e w' => e = .returned (.bool true) ∧ Keep [] w w' := by
  by_cases h : Kind4 K
  · by_cases h' : Kind4 K'
    · exact apart_yes w K n p q r K' n' p' q' r' h h' hv hv' hT
    · exact apart_no w K n p q r K' n' p' q' r' (Or.inr ⟨h, h'⟩) hT
  · exact apart_no w K n p q r K' n' p' q' r' (Or.inl h) hT
end Go.Proofs.YtjnaglellobmmaaDoor
