/-
  HandleMoves walked. No conditions but that the arguments are numbers.
-/
import Derived.Test.YtejepiobdkbgpaaWH1
namespace Go.Proofs.Ytejepiobdkbgpaa
open Go.RowKit Go.Flo
set_option maxRecDepth 100000

/-- The first k slots taken for f 0, f 1, .. -/
def objS (f : Nat → Int) (k : Nat) : Nat → Slt := fun j => if j < k then ⟨f j, 0, true⟩ else ⟨0, 0, false⟩
def cntF (f : Nat → Int) (fr : Int) : Nat → Nat
  | 0 => 0
  | k + 1 => if (f k == fr) = true then cntF f fr k + 1 else cntF f fr k
def hasF (f : Nat → Int) (tz : Int) : Nat → Bool
  | 0 => false
  | k + 1 => hasF f tz k || (f k == tz)
theorem cnt_le (f : Nat → Int) (fr : Int) (k : Nat) : cntF f fr k ≤ k := by
  induction k with
  | zero => exact Nat.le_refl _
  | succ k ih => unfold cntF; split <;> omega
theorem has_no {f : Nat → Int} {tz : Int} {K : Nat} (h : hasF f tz K = false) : ∀ j, j < 64 → (objS f K j).t = true → (objS f K j).o ≠ tz := by
  have key : ∀ K, hasF f tz K = false → ∀ j, j < K → f j ≠ tz := by
    intro K
    induction K with
    | zero => intro _ j hj; omega
    | succ K ih =>
      intro h j hj
      unfold hasF at h
      rw [Bool.or_eq_false_iff] at h
      rcases (show j < K ∨ j = K by omega) with h1 | rfl
      · exact ih h.1 j h1
      · intro e; rw [e] at h; simp at h
  intro j _ ht
  unfold objS at ht ⊢
  by_cases hj : j < K
  · rw [if_pos hj]
    exact key K h j hj
  · rw [if_neg hj] at ht
    cases ht
theorem obj_zero (f : Nat → Int) : objS f 0 = noS := by
  funext j
  simp [objS, noS]
theorem obj_lf {f : Nat → Int} {k : Nat} (h : k ≤ 64) : IsLf (objS f k) k := ⟨h, fun i hi => by simp [objS, hi], fun _ => by simp [objS]⟩
theorem obj_put (f : Nat → Int) (k : Nat) : putS (objS f k) k (f k) = objS f (k + 1) := by
  funext j
  unfold putS objS
  by_cases h : j = k
  · subst h; simp
  · have : j < k + 1 ↔ j < k := by omega
    simp [h, this]
theorem obj_age (f : Nat → Int) (k j : Nat) : (objS f k j).a = 0 := by
  unfold objS
  split <;> rfl
theorem obj_cnt {f : Nat → Int} {fr : Int} {K : Nat} (hK : K ≤ 64) : mvN (objS f K) fr 64 = cntF f fr K := by
  have key : ∀ n, mvN (objS f K) fr n = cntF f fr (min n K) := by
    intro n
    induction n with
    | zero => simp [mvN, cntF]
    | succ n ih =>
      by_cases hn : n < K
      · have e1 : min (n + 1) K = n + 1 := by omega
        have e2 : min n K = n := by omega
        rw [e1]
        rw [e2] at ih
        unfold mvN cntF
        rw [ih]
        simp [objS, hn]
      · have e1 : min (n + 1) K = min n K := by omega
        rw [e1, ← ih]
        exact mvN_no (by simp [objS, hn])
  rw [key 64, Nat.min_eq_right hK]
theorem mv_back {s : Nat → Slt} {fr tz : Int} (hno : ∀ j, j < 64 → (s j).t = true → (s j).o ≠ tz) (hne : ¬ fr = tz) : mvN (mvS s fr tz 64) tz 64 = mvN s fr 64 := by
  have key : ∀ n, n ≤ 64 → mvN (mvS s fr tz 64) tz n = mvN s fr n := by
    intro n
    induction n with
    | zero => intro _; rfl
    | succ n ih =>
      intro hn
      by_cases h : (s n).t = true ∧ (s n).o = fr
      · rw [mvN_yes h, mvN_yes (by unfold mvS; rw [if_pos ⟨by omega, h⟩]; exact ⟨rfl, rfl⟩), ih (by omega)]
      · rw [mvN_no h, mvN_no (by
          unfold mvS
          rw [if_neg (fun e => h e.2)]
          exact fun e => hno n (by omega) e.1 e.2), ih (by omega)]
  exact key 64 (Nat.le_refl _)
theorem mv_obj {f : Nat → Int} {fr tz : Int} {K j : Nat} (hj : j < K) (h64 : j < 64) : (mvS (objS f K) fr tz 64 j).t = true ∧ (mvS (objS f K) fr tz 64 j).a = 0 ∧ (mvS (objS f K) fr tz 64 j).o = if (f j == fr) = true then tz else f j := by
  have e : objS f K j = ⟨f j, 0, true⟩ := by simp [objS, hj]
  unfold mvS
  rw [e]
  by_cases h : f j = fr
  · simp [h, h64]
  · simp [h]

def MoRel1 (w : World) (g m : Nat) (f : Nat → Int) (fr tz : Int) (x y z : Value) (wr : World) : Prop := ∃ k : Nat, k ≤ m ∧ k ≤ 64 ∧ x = .int .i64 (cntF f fr k : Nat) ∧ y = .bool (hasF f tz k) ∧ z = .int .i64 k ∧ Tab wr g (objS f k) ∧ Keep [] w wr
def MoRel2 (w : World) (g : Nat) (f : Nat → Int) (fr tz : Int) (K : Nat) (x : Value) (wr : World) : Prop := ∃ j : Nat, j ≤ K ∧ x = .int .i64 j ∧ Tab wr g (mvS (objS f K) fr tz 64) ∧ Keep [] w wr

set_option maxHeartbeats 4000000 in
theorem walk_hmoves (w : World) (A : Option Addr) (m c : Nat) (f : Nat → Int) (h : Ints w A m c f) (fr tz : Int) : Calls Try.prog 7 #[.slice A m c, .int .i64 fr, .int .i64 tz] w fun e w' => e = .returned (.bool true) ∧ Keep [] w w' := by
  have HI := Lib.hid h
  have hcm := h.nc
  have hcc := h.cap
  clear h
  have hn := new_any w
  go_enter Try.func7, Try.ntmps7
  go_wp2_with fail
  (with_reducible refine hn.mono ?_)
  rintro e w1 ⟨g, rfl, t1, hg, k1⟩
  have T1 := Lib.hid t1
  have K1 := Lib.hid k1
  clear hn t1 k1
  go_wp2_with fail
  go_loopw [8, 9, 21] (fun x y z wr => MoRel1 w g m f fr tz x y z wr) (fun _ _ z _ => m - (intOf z).toNat)
  case atStart => exact ⟨0, by omega, by omega, rfl, rfl, rfl, by rw [obj_zero]; exact T1.out, K1.out⟩
  case round =>
  clear T1 K1
  obtain ⟨K, hK, hK64, rfl, rfl, rfl, ht, hkp⟩ := hrel
  have hcl := cnt_le f fr K
  by_cases hlt0 : K < m
  case neg =>
    obtain rfl : m = K := by omega

    have hm := move_any ht fr tz
    rw [obj_cnt hK64] at hm
    generalize wr = wo at *
    have HK0 := Lib.hid hkp
    clear ht hkp
    go_wp2_with fail
    (with_reducible refine hm.mono ?_)
    rintro e w2 ⟨rfl, t2, k2⟩
    have HK2 := Lib.hid (And.intro t2 (keep_since HK0.out k2 (by simp; omega)))
    clear hm t2 k2 HK0 hlt0
    go_wp2_with fail
    go_loopw [56] (fun x wr => MoRel2 w g f fr tz m x wr) (fun x _ => m - (intOf x).toNat)
    case atStart => exact ⟨0, by omega, rfl, HK2.out.1, HK2.out.2⟩
    case round =>
      clear HK2
      obtain ⟨j, hj, rfl, ht, hkp⟩ := hrel
      by_cases hlt : j < m
      case neg =>

        have HKx := Lib.hid hkp
        clear hkp
        cases h5 : (fr == tz)
        case true =>
          have h5' : fr = tz := by simpa using h5
          clear h5
          subst h5'
          have ha := awake13_any wr
          clear ht
          go_wp2_with fail
          (with_reducible refine ha.mono ?_)
          rintro e w5 ⟨rfl, k5⟩
          go_wp2_with fail
          go_ret
          exact ⟨rfl, HKx.out.trans k5⟩
        case false =>
          have h5' : ¬ fr = tz := by simpa using h5
          cases h6 : hasF f tz m
          case true =>
            have ha := awake13_any wr
            clear ht
            go_wp2_with fail
            (with_reducible refine ha.mono ?_)
            rintro e w5 ⟨rfl, k5⟩
            go_wp2_with fail
            go_ret
            exact ⟨rfl, HKx.out.trans k5⟩
          case false =>
            have hm2 := move_any ht tz fr
            rw [mv_back (has_no h6) h5', obj_cnt hK64] at hm2
            clear ht
            go_wp2_with fail
            (with_reducible refine hm2.mono ?_)
            rintro e w3 ⟨rfl, t3, k3⟩
            have ha := awake13_any w3
            have HK4 := Lib.hid (keep_since HKx.out k3 (by simp; omega))
            clear hm2 t3 k3
            go_wp2_with fail
            (with_reducible refine ha.mono ?_)
            rintro e w5 ⟨rfl, k5⟩
            go_wp2_with fail
            go_ret
            exact ⟨rfl, HK4.out.trans k5⟩
      by_cases h64 : j < 64
      case neg =>
        obtain ⟨b, o, he, hb, hc⟩ := (HI.out.keep hkp).cells (by omega); cases he
        have cj := hc j hlt
        clear hc hb
        have h64' : (j : Int) ≥ 64 := by omega

        have HKx := Lib.hid hkp
        clear hkp
        cases h5 : (fr == tz)
        case true =>
          have h5' : fr = tz := by simpa using h5
          clear h5
          subst h5'
          have ha := awake13_any wr
          clear ht
          go_wp2_with fail
          (with_reducible refine ha.mono ?_)
          rintro e w5 ⟨rfl, k5⟩
          go_wp2_with fail
          go_ret
          exact ⟨rfl, HKx.out.trans k5⟩
        case false =>
          have h5' : ¬ fr = tz := by simpa using h5
          cases h6 : hasF f tz m
          case true =>
            have ha := awake13_any wr
            clear ht
            go_wp2_with fail
            (with_reducible refine ha.mono ?_)
            rintro e w5 ⟨rfl, k5⟩
            go_wp2_with fail
            go_ret
            exact ⟨rfl, HKx.out.trans k5⟩
          case false =>
            have hm2 := move_any ht tz fr
            rw [mv_back (has_no h6) h5', obj_cnt hK64] at hm2
            clear ht
            go_wp2_with fail
            (with_reducible refine hm2.mono ?_)
            rintro e w3 ⟨rfl, t3, k3⟩
            have ha := awake13_any w3
            have HK4 := Lib.hid (keep_since HKx.out k3 (by simp; omega))
            clear hm2 t3 k3
            go_wp2_with fail
            (with_reducible refine ha.mono ?_)
            rintro e w5 ⟨rfl, k5⟩
            go_wp2_with fail
            go_ret
            exact ⟨rfl, HK4.out.trans k5⟩
      obtain ⟨b, o, he, hb, hc⟩ := (HI.out.keep hkp).cells (by omega); cases he
      have cj := hc j hlt
      clear hc hb
      have h64' : ¬ (j : Int) ≥ 64 := by omega
      have hjK : j < m := by omega
      have hg2 := get_yes ht (h := j) (k := j) ⟨h64, (mv_obj hjK h64).1, by rw [(mv_obj hjK h64).2.1]; simp⟩ (by omega)
      rw [(mv_obj hjK h64).2.2] at hg2
      have HH := Lib.hid (And.intro ht hkp)
      clear ht hkp
      generalize f j = y at *
      cases h1 : (y == fr)
      case true =>
        rw [h1] at hg2
        rw [if_pos rfl] at hg2
        go_wp2_with fail
        (with_reducible refine hg2.mono ?_)
        rintro e w3 ⟨rfl, rfl⟩
        clear hg2
        go_wp2_with fail
        go_roundw
        case rel => exact ⟨j + 1, by omega, by go_num, HH.out.1, HH.out.2⟩
        case measure => simp [intOf]; omega
      case false =>
        rw [h1] at hg2
        rw [if_neg (by simp)] at hg2
        go_wp2_with fail
        (with_reducible refine hg2.mono ?_)
        rintro e w3 ⟨rfl, rfl⟩
        clear hg2
        go_wp2_with fail
        go_roundw
        case rel => exact ⟨j + 1, by omega, by go_num, HH.out.1, HH.out.2⟩
        case measure => simp [intOf]; omega
  by_cases h640 : K < 64
  case neg =>
    obtain ⟨b0, o0, rfl, hb0, hc0⟩ := (HI.out.keep hkp).cells (by omega)
    have cj0 := hc0 K hlt0
    clear hc0 hb0
    have h640' : (K : Int) ≥ 64 := by omega
    have hKe : K = 64 := by omega
    have HKe := Lib.hid hKe
    clear hKe

    have hm := move_any ht fr tz
    rw [obj_cnt hK64] at hm
    generalize wr = wo at *
    have HK0 := Lib.hid hkp
    clear ht hkp
    go_wp2_with fail
    (with_reducible refine hm.mono ?_)
    rintro e w2 ⟨rfl, t2, k2⟩
    have HK2 := Lib.hid (And.intro t2 (keep_since HK0.out k2 (by simp; omega)))
    clear hm t2 k2 HK0 h640 h640' cj0
    go_wp2_with fail
    go_loopw [56] (fun x wr => MoRel2 w g f fr tz K x wr) (fun x _ => m - (intOf x).toNat)
    case atStart => exact ⟨0, by omega, rfl, HK2.out.1, HK2.out.2⟩
    case round =>
      clear HK2
      obtain ⟨j, hj, rfl, ht, hkp⟩ := hrel
      by_cases hlt : j < m
      case neg =>

        have HKx := Lib.hid hkp
        clear hkp
        cases h5 : (fr == tz)
        case true =>
          have h5' : fr = tz := by simpa using h5
          clear h5
          subst h5'
          have ha := awake13_any wr
          clear ht
          go_wp2_with fail
          (with_reducible refine ha.mono ?_)
          rintro e w5 ⟨rfl, k5⟩
          go_wp2_with fail
          go_ret
          exact ⟨rfl, HKx.out.trans k5⟩
        case false =>
          have h5' : ¬ fr = tz := by simpa using h5
          cases h6 : hasF f tz K
          case true =>
            have ha := awake13_any wr
            clear ht
            go_wp2_with fail
            (with_reducible refine ha.mono ?_)
            rintro e w5 ⟨rfl, k5⟩
            go_wp2_with fail
            go_ret
            exact ⟨rfl, HKx.out.trans k5⟩
          case false =>
            have hm2 := move_any ht tz fr
            rw [mv_back (has_no h6) h5', obj_cnt hK64] at hm2
            clear ht
            go_wp2_with fail
            (with_reducible refine hm2.mono ?_)
            rintro e w3 ⟨rfl, t3, k3⟩
            have ha := awake13_any w3
            have HK4 := Lib.hid (keep_since HKx.out k3 (by simp; omega))
            clear hm2 t3 k3
            go_wp2_with fail
            (with_reducible refine ha.mono ?_)
            rintro e w5 ⟨rfl, k5⟩
            go_wp2_with fail
            go_ret
            exact ⟨rfl, HK4.out.trans k5⟩
      by_cases h64 : j < 64
      case neg =>
        obtain ⟨b, o, he, hb, hc⟩ := (HI.out.keep hkp).cells (by omega); cases he
        have cj := hc j hlt
        clear hc hb
        have h64' : (j : Int) ≥ 64 := by omega

        have HKx := Lib.hid hkp
        clear hkp
        cases h5 : (fr == tz)
        case true =>
          have h5' : fr = tz := by simpa using h5
          clear h5
          subst h5'
          have ha := awake13_any wr
          clear ht
          go_wp2_with fail
          (with_reducible refine ha.mono ?_)
          rintro e w5 ⟨rfl, k5⟩
          go_wp2_with fail
          go_ret
          exact ⟨rfl, HKx.out.trans k5⟩
        case false =>
          have h5' : ¬ fr = tz := by simpa using h5
          cases h6 : hasF f tz K
          case true =>
            have ha := awake13_any wr
            clear ht
            go_wp2_with fail
            (with_reducible refine ha.mono ?_)
            rintro e w5 ⟨rfl, k5⟩
            go_wp2_with fail
            go_ret
            exact ⟨rfl, HKx.out.trans k5⟩
          case false =>
            have hm2 := move_any ht tz fr
            rw [mv_back (has_no h6) h5', obj_cnt hK64] at hm2
            clear ht
            go_wp2_with fail
            (with_reducible refine hm2.mono ?_)
            rintro e w3 ⟨rfl, t3, k3⟩
            have ha := awake13_any w3
            have HK4 := Lib.hid (keep_since HKx.out k3 (by simp; omega))
            clear hm2 t3 k3
            go_wp2_with fail
            (with_reducible refine ha.mono ?_)
            rintro e w5 ⟨rfl, k5⟩
            go_wp2_with fail
            go_ret
            exact ⟨rfl, HK4.out.trans k5⟩
      obtain ⟨b, o, he, hb, hc⟩ := (HI.out.keep hkp).cells (by omega); cases he
      have cj := hc j hlt
      clear hc hb
      have h64' : ¬ (j : Int) ≥ 64 := by omega
      have hjK : j < K := by have := HKe.out; omega
      have hg2 := get_yes ht (h := j) (k := j) ⟨h64, (mv_obj hjK h64).1, by rw [(mv_obj hjK h64).2.1]; simp⟩ (by omega)
      rw [(mv_obj hjK h64).2.2] at hg2
      have HH := Lib.hid (And.intro ht hkp)
      clear ht hkp
      generalize f j = y at *
      cases h1 : (y == fr)
      case true =>
        rw [h1] at hg2
        rw [if_pos rfl] at hg2
        go_wp2_with fail
        (with_reducible refine hg2.mono ?_)
        rintro e w3 ⟨rfl, rfl⟩
        clear hg2
        go_wp2_with fail
        go_roundw
        case rel => exact ⟨j + 1, by omega, by go_num, HH.out.1, HH.out.2⟩
        case measure => simp [intOf]; omega
      case false =>
        rw [h1] at hg2
        rw [if_neg (by simp)] at hg2
        go_wp2_with fail
        (with_reducible refine hg2.mono ?_)
        rintro e w3 ⟨rfl, rfl⟩
        clear hg2
        go_wp2_with fail
        go_roundw
        case rel => exact ⟨j + 1, by omega, by go_num, HH.out.1, HH.out.2⟩
        case measure => simp [intOf]; omega
  obtain ⟨b, o, rfl, hb, hc⟩ := (HI.out.keep hkp).cells (by omega)
  have cj := hc K hlt0
  clear hc hb
  have h640' : ¬ (K : Int) ≥ 64 := by omega
  have hp := put_at ht (obj_lf (by omega)) h640 (by rw [obj_age]; omega) (f K) K (by rw [obj_age]; simp)
  rw [obj_put] at hp
  have HC := Lib.hid (show cntF f fr (K + 1) = if (f K == fr) = true then cntF f fr K + 1 else cntF f fr K from rfl)
  have HF := Lib.hid (show hasF f tz (K + 1) = (hasF f tz K || (f K == tz)) from rfl)
  have HT := Lib.hid hkp
  clear ht hkp
  generalize f K = y at *
  generalize cntF f fr K = C at *
  cases h1 : (y == fr) <;> cases h2 : (y == tz) <;> cases h3 : hasF f tz K
  all_goals
    rw [h1] at HC
    rw [h2, h3] at HF
    go_wp2_with fail
    (with_reducible refine hp.mono ?_)
    rintro e w2 ⟨rfl, t2, k2⟩
    have HH := Lib.hid (And.intro t2 (keep_since HT.out k2 (by simp; omega)))
    clear hp t2 k2
    go_wp2_with fail
    go_roundw
    case rel => exact ⟨K + 1, by omega, by omega, by rw [HC.out]; first | rfl | (simp; go_num) | go_num, by rw [HF.out]; rfl, by go_num, HH.out.1, HH.out.2⟩
    case measure => simp [intOf]; omega
end Go.Proofs.Ytejepiobdkbgpaa
