/-
  HandleLeast walked. No conditions but that the arguments are numbers.
-/
import Derived.Test.YtejepiobdkbgpaaWH1
namespace Go.Proofs.Ytejepiobdkbgpaa
open Go.RowKit Go.Flo
set_option maxRecDepth 100000

/-- The first n slots: those of D dropped, of these those below i taken anew. -/
def backS (n : Nat) (D : Nat → Bool) (i : Nat) : Nat → Slt := fun j => if j < n then (if D j = true then (if j < i then ⟨9, 1, true⟩ else ⟨0, 1, false⟩) else ⟨j, 0, true⟩) else ⟨0, 0, false⟩
theorem back_fill (n : Nat) : fillS n = backS n (fun _ => false) 0 := by
  funext j
  simp [backS, fillS]
theorem back_at {n d : Nat} {D : Nat → Bool} (h : d < n) (hd : D d = false) (i : Nat) : backS n D i d = ⟨d, 0, true⟩ := by simp [backS, h, hd]
theorem back_at2 {n d : Nat} {D : Nat → Bool} (h : d < n) (hd : D d = true) : backS n D d d = ⟨0, 1, false⟩ := by simp [backS, h, hd]
theorem back_drop {n d : Nat} {D : Nat → Bool} (h : d < n) (hd : D d = false) : dropS (backS n D 0) d = backS n (fun j => if j = d then true else D j) 0 := by
  funext j
  unfold dropS
  rw [back_at h hd]
  by_cases hj : j = d
  · subst hj; simp [backS, h]
  · simp [backS, hj]
theorem back_yes {n i : Nat} {D : Nat → Bool} (h : i < n) (hd : D i = true) : putS (backS n D i) i 9 = backS n D (i + 1) := by
  funext j
  unfold putS
  rw [back_at2 h hd]
  by_cases hj : j = i
  · subst hj; simp [backS, h, hd]
  · have : j < i + 1 ↔ j < i := by omega
    simp [backS, hj, this]
theorem back_no {n i : Nat} {D : Nat → Bool} (hd : D i = false) : backS n D i = backS n D (i + 1) := by
  funext j
  by_cases hj : j = i
  · subst hj; simp [backS, hd]
  · have : j < i + 1 ↔ j < i := by omega
    simp [backS, this]
theorem back_age {n i : Nat} {D : Nat → Bool} (h : i < n) (hd : D i = true) : (backS n D i i).a = 1 := by rw [back_at2 h hd]
theorem back_tk {n i j : Nat} {D : Nat → Bool} (h : j < n) (hj : j < i) : (backS n D i j).t = true := by
  unfold backS
  rw [if_pos h]
  split
  · simp [hj]
  · rfl
theorem back_lf {n i : Nat} {D : Nat → Bool} (hn : n ≤ 64) (h : i < n) (hd : D i = true) : IsLf (backS n D i) i :=
  ⟨by omega, fun j hj => back_tk (by omega) hj, fun _ => by rw [back_at2 h hd]⟩
theorem back_end {n : Nat} {D : Nat → Bool} (hn : n ≤ 64) : IsLf (backS n D n) n :=
  ⟨by omega, fun j hj => back_tk hj hj, fun _ => by simp [backS]⟩
theorem back_end_age {n : Nat} {D : Nat → Bool} : (backS n D n n).a = 0 := by simp [backS]

/-- A row of marks. -/
def mkF (D : Nat → Bool) : Nat → Value := fun j => .int .i64 (if D j = true then 1 else 0)

def LeRel1 (w : World) (g n : Nat) (x : Value) (wr : World) : Prop := ∃ k : Nat, k ≤ n ∧ x = .int .i64 k ∧ Tab wr g (fillS k) ∧ Keep [] w wr
def LeRel2 (w : World) (g q n m : Nat) (x : Value) (wr : World) : Prop := ∃ (k : Nat) (D : Nat → Bool), k ≤ m ∧ x = .int .i64 k ∧ Tab wr g (backS n D 0) ∧ Row wr 3 q n n (mkF D) ∧ Keep [] w wr
def LeRel3 (w : World) (g q n : Nat) (D : Nat → Bool) (x : Value) (wr : World) : Prop := ∃ k : Nat, k ≤ n ∧ x = .int .i64 k ∧ Tab wr g (backS n D k) ∧ Row wr 3 q n n (mkF D) ∧ Keep [] w wr

theorem mk_ints13 (n : Nat) (x : Int) (hx : x = n) (hn : n ≤ 65536) (W : World) : (Instr.makeSlice 30 (.int .i64 x) (.int .i64 x)).run Try.prog W = .ok (.slice (some ⟨W.heap.size, 0, none⟩) n n) (W.alloc (.cells (madeCells (Value.int .i64 0).cells (n * 1)) 3)) := by
  subst hx
  obtain ⟨i, hi, h1, h2, h3⟩ := info_of intparts
  have := run_make (P := Try.prog) W 30 3 i (.int .i64 0) Try.underlying30 hi h1 .i64 .i64 (n : Nat) (n : Nat) (by omega) (by omega) (by rw [h3]; omega) (by omega)
  rw [h2] at this
  exact this

set_option maxHeartbeats 4000000 in
theorem walk_hleast (w : World) (x : Int) (A : Option Addr) (m c : Nat) (f : Nat → Int) (h : Ints w A m c f) : Calls Try.prog 8 #[.int .i64 x, .slice A m c] w fun e w' => e = .returned (.bool true) ∧ Keep [] w w' := by
  have HI := Lib.hid h
  have hcm := h.nc
  have hcc := h.cap
  clear h
  have hn := new_any w
  obtain ⟨u, P, e1, e2, e3, e4, e5, e6⟩ := mod_num x 60 (by omega) (by omega)
  obtain ⟨n, hn2⟩ : ∃ n : Nat, P + 2 = n := ⟨_, rfl⟩
  have hni : (P : Int) + 2 = n := by omega
  have hn60 : n < 62 := by omega
  have hn1 : 2 ≤ n := by omega
  clear hn2
  go_enter Try.func8, Try.ntmps8
  go_wp2_with fail
  (with_reducible refine hn.mono ?_)
  rintro e w1 ⟨g, rfl, t1, hg, k1⟩
  have T1 := Lib.hid t1
  have K1 := Lib.hid k1
  clear hn t1 k1
  go_wp2_with fail
  clear e1 e2 e3 e4 e5 e6
  clear hni
  go_loopw [22] (fun x wr => LeRel1 w g n x wr) (fun x _ => n - (intOf x).toNat)
  case atStart => exact ⟨0, by omega, rfl, by rw [fill_zero]; exact T1.out, K1.out⟩
  case round =>
  obtain ⟨k, hk, rfl, ht, hkp⟩ := hrel
  by_cases hlt : k < n
  · have hp := put_at ht (fill_lf (by omega)) (by omega) (by rw [fill_age]; omega) k k (by rw [fill_age]; simp)
    rw [fill_put] at hp
    have hkn : (k : Int) < (n : Int) := by omega
    clear ht
    go_wp2_with fail
    (with_reducible refine hp.mono ?_)
    rintro e w2 ⟨rfl, t2, k2⟩
    have HH := Lib.hid (And.intro t2 (keep_since hkp k2 (by simp; omega)))
    clear hp t2 k2 hkp
    go_wp2_with fail
    go_roundw
    case rel => exact ⟨k + 1, by omega, by go_num, HH.out.1, HH.out.2⟩
    case measure => simp [intOf]; omega
  obtain rfl : n = k := by omega
  have hkn : ¬ (n : Int) < (n : Int) := by omega
  generalize wr = wo at *
  have HN := Lib.hid (And.intro (ht.keep (Keep.alloc (own := []) wo (.cells (madeCells #[Value.int .i64 0] n) 3)) (by simp)) (And.intro (show Row (wo.alloc (.cells (madeCells #[Value.int .i64 0] n) 3)) 3 wo.heap.size n n (mkF (fun _ => false)) from by
    have := Row.made wo 3 (.int .i64 0) rfl n (by unfold maxLen; omega)
    rw [Nat.mul_one] at this
    exact this) (hkp.trans (Keep.alloc wo (.cells (madeCells #[Value.int .i64 0] n) 3)))))
  have hgw := ht.lt
  have hwo := hkp.size
  clear ht hkp T1 K1
  have hmk := mk_ints13 n (n : Int) rfl (by omega) wo
  rw [Nat.mul_one] at hmk
  change _ = Result.ok _ (wo.alloc (.cells (madeCells #[Value.int .i64 0] n) 3)) at hmk
  generalize wo.alloc (.cells (madeCells #[Value.int .i64 0] n) 3) = W at *
  generalize wo.heap.size = q at *
  go_wp2_with fail
  go_loopw [33] (fun x wr => LeRel2 w g q n m x wr) (fun x _ => m - (intOf x).toNat)
  case atStart => exact ⟨0, fun _ => false, by omega, rfl, by rw [← back_fill]; exact HN.out.1, HN.out.2.1, HN.out.2.2⟩
  case round =>
  clear HN hmk
  obtain ⟨k, D, hk, rfl, ht, hr, hkp⟩ := hrel
  by_cases hlt : k < m
  case neg =>
    generalize wr = wo at *
    have HK2 := Lib.hid hkp
    have HT2 := Lib.hid ht
    have HR2 := Lib.hid hr
    clear hkp ht hr
    go_wp2_with fail
    clear hlt
    go_loopw [60] (fun x wr => LeRel3 w g q n D x wr) (fun x _ => n - (intOf x).toNat)
    case atStart => exact ⟨0, by omega, rfl, HT2.out, HR2.out, HK2.out⟩
    case round =>
    clear HK2 HT2 HR2
    obtain ⟨i, hi, rfl, ht, hr, hkp⟩ := hrel
    by_cases hlt3 : i < n
    · have hin : (i : Int) < (n : Int) := by omega
      have ci := hr.cell hlt3
      cases hD : D i with
      | true =>
        have ci' : wr.cell? ⟨q, i, none⟩ = some (.int .i64 1) := by rw [ci]; show some (Value.int .i64 (if D i = true then 1 else 0)) = _; rw [hD]; rfl
        have hp := put_at ht (back_lf (by omega) hlt3 hD) (by omega) (by rw [back_age hlt3 hD]; omega) 9 ((i : Int) + 64) (by rw [back_age hlt3 hD]; omega)
        rw [back_yes hlt3 hD] at hp
        clear ht ci
        go_wp2_with fail
        (with_reducible refine hp.mono ?_)
        rintro e w2 ⟨rfl, t2, k2⟩
        have HH := Lib.hid (And.intro t2 (And.intro (hr.keep k2 (by simp; omega)) (keep_since hkp k2 (by simp; omega))))
        clear hp t2 k2 hkp hr ci'
        go_wp2_with fail
        go_roundw
        case rel => exact ⟨i + 1, by omega, by go_num, HH.out.1, HH.out.2.1, HH.out.2.2⟩
        case measure => simp [intOf]; omega
      | false =>
        have ci' : wr.cell? ⟨q, i, none⟩ = some (.int .i64 0) := by rw [ci]; show some (Value.int .i64 (if D i = true then 1 else 0)) = _; rw [hD]; rfl
        rw [back_no hD] at ht
        have HH := Lib.hid (And.intro ht (And.intro hr hkp))
        clear ht ci hkp hr
        go_wp2_with fail
        go_roundw
        case rel => exact ⟨i + 1, by omega, by go_num, HH.out.1, HH.out.2.1, HH.out.2.2⟩
        case measure => simp [intOf]; omega
    · obtain rfl : n = i := by omega
      have hin : ¬ (n : Int) < (n : Int) := by omega
      have hp := put_at ht (back_end (by omega)) (by omega) (by rw [back_end_age]; omega) 9 ((n : Int)) (by rw [back_end_age]; omega)
      have h64 : ¬ (n : Int) = 64 := by omega
      clear ht hr
      go_wp2_with fail
      (with_reducible refine hp.mono ?_)
      rintro e w3 ⟨rfl, t3, k3⟩
      have HK3 := Lib.hid (keep_since hkp k3 (by simp; omega))
      have ha := awake13_any w3
      clear hp t3 k3 hkp
      go_wp2_with fail
      (with_reducible refine ha.mono ?_)
      rintro e w5 ⟨rfl, k5⟩
      go_wp2_with fail
      go_ret
      exact ⟨rfl, HK3.out.trans k5⟩
  by_cases h40 : k < 40
  case neg =>
    obtain ⟨b, o, rfl, hb, hc⟩ := (HI.out.keep hkp).cells (by omega)
    have cj := hc k hlt
    clear hc hb
    have h40' : (k : Int) ≥ 40 := by omega
    generalize wr = wo at *
    have HK2 := Lib.hid hkp
    have HT2 := Lib.hid ht
    have HR2 := Lib.hid hr
    clear hkp ht hr
    go_wp2_with fail
    clear hlt h40 h40' cj
    go_loopw [60] (fun x wr => LeRel3 w g q n D x wr) (fun x _ => n - (intOf x).toNat)
    case atStart => exact ⟨0, by omega, rfl, HT2.out, HR2.out, HK2.out⟩
    case round =>
    clear HK2 HT2 HR2
    obtain ⟨i, hi, rfl, ht, hr, hkp⟩ := hrel
    by_cases hlt3 : i < n
    · have hin : (i : Int) < (n : Int) := by omega
      have ci := hr.cell hlt3
      cases hD : D i with
      | true =>
        have ci' : wr.cell? ⟨q, i, none⟩ = some (.int .i64 1) := by rw [ci]; show some (Value.int .i64 (if D i = true then 1 else 0)) = _; rw [hD]; rfl
        have hp := put_at ht (back_lf (by omega) hlt3 hD) (by omega) (by rw [back_age hlt3 hD]; omega) 9 ((i : Int) + 64) (by rw [back_age hlt3 hD]; omega)
        rw [back_yes hlt3 hD] at hp
        clear ht ci
        go_wp2_with fail
        (with_reducible refine hp.mono ?_)
        rintro e w2 ⟨rfl, t2, k2⟩
        have HH := Lib.hid (And.intro t2 (And.intro (hr.keep k2 (by simp; omega)) (keep_since hkp k2 (by simp; omega))))
        clear hp t2 k2 hkp hr ci'
        go_wp2_with fail
        go_roundw
        case rel => exact ⟨i + 1, by omega, by go_num, HH.out.1, HH.out.2.1, HH.out.2.2⟩
        case measure => simp [intOf]; omega
      | false =>
        have ci' : wr.cell? ⟨q, i, none⟩ = some (.int .i64 0) := by rw [ci]; show some (Value.int .i64 (if D i = true then 1 else 0)) = _; rw [hD]; rfl
        rw [back_no hD] at ht
        have HH := Lib.hid (And.intro ht (And.intro hr hkp))
        clear ht ci hkp hr
        go_wp2_with fail
        go_roundw
        case rel => exact ⟨i + 1, by omega, by go_num, HH.out.1, HH.out.2.1, HH.out.2.2⟩
        case measure => simp [intOf]; omega
    · obtain rfl : n = i := by omega
      have hin : ¬ (n : Int) < (n : Int) := by omega
      have hp := put_at ht (back_end (by omega)) (by omega) (by rw [back_end_age]; omega) 9 ((n : Int)) (by rw [back_end_age]; omega)
      have h64 : ¬ (n : Int) = 64 := by omega
      clear ht hr
      go_wp2_with fail
      (with_reducible refine hp.mono ?_)
      rintro e w3 ⟨rfl, t3, k3⟩
      have HK3 := Lib.hid (keep_since hkp k3 (by simp; omega))
      have ha := awake13_any w3
      clear hp t3 k3 hkp
      go_wp2_with fail
      (with_reducible refine ha.mono ?_)
      rintro e w5 ⟨rfl, k5⟩
      go_wp2_with fail
      go_ret
      exact ⟨rfl, HK3.out.trans k5⟩
  obtain ⟨b, o, rfl, hb, hc⟩ := (HI.out.keep hkp).cells (by omega)
  have cj := hc k hlt
  clear hc hb
  have h40' : ¬ (k : Int) ≥ 40 := by omega
  obtain ⟨u', d, d1, d2, d3, d4, d5, d6⟩ := mod_num (f k) ((n : Int)) (by omega) (by omega)
  have hdn : d < n := by omega
  have hw2 : IntKind.u64.wrap ((n : Int)) = (n : Int) := by rw [IntKind.wrap_u64]; omega
  have ci := hr.cell hdn
  have hz : ¬ (n : Int) = 0 := by omega
  cases hD : D d with
  | true =>
    have ci' : wr.cell? ⟨q, d, none⟩ = some (.int .i64 1) := by rw [ci]; show some (Value.int .i64 (if D d = true then 1 else 0)) = _; rw [hD]; rfl
    have HH := Lib.hid (And.intro ht (And.intro hr hkp))
    clear ht ci hkp hr
    go_wp2_with fail
    go_roundw
    case rel => exact ⟨k + 1, D, by omega, by go_num, HH.out.1, HH.out.2.1, HH.out.2.2⟩
    case measure => simp [intOf]; omega
  | false =>
    have ci' : wr.cell? ⟨q, d, none⟩ = some (.int .i64 0) := by rw [ci]; show some (Value.int .i64 (if D d = true then 1 else 0)) = _; rw [hD]; rfl
    have hd := drop_yes ht (h := d) (k := d) ⟨by omega, by rw [back_at hdn hD], by rw [back_at hdn hD]; simp⟩ (by omega)
    rw [back_drop hdn hD] at hd
    clear ht ci
    go_wp2_with fail
    (with_reducible refine hd.mono ?_)
    rintro e w2 ⟨rfl, t2, k2⟩
    have hfz := (hr.keep k2 (by simp; omega)).frozen d
    have HH := Lib.hid (And.intro (t2.keep (Keep.setCell (own := [q]) w2 ⟨q, d, none⟩ (by simp) (.int .i64 1)) (by simp; omega)) (And.intro (((hr.keep k2 (by simp; omega)).set_ d (.int .i64 1)).congr (f' := mkF (fun j => if j = d then true else D j)) (fun i hi => by
      show (if i = d then _ else mkF D i) = _
      by_cases hid : i = d
      · subst hid; simp [mkF]
      · simp [mkF, hid])) (keep_since (keep_since hkp k2 (by simp; omega)) (Keep.setCell (own := [q]) w2 ⟨q, d, none⟩ (by simp) (.int .i64 1)) (by simp; omega))))
    have c2 := (hr.keep k2 (by simp; omega)).cell hdn
    clear hd t2 k2 hkp hr ci'
    go_wp2_with fail
    go_roundw
    case rel => exact ⟨k + 1, _, by omega, by go_num, HH.out.1, HH.out.2.1, HH.out.2.2⟩
    case measure => simp [intOf]; omega
end Go.Proofs.Ytejepiobdkbgpaa
