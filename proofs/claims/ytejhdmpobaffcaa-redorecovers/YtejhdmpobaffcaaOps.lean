/-
  Store, Load, Flush, Fence, Evict, Fuse, Len, Steps, Down of a device. No conditions but what a device is, and that few steps are counted.
-/
import Derived.Test.YtejhdmpobaffcaaCrash
namespace Go.Proofs.Ytejhdmpobaffcaa
open Go.RowKit Go.Flo
set_option maxRecDepth 100000

/-- A word is stored. -/
def putS (S : St) (k : Nat) (x : Int) : St := { S with now := fun i => if i = k then x else S.now i }
def storeS (S : St) (x : Int) (v : Int) : St := stepS (if !S.off && hasB S.n x then putS S x.toNat v else S)
def flushS (S : St) (x : Int) : St := if !(stepS S).off && hasB S.n x then takeS (stepS S) (x.toNat / 8) else stepS S
def fenceS (S : St) : St := if (stepS S).off then stepS S else drainS (stepS S)
def lineB (S : St) (l : Int) : Bool := !S.off && (decide (0 ≤ l) && decide (l < (nl S.n : Nat)))
def evictS (S : St) (l : Int) : St := if lineB S l then secureS S l.toNat S.now else S
def fuseS (S : St) (n : Int) : St := { S with fuse := max n 0 }

theorem hasB_true {n : Nat} {x : Int} (h : hasB n x = true) : 0 ≤ x ∧ x < n := by simpa [hasB] using h

theorem len_any (w : World) (L : Loc) (S : St) (h : Dev w L S) :
    Calls Try.prog 63 #[.pointer (some ⟨L.d, 0, none⟩)] w fun e w' => e = .returned (.int .i64 S.n) ∧ w = w' := by
  have c0 := h.c0
  go_enter Try.func63, Try.ntmps63
  go_wp2
  go_ret
  exact ⟨rfl, rfl⟩

theorem steps_any (w : World) (L : Loc) (S : St) (h : Dev w L S) :
    Calls Try.prog 19 #[.pointer (some ⟨L.d, 0, none⟩)] w fun e w' => e = .returned (.int .i64 S.steps) ∧ w = w' := by
  have c4 := h.c4
  go_enter Try.func19, Try.ntmps19
  go_wp2
  go_ret
  exact ⟨rfl, rfl⟩

theorem down_any (w : World) (L : Loc) (S : St) (h : Dev w L S) :
    Calls Try.prog 20 #[.pointer (some ⟨L.d, 0, none⟩)] w fun e w' => e = .returned (.bool S.off) ∧ w = w' := by
  have c6 := h.c6
  cases ho : S.off
  · rw [ho] at c6
    go_enter Try.func20, Try.ntmps20
    go_wp2
    go_ret
    exact ⟨rfl, rfl⟩
  · rw [ho] at c6
    go_enter Try.func20, Try.ntmps20
    go_wp2
    go_ret
    exact ⟨rfl, rfl⟩

/-- What Load tells. -/
def loadV (S : St) (x : Int) : Int := if !S.off && hasB S.n x then S.now x.toNat else 0

def LoadPost (S : St) (x : Int) (w : World) (e : Ending) (w' : World) : Prop := e = .returned (.tuple #[.int .u64 (loadV S x), .int .i64 (ans S.off (hasB S.n x))]) ∧ w = w'

set_option maxHeartbeats 1000000 in
theorem load_any (w : World) (L : Loc) (S : St) (h : Dev w L S) (x : Int) :
    Calls Try.prog 31 #[.pointer (some ⟨L.d, 0, none⟩), .int .i64 x] w (LoadPost S x w) := by
  have h1 := has_any w L S h x
  have c0 := h.c0
  cases hh : hasB S.n x
  · have h2 := answer_any w L S h false
    rw [hh] at h1
    have hfin : loadV S x = 0 := by simp [loadV, hh]
    have hne : (ans S.off false != 0) = true := by cases S.off <;> rfl
    have hfin2 : ans S.off (hasB S.n x) = ans S.off false := by rw [hh]
    have HF := Lib.hid (And.intro hfin hfin2)
    clear hfin hfin2 hh
    generalize ans S.off false = E at *
    go_enter Try.func31, Try.ntmps31
    go_wp2_with fail
    (with_reducible refine h1.mono ?_)
    rintro e w' ⟨rfl, rfl⟩
    go_wp2_with fail
    (with_reducible refine h2.mono ?_)
    rintro e w' ⟨rfl, rfl⟩
    go_wp2
    go_ret2
    obtain ⟨e1, e2⟩ := HF.out
    exact ⟨by rw [e1, e2]; rfl, rfl⟩
  · have h2 := answer_any w L S h true
    obtain ⟨x0, x1⟩ := hasB_true hh
    rw [hh] at h1
    cases ho : S.off
    · obtain ⟨k, rfl⟩ := Int.eq_ofNat_of_zero_le x0
      have hk : k < S.n := by omega
      have cl := h.r.cell hk
      change w.cell? _ = some (.int .u64 (S.now k)) at cl
      rw [ho] at h2
      change Calls Try.prog 56 _ w fun e w' => e = .returned (.int .i64 0) ∧ w = w' at h2
      have hfin : loadV S k = S.now k := by simp [loadV, hh, ho]
      have hfin2 : ans S.off (hasB S.n k) = 0 := by rw [hh, ho]; rfl
      have HF := Lib.hid (And.intro hfin hfin2)
      clear hfin hfin2 hh ho
      go_enter Try.func31, Try.ntmps31
      go_wp2_with fail
      (with_reducible refine h1.mono ?_)
      rintro e w' ⟨rfl, rfl⟩
      go_wp2_with fail
      (with_reducible refine h2.mono ?_)
      rintro e w' ⟨rfl, rfl⟩
      go_wp2
      go_ret2
      obtain ⟨e1, e2⟩ := HF.out
      exact ⟨by rw [e1, e2]; rfl, rfl⟩
    · rw [ho] at h2
      change Calls Try.prog 56 _ w fun e w' => e = .returned (.int .i64 7) ∧ w = w' at h2
      have hfin : loadV S x = 0 := by simp [loadV, ho]
      have hfin2 : ans S.off (hasB S.n x) = 7 := by rw [hh, ho]; rfl
      have HF := Lib.hid (And.intro hfin hfin2)
      clear hfin hfin2 hh ho
      go_enter Try.func31, Try.ntmps31
      go_wp2_with fail
      (with_reducible refine h1.mono ?_)
      rintro e w' ⟨rfl, rfl⟩
      go_wp2_with fail
      (with_reducible refine h2.mono ?_)
      rintro e w' ⟨rfl, rfl⟩
      go_wp2
      go_ret2
      obtain ⟨e1, e2⟩ := HF.out
      exact ⟨by rw [e1, e2]; rfl, rfl⟩

set_option maxHeartbeats 1000000 in
theorem store_any (w : World) (L : Loc) (S : St) (h : Dev w L S) (x v : Int) (s0 : 0 ≤ S.steps) (s1 : S.steps < 1000000) :
    Calls Try.prog 33 #[.pointer (some ⟨L.d, 0, none⟩), .int .i64 x, .int .u64 v] w (Did L (storeS S x v) w (.int .i64 (ans (stepS S).off (hasB S.n x)))) := by
  have h1 := has_any w L S h x
  have c0 := h.c0
  have c6 := h.c6
  cases ho : S.off
  · rw [ho] at c6
    cases hh : hasB S.n x
    · have hfin : storeS S x v = stepS S := by simp [storeS, hh]
      have HF := Lib.hid (And.intro hfin hh)
      rw [hh] at h1
      clear hfin hh ho
      go_enter Try.func33, Try.ntmps33
      go_wp2_with fail
      (with_reducible refine h1.mono ?_)
      rintro e w' ⟨rfl, rfl⟩
      go_wp2_with fail
      (with_reducible refine (step_any w L S h s0 s1).mono ?_)
      rintro e w2 ⟨rfl, hD, hK⟩
      have h2 := has_any w2 L _ hD x
      change Calls Try.prog 57 _ w2 fun e w' => e = .returned (.bool (hasB S.n x)) ∧ w2 = w' at h2
      rw [HF.out.2] at h2
      have h3 := answer_any w2 L _ hD false
      clear h c0 c6
      go_wp2_with fail
      (with_reducible refine h2.mono ?_)
      rintro e w' ⟨rfl, rfl⟩
      go_wp2_with fail
      (with_reducible refine h3.mono ?_)
      rintro e w' ⟨rfl, rfl⟩
      go_wp2
      go_ret
      obtain ⟨e1, e2⟩ := HF.out
      exact ⟨rfl, by rw [e1]; exact hD, hK⟩
    · obtain ⟨x0, x1⟩ := hasB_true hh
      obtain ⟨k, rfl⟩ := Int.eq_ofNat_of_zero_le x0
      have hk : k < S.n := by omega
      have cl := h.r.cell hk
      have zl := h.r.frozen k
      have hfin : storeS S k v = stepS (putS S k v) := by simp [storeS, hh, ho]
      have HF := Lib.hid (And.intro hfin hh)
      rw [hh] at h1
      clear hfin hh ho
      go_enter Try.func33, Try.ntmps33
      go_wp2_with fail
      (with_reducible refine h1.mono ?_)
      rintro e w' ⟨rfl, rfl⟩
      go_wp2_with fail
      have hp : Dev (w.setCell ⟨L.r, k, none⟩ (.int .u64 v)) L (putS S k v) := h.setNow k v
      have hst := step_any _ L (putS S k v) hp s0 s1
      (with_reducible refine hst.mono ?_)
      rintro e w2 ⟨rfl, hD, hK⟩
      have hK' : Keep L.own w w2 := (Keep.setCell w ⟨L.r, k, none⟩ (by simp [Loc.own]) (.int .u64 v)).trans hK
      have h2 := has_any w2 L _ hD k
      change Calls Try.prog 57 _ w2 fun e w' => e = .returned (.bool (hasB S.n k)) ∧ w2 = w' at h2
      rw [HF.out.2] at h2
      have h3 := answer_any w2 L _ hD true
      clear h c0 c6 hp hK cl zl hst
      go_wp2_with fail
      (with_reducible refine h2.mono ?_)
      rintro e w' ⟨rfl, rfl⟩
      go_wp2_with fail
      (with_reducible refine h3.mono ?_)
      rintro e w' ⟨rfl, rfl⟩
      go_wp2
      go_ret
      obtain ⟨e1, e2⟩ := HF.out
      exact ⟨rfl, by rw [e1]; exact hD, hK'⟩
  · rw [ho] at c6
    have hfin : storeS S x v = stepS S := by simp [storeS, ho]
    have hoff : (stepS S).off = true := by simp [stepS, ho]
    have HF := Lib.hid (And.intro hfin hoff)
    clear hfin ho hoff
    go_enter Try.func33, Try.ntmps33
    go_wp2_with fail
    (with_reducible refine (step_any w L S h s0 s1).mono ?_)
    rintro e w2 ⟨rfl, hD, hK⟩
    have h2 := has_any w2 L _ hD x
    change Calls Try.prog 57 _ w2 fun e w' => e = .returned (.bool (hasB S.n x)) ∧ w2 = w' at h2
    generalize hasB S.n x = B at *
    have h3 := answer_any w2 L _ hD B
    clear h c0 c6 h1
    go_wp2_with fail
    (with_reducible refine h2.mono ?_)
    rintro e w' ⟨rfl, rfl⟩
    go_wp2_with fail
    (with_reducible refine h3.mono ?_)
    rintro e w' ⟨rfl, rfl⟩
    go_wp2
    go_ret
    obtain ⟨e1, e2⟩ := HF.out
    exact ⟨rfl, by rw [e1]; exact hD, hK⟩

set_option maxHeartbeats 1000000 in
theorem flush_any (w : World) (L : Loc) (S : St) (h : Dev w L S) (x : Int) (s0 : 0 ≤ S.steps) (s1 : S.steps < 1000000) :
    Calls Try.prog 35 #[.pointer (some ⟨L.d, 0, none⟩), .int .i64 x] w (Did L (flushS S x) w (.int .i64 (ans (stepS S).off (hasB S.n x)))) := by
  have hn := h.n
  have hst := step_any w L S h s0 s1
  cases hb : (!(stepS S).off && hasB S.n x)
  · have hfin : flushS S x = stepS S := by simp only [flushS, hb]; rfl
    have hne : (ans (stepS S).off (hasB S.n x) == 0) = false := by
      unfold ans
      cases e1 : (stepS S).off <;> cases e2 : hasB S.n x <;> simp_all
    have HF := Lib.hid hfin
    clear hfin hb
    go_enter Try.func35, Try.ntmps35
    go_wp2_with fail
    (with_reducible refine hst.mono ?_)
    rintro e w2 ⟨rfl, hD, hK⟩
    have h2 := has_any w2 L _ hD x
    change Calls Try.prog 57 _ w2 fun e w' => e = .returned (.bool (hasB S.n x)) ∧ w2 = w' at h2
    have h3 := answer_any w2 L _ hD (hasB S.n x)
    generalize ans (stepS S).off (hasB S.n x) = E at *
    clear h hst
    go_wp2_with fail
    (with_reducible refine h2.mono ?_)
    rintro e w' ⟨rfl, rfl⟩
    go_wp2_with fail
    (with_reducible refine h3.mono ?_)
    rintro e w' ⟨rfl, rfl⟩
    go_wp2
    go_ret
    exact ⟨rfl, by rw [HF.out]; exact hD, hK⟩
  · have hfin : flushS S x = takeS (stepS S) (x.toNat / 8) := by simp only [flushS, hb]; rfl
    simp only [Bool.and_eq_true, Bool.not_eq_true'] at hb
    obtain ⟨ho, hh⟩ := hb
    obtain ⟨x0, x1⟩ := hasB_true hh
    obtain ⟨k, rfl⟩ := Int.eq_ofNat_of_zero_le x0
    have hk : k < S.n := by omega
    have hE : ans (stepS S).off (hasB S.n k) = 0 := by rw [ho, hh]; rfl
    have hl : k / 8 < nl S.n := by unfold nl; omega
    rw [hE]
    have HF := Lib.hid (And.intro hfin (And.intro hh ho))
    clear hfin hh hE ho
    go_enter Try.func35, Try.ntmps35
    go_wp2_with fail
    (with_reducible refine hst.mono ?_)
    rintro e w2 ⟨rfl, hD, hK⟩
    have h2 := has_any w2 L _ hD k
    change Calls Try.prog 57 _ w2 fun e w' => e = .returned (.bool (hasB S.n k)) ∧ w2 = w' at h2
    rw [HF.out.2.1] at h2
    have h3 := answer_any w2 L _ hD true
    rw [HF.out.2.2] at h3
    change Calls Try.prog 56 _ w2 fun e w' => e = .returned (.int .i64 0) ∧ w2 = w' at h3
    have h4 := take_any w2 L _ hD (k / 8) hl
    clear h hst
    go_wp2_with fail
    (with_reducible refine h2.mono ?_)
    rintro e w' ⟨rfl, rfl⟩
    go_wp2_with fail
    (with_reducible refine h3.mono ?_)
    rintro e w' ⟨rfl, rfl⟩
    go_wp2_with fail
    rw [show ((k : Int) / 8) = ((k / 8 : Nat) : Int) by omega]
    (with_reducible refine h4.mono ?_)
    rintro e w3 ⟨rfl, hD3, hK3⟩
    go_wp2
    go_ret
    exact ⟨rfl, by rw [HF.out.1]; exact hD3, hK.trans hK3⟩

set_option maxHeartbeats 1000000 in
theorem fence_any (w : World) (L : Loc) (S : St) (h : Dev w L S) (s0 : 0 ≤ S.steps) (s1 : S.steps < 1000000) :
    Calls Try.prog 37 #[.pointer (some ⟨L.d, 0, none⟩)] w (Did L (fenceS S) w (.int .i64 (ans (stepS S).off true))) := by
  have hst := step_any w L S h s0 s1
  cases ho : (stepS S).off
  · have hfin : fenceS S = drainS (stepS S) := by simp [fenceS, ho]
    have HF := Lib.hid (And.intro hfin ho)
    clear hfin ho
    go_enter Try.func37, Try.ntmps37
    go_wp2_with fail
    (with_reducible refine hst.mono ?_)
    rintro e w2 ⟨rfl, hD, hK⟩
    have h3 := answer_any w2 L _ hD true
    rw [HF.out.2] at h3
    change Calls Try.prog 56 _ w2 fun e w' => e = .returned (.int .i64 0) ∧ w2 = w' at h3
    have h4 := drain_any w2 L _ hD
    clear h hst
    go_wp2_with fail
    (with_reducible refine h3.mono ?_)
    rintro e w' ⟨rfl, rfl⟩
    go_wp2_with fail
    (with_reducible refine h4.mono ?_)
    rintro e w3 ⟨rfl, hD3, hK3⟩
    go_wp2
    go_ret
    exact ⟨rfl, by rw [HF.out.1]; exact hD3, hK.trans hK3⟩
  · have hfin : fenceS S = stepS S := by simp [fenceS, ho]
    have HF := Lib.hid (And.intro hfin ho)
    clear hfin ho
    go_enter Try.func37, Try.ntmps37
    go_wp2_with fail
    (with_reducible refine hst.mono ?_)
    rintro e w2 ⟨rfl, hD, hK⟩
    have h3 := answer_any w2 L _ hD true
    rw [HF.out.2] at h3
    change Calls Try.prog 56 _ w2 fun e w' => e = .returned (.int .i64 7) ∧ w2 = w' at h3
    clear h hst
    go_wp2_with fail
    (with_reducible refine h3.mono ?_)
    rintro e w' ⟨rfl, rfl⟩
    go_wp2
    go_ret
    exact ⟨rfl, by rw [HF.out.1]; exact hD, hK⟩

set_option maxHeartbeats 1000000 in
theorem fuse_any (w : World) (L : Loc) (S : St) (h : Dev w L S) (n : Int) (hn : n ≤ 9223372036854775807) :
    Calls Try.prog 16 #[.pointer (some ⟨L.d, 0, none⟩), .int .i64 n] w (Did L (fuseS S n) w (.tuple #[])) := by
  have c5 := h.c5
  have z := h.z
  have HD := h
  go_enter Try.func16, Try.ntmps16
  go_wp2
  all_goals
    go_end0
    refine ⟨rfl, ?_, Keep.setCell _ _ (by simp [Loc.own]) _⟩
    first
    | (have e : max n 0 = n := by omega
       simpa [fuseS, e] using HD.set5 n (by omega) (by omega))
    | (have e : max n 0 = 0 := by omega
       simpa [fuseS, e] using HD.set5 0 (by omega) (by omega))

end Go.Proofs.Ytejhdmpobaffcaa
