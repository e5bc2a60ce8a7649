/-
  Package redo: Recover, Clean. No conditions but what a device is, and that few steps are counted.
-/
import Derived.Test.YtejhdmpobaffcaaRedo8
namespace Go.Proofs.Ytejhdmpobaffcaa
open Go.RowKit Go.Flo
set_option maxRecDepth 100000
set_option linter.unusedVariables false

/-- What Recover makes of a device; how many; what it answers. -/
def recR (S : St) (f t : Int) : St × Int × Int :=
  if mayB S.n f t = false then (S, 0, 1) else if S.off = true then (S, 0, 7) else if holdsB f t (S.now f.toNat) = false then (S, 0, 8) else
  if goodB S f t (S.now f.toNat).toNat = false then (S, 0, 8) else if S.now f.toNat = 0 then (S, 0, 0) else
  if (play S (recOps f (logE S f) (S.now f.toNat).toNat)).2 ≠ 0 then ((play S (recOps f (logE S f) (S.now f.toNat).toNat)).1, 0, (play S (recOps f (logE S f) (S.now f.toNat).toNat)).2) else
  ((play S (recOps f (logE S f) (S.now f.toNat).toNat)).1, S.now f.toNat, 0)

set_option maxHeartbeats 4000000 in
theorem recover_1 (w : World) (L : Loc) (S : St) (h : Dev w L S) (hW : Wd S) (f t : Int) (s0 : 0 ≤ S.steps) (s1 : S.steps < 800000) (e1 : mayB S.n f t = false) :
    Calls Try.prog 26 #[.pointer (some ⟨L.d, 0, none⟩), .int .i64 f, .int .i64 t] w (Did L S w (.tuple #[.int .i64 0, .int .i64 1])) := by
  have k0 : Keep [] w (w.alloc (.cells #[.pointer (some ⟨L.d, 0, none⟩), .int .i64 f, .int .i64 t] 73)) := Keep.alloc _ _
  have hbx := fun W (hk : Keep [] (w.alloc (.cells #[.pointer (some ⟨L.d, 0, none⟩), .int .i64 f, .int .i64 t] 73)) W) => box3 (w := w) (W' := W) (own := []) rfl hk (by simp)
  have HBX := Lib.hid hbx
  have hSn := h.n
  have hlt := h.lt
  have hm := may_any (w.alloc (.cells #[.pointer (some ⟨L.d, 0, none⟩), .int .i64 f, .int .i64 t] 73)) L S (h.keep k0 (by simp)) f t
  rw [e1] at hm
  have HDD := Lib.hid h
  clear hbx h hW e1 s0 s1 hlt
  go_enter Try.func26, Try.ntmps26
  go_wp2_with fail
  generalize w.alloc (.cells #[.pointer (some ⟨L.d, 0, none⟩), .int .i64 f, .int .i64 t] 73) = wa at *
  (with_reducible refine hm.mono ?_)
  rintro e w1 ⟨rfl, hK1⟩
  clear hm
  go_wp2
  go_ret2
  exact ⟨rfl, HDD.out.keep (k0.trans hK1) (by simp), (k0.trans hK1).of_nil⟩

set_option maxHeartbeats 4000000 in
theorem recover_2 (w : World) (L : Loc) (S : St) (h : Dev w L S) (hW : Wd S) (f t : Int) (s0 : 0 ≤ S.steps) (s1 : S.steps < 800000) (e1 : mayB S.n f t = true) (e2 : S.off = true) :
    Calls Try.prog 26 #[.pointer (some ⟨L.d, 0, none⟩), .int .i64 f, .int .i64 t] w (Did L S w (.tuple #[.int .i64 0, .int .i64 7])) := by
  have k0 : Keep [] w (w.alloc (.cells #[.pointer (some ⟨L.d, 0, none⟩), .int .i64 f, .int .i64 t] 73)) := Keep.alloc _ _
  have hbx := fun W (hk : Keep [] (w.alloc (.cells #[.pointer (some ⟨L.d, 0, none⟩), .int .i64 f, .int .i64 t] 73)) W) => box3 (w := w) (W' := W) (own := []) rfl hk (by simp)
  have HBX := Lib.hid hbx
  have hSn := h.n
  have hlt := h.lt
  have hm := may_any (w.alloc (.cells #[.pointer (some ⟨L.d, 0, none⟩), .int .i64 f, .int .i64 t] 73)) L S (h.keep k0 (by simp)) f t
  rw [e1] at hm
  have HDD := Lib.hid h
  obtain ⟨f0, f1, t1, f8⟩ := mayB_true e1
  have F8 := Lib.hid f8
  clear f8
  have hr := fun W (hk : Keep [] w W) => read_off W L S (HDD.out.keep hk (by simp)) f t f0 f1 t1 e2
  have HR := Lib.hid hr
  clear hbx h hW e1 s0 s1 hlt e2 hr
  go_enter Try.func26, Try.ntmps26
  go_wp2_with fail
  generalize w.alloc (.cells #[.pointer (some ⟨L.d, 0, none⟩), .int .i64 f, .int .i64 t] 73) = wa at *
  (with_reducible refine hm.mono ?_)
  rintro e w1 ⟨rfl, hK1⟩
  clear hm
  obtain ⟨b0, b1, b2, b3⟩ := HBX.out w1 hK1
  have h2 := HR.out w1 (k0.trans hK1)
  go_wp2_with fail
  (with_reducible refine h2.mono ?_)
  rintro e w2 ⟨rfl, hK2⟩
  clear h2 b0 b1 b2 b3
  go_wp2
  go_ret2
  exact ⟨rfl, HDD.out.keep ((k0.trans hK1).trans hK2) (by simp), ((k0.trans hK1).trans hK2).of_nil⟩

set_option maxHeartbeats 4000000 in
theorem recover_3 (w : World) (L : Loc) (S : St) (h : Dev w L S) (hW : Wd S) (f t : Int) (s0 : 0 ≤ S.steps) (s1 : S.steps < 800000) (e1 : mayB S.n f t = true) (e2 : S.off = false) (e3 : holdsB f t (S.now f.toNat) = false) :
    Calls Try.prog 26 #[.pointer (some ⟨L.d, 0, none⟩), .int .i64 f, .int .i64 t] w (Did L S w (.tuple #[.int .i64 0, .int .i64 8])) := by
  have k0 : Keep [] w (w.alloc (.cells #[.pointer (some ⟨L.d, 0, none⟩), .int .i64 f, .int .i64 t] 73)) := Keep.alloc _ _
  have hbx := fun W (hk : Keep [] (w.alloc (.cells #[.pointer (some ⟨L.d, 0, none⟩), .int .i64 f, .int .i64 t] 73)) W) => box3 (w := w) (W' := W) (own := []) rfl hk (by simp)
  have HBX := Lib.hid hbx
  have hSn := h.n
  have hlt := h.lt
  have hm := may_any (w.alloc (.cells #[.pointer (some ⟨L.d, 0, none⟩), .int .i64 f, .int .i64 t] 73)) L S (h.keep k0 (by simp)) f t
  rw [e1] at hm
  have HDD := Lib.hid h
  obtain ⟨f0, f1, t1, f8⟩ := mayB_true e1
  have F8 := Lib.hid f8
  clear f8
  have hr := fun W (hk : Keep [] w W) => read_many W L S (HDD.out.keep hk (by simp)) hW f t f0 f1 t1 e2 e3
  have HR := Lib.hid hr
  clear hbx h hW e1 s0 s1 hlt e2 hr e3
  go_enter Try.func26, Try.ntmps26
  go_wp2_with fail
  generalize w.alloc (.cells #[.pointer (some ⟨L.d, 0, none⟩), .int .i64 f, .int .i64 t] 73) = wa at *
  (with_reducible refine hm.mono ?_)
  rintro e w1 ⟨rfl, hK1⟩
  clear hm
  obtain ⟨b0, b1, b2, b3⟩ := HBX.out w1 hK1
  have h2 := HR.out w1 (k0.trans hK1)
  go_wp2_with fail
  (with_reducible refine h2.mono ?_)
  rintro e w2 ⟨rfl, hK2⟩
  clear h2 b0 b1 b2 b3
  go_wp2
  go_ret2
  exact ⟨rfl, HDD.out.keep ((k0.trans hK1).trans hK2) (by simp), ((k0.trans hK1).trans hK2).of_nil⟩

set_option maxHeartbeats 4000000 in
theorem recover_4 (w : World) (L : Loc) (S : St) (h : Dev w L S) (hW : Wd S) (f t : Int) (s0 : 0 ≤ S.steps) (s1 : S.steps < 800000) (e1 : mayB S.n f t = true) (e2 : S.off = false) (m : Nat) (hX : S.now f.toNat = m) (e3 : holdsB f t m = true) (e4 : goodB S f t m = false) :
    Calls Try.prog 26 #[.pointer (some ⟨L.d, 0, none⟩), .int .i64 f, .int .i64 t] w (Did L S w (.tuple #[.int .i64 0, .int .i64 8])) := by
  have k0 : Keep [] w (w.alloc (.cells #[.pointer (some ⟨L.d, 0, none⟩), .int .i64 f, .int .i64 t] 73)) := Keep.alloc _ _
  have hbx := fun W (hk : Keep [] (w.alloc (.cells #[.pointer (some ⟨L.d, 0, none⟩), .int .i64 f, .int .i64 t] 73)) W) => box3 (w := w) (W' := W) (own := []) rfl hk (by simp)
  have HBX := Lib.hid hbx
  have hSn := h.n
  have hlt := h.lt
  have hm := may_any (w.alloc (.cells #[.pointer (some ⟨L.d, 0, none⟩), .int .i64 f, .int .i64 t] 73)) L S (h.keep k0 (by simp)) f t
  rw [e1] at hm
  have HDD := Lib.hid h
  obtain ⟨f0, f1, t1, f8⟩ := mayB_true e1
  have F8 := Lib.hid f8
  clear f8
  have hr : ∀ W, Keep [] w W → Calls Try.prog 53 #[.agg #[.pointer (some ⟨L.d, 0, none⟩), .int .i64 f, .int .i64 t]] W (ReadBad W 8) := fun W hk => (read_any W L S (HDD.out.keep hk (by simp)) hW f t f0 f1 t1 e2 m hX e3).mono fun e w' h => by
    unfold ReadPost at h
    rw [e4] at h
    exact h
  have HR := Lib.hid hr
  clear hbx h hW e1 s0 s1 hlt e2 hr e3 e4 hX
  go_enter Try.func26, Try.ntmps26
  go_wp2_with fail
  generalize w.alloc (.cells #[.pointer (some ⟨L.d, 0, none⟩), .int .i64 f, .int .i64 t] 73) = wa at *
  (with_reducible refine hm.mono ?_)
  rintro e w1 ⟨rfl, hK1⟩
  clear hm
  obtain ⟨b0, b1, b2, b3⟩ := HBX.out w1 hK1
  have h2 := HR.out w1 (k0.trans hK1)
  go_wp2_with fail
  (with_reducible refine h2.mono ?_)
  rintro e w2 ⟨rfl, hK2⟩
  clear h2 b0 b1 b2 b3
  go_wp2
  go_ret2
  exact ⟨rfl, HDD.out.keep ((k0.trans hK1).trans hK2) (by simp), ((k0.trans hK1).trans hK2).of_nil⟩

set_option maxHeartbeats 4000000 in
theorem recover_5 (w : World) (L : Loc) (S : St) (h : Dev w L S) (hW : Wd S) (f t : Int) (s0 : 0 ≤ S.steps) (s1 : S.steps < 800000) (e1 : mayB S.n f t = true) (e2 : S.off = false) (m : Nat) (hX : S.now f.toNat = m) (e3 : holdsB f t m = true) (e4 : goodB S f t m = true) (e5 : m = 0) :
    Calls Try.prog 26 #[.pointer (some ⟨L.d, 0, none⟩), .int .i64 f, .int .i64 t] w (Did L S w (.tuple #[.int .i64 0, .int .i64 0])) := by
  have k0 : Keep [] w (w.alloc (.cells #[.pointer (some ⟨L.d, 0, none⟩), .int .i64 f, .int .i64 t] 73)) := Keep.alloc _ _
  have hbx := fun W (hk : Keep [] (w.alloc (.cells #[.pointer (some ⟨L.d, 0, none⟩), .int .i64 f, .int .i64 t] 73)) W) => box3 (w := w) (W' := W) (own := []) rfl hk (by simp)
  have HBX := Lib.hid hbx
  have hSn := h.n
  have hlt := h.lt
  have hm := may_any (w.alloc (.cells #[.pointer (some ⟨L.d, 0, none⟩), .int .i64 f, .int .i64 t] 73)) L S (h.keep k0 (by simp)) f t
  rw [e1] at hm
  have HDD := Lib.hid h
  obtain ⟨f0, f1, t1, f8⟩ := mayB_true e1
  have F8 := Lib.hid f8
  clear f8
  have hr : ∀ W, Keep [] w W → Calls Try.prog 53 #[.agg #[.pointer (some ⟨L.d, 0, none⟩), .int .i64 f, .int .i64 t]] W (ReadOk W m (logE S f)) := fun W hk => (read_any W L S (HDD.out.keep hk (by simp)) hW f t f0 f1 t1 e2 m hX e3).mono fun e w' h => by
    unfold ReadPost at h
    rw [e4] at h
    exact h
  have HR := Lib.hid hr
  have hm1 := (holdsB_true e3).1
  have e5' : decide (0 < (m : Int)) = false := by simp; omega
  have e5'' : decide (0 < m) = false := by simp; omega
  clear hbx h hW e1 s0 s1 hlt e2 hr e3 e4 hX e5
  go_enter Try.func26, Try.ntmps26
  go_wp2_with fail
  generalize w.alloc (.cells #[.pointer (some ⟨L.d, 0, none⟩), .int .i64 f, .int .i64 t] 73) = wa at *
  (with_reducible refine hm.mono ?_)
  rintro e w1 ⟨rfl, hK1⟩
  clear hm
  obtain ⟨b0, b1, b2, b3⟩ := HBX.out w1 hK1
  have h2 := HR.out w1 (k0.trans hK1)
  go_wp2_with fail
  (with_reducible refine h2.mono ?_)
  rintro e w2 ⟨G, rfl, hK2, hG, hE⟩
  clear h2 b0 b1 b2 b3
  go_wp2
  go_ret2
  exact ⟨by simp_all, HDD.out.keep ((k0.trans hK1).trans hK2) (by simp), ((k0.trans hK1).trans hK2).of_nil⟩

set_option maxHeartbeats 4000000 in
theorem recover_6 (w : World) (L : Loc) (S : St) (h : Dev w L S) (hW : Wd S) (f t : Int) (s0 : 0 ≤ S.steps) (s1 : S.steps < 800000) (e1 : mayB S.n f t = true) (e2 : S.off = false) (m : Nat) (hX : S.now f.toNat = m) (e3 : holdsB f t m = true) (e4 : goodB S f t m = true) (e5 : 0 < m) (e6 : (play S (recOps f (logE S f) m)).2 ≠ 0) :
    Calls Try.prog 26 #[.pointer (some ⟨L.d, 0, none⟩), .int .i64 f, .int .i64 t] w (Did L (play S (recOps f (logE S f) m)).1 w (.tuple #[.int .i64 0, .int .i64 (play S (recOps f (logE S f) m)).2])) := by
  have k0 : Keep [] w (w.alloc (.cells #[.pointer (some ⟨L.d, 0, none⟩), .int .i64 f, .int .i64 t] 73)) := Keep.alloc _ _
  have hbx := fun W (hk : Keep [] (w.alloc (.cells #[.pointer (some ⟨L.d, 0, none⟩), .int .i64 f, .int .i64 t] 73)) W) => box3 (w := w) (W' := W) (own := []) rfl hk (by simp)
  have HBX := Lib.hid hbx
  have hSn := h.n
  have hlt := h.lt
  have hm := may_any (w.alloc (.cells #[.pointer (some ⟨L.d, 0, none⟩), .int .i64 f, .int .i64 t] 73)) L S (h.keep k0 (by simp)) f t
  rw [e1] at hm
  have HDD := Lib.hid h
  obtain ⟨f0, f1, t1, f8⟩ := mayB_true e1
  have F8 := Lib.hid f8
  clear f8
  have hr : ∀ W, Keep [] w W → Calls Try.prog 53 #[.agg #[.pointer (some ⟨L.d, 0, none⟩), .int .i64 f, .int .i64 t]] W (ReadOk W m (logE S f)) := fun W hk => (read_any W L S (HDD.out.keep hk (by simp)) hW f t f0 f1 t1 e2 m hX e3).mono fun e w' h => by
    unfold ReadPost at h
    rw [e4] at h
    exact h
  have HR := Lib.hid hr
  have hm1 := (holdsB_true e3).1
  have e5' : decide (0 < (m : Int)) = true := by simp; omega
  have e5'' : decide (0 < m) = true := by simp; omega
  have hgo := goodB_true.1 e4
  have ha : ∀ j, j < m → 0 ≤ (logE S f j).a ∧ (logE S f j).a < S.n := fun j hj => by
    have h1 := hgo j hj
    have h2 : 0 ≤ (logE S f j).a := (hW _).1
    simp [okB] at h1
    omega
  have hrun := fun (W : World) (hk : Keep [] w W) (G : Nat) (hG : w.heap.size ≤ G) (hE : EBlk W G m m (logE S f)) => run_true W L S (HDD.out.keep hk (by simp)) f t (some ⟨G, 0, none⟩) m m (logE S f) (hE.ents L.own (fun hm => by have := hlt G hm; omega) (by omega)) (by omega) ha s0 s1
  generalize play S (recOps f (logE S f) m) = R at *
  obtain ⟨SR, aR⟩ := R
  dsimp only at hrun e6 ⊢
  have HRUN := Lib.hid hrun
  have HGO := Lib.hid hgo
  have HAA := Lib.hid ha
  clear hrun hgo ha
  have d6 : (aR != 0) = true := by simpa using e6
  clear hbx h hW e1 s0 s1 hlt e2 hr e3 e4 hX e5 e6
  go_enter Try.func26, Try.ntmps26
  go_wp2_with fail
  generalize w.alloc (.cells #[.pointer (some ⟨L.d, 0, none⟩), .int .i64 f, .int .i64 t] 73) = wa at *
  (with_reducible refine hm.mono ?_)
  rintro e w1 ⟨rfl, hK1⟩
  clear hm
  obtain ⟨b0, b1, b2, b3⟩ := HBX.out w1 hK1
  have h2 := HR.out w1 (k0.trans hK1)
  go_wp2_with fail
  (with_reducible refine h2.mono ?_)
  rintro e w2 ⟨G, rfl, hK2, hG, hE⟩
  clear h2 b0 b1 b2 b3
  have hsz := (k0.trans hK1).size
  obtain ⟨b0, b1, b2, b3⟩ := HBX.out w2 (hK1.trans hK2)
  have h3 := HRUN.out w2 ((k0.trans hK1).trans hK2) G (by omega) hE
  go_wp2_with fail
  (with_reducible refine h3.mono ?_)
  rintro e w3 ⟨rfl, hD3, hK3⟩
  clear h3 b0 b1 b2 b3
  go_wp2
  go_ret2
  exact ⟨rfl, hD3, ((k0.trans hK1).trans hK2).of_nil.trans hK3⟩

set_option maxHeartbeats 4000000 in
theorem recover_7 (w : World) (L : Loc) (S : St) (h : Dev w L S) (hW : Wd S) (f t : Int) (s0 : 0 ≤ S.steps) (s1 : S.steps < 800000) (e1 : mayB S.n f t = true) (e2 : S.off = false) (m : Nat) (hX : S.now f.toNat = m) (e3 : holdsB f t m = true) (e4 : goodB S f t m = true) (e5 : 0 < m) (e6 : (play S (recOps f (logE S f) m)).2 = 0) :
    Calls Try.prog 26 #[.pointer (some ⟨L.d, 0, none⟩), .int .i64 f, .int .i64 t] w (Did L (play S (recOps f (logE S f) m)).1 w (.tuple #[.int .i64 m, .int .i64 0])) := by
  have k0 : Keep [] w (w.alloc (.cells #[.pointer (some ⟨L.d, 0, none⟩), .int .i64 f, .int .i64 t] 73)) := Keep.alloc _ _
  have hbx := fun W (hk : Keep [] (w.alloc (.cells #[.pointer (some ⟨L.d, 0, none⟩), .int .i64 f, .int .i64 t] 73)) W) => box3 (w := w) (W' := W) (own := []) rfl hk (by simp)
  have HBX := Lib.hid hbx
  have hSn := h.n
  have hlt := h.lt
  have hm := may_any (w.alloc (.cells #[.pointer (some ⟨L.d, 0, none⟩), .int .i64 f, .int .i64 t] 73)) L S (h.keep k0 (by simp)) f t
  rw [e1] at hm
  have HDD := Lib.hid h
  obtain ⟨f0, f1, t1, f8⟩ := mayB_true e1
  have F8 := Lib.hid f8
  clear f8
  have hr : ∀ W, Keep [] w W → Calls Try.prog 53 #[.agg #[.pointer (some ⟨L.d, 0, none⟩), .int .i64 f, .int .i64 t]] W (ReadOk W m (logE S f)) := fun W hk => (read_any W L S (HDD.out.keep hk (by simp)) hW f t f0 f1 t1 e2 m hX e3).mono fun e w' h => by
    unfold ReadPost at h
    rw [e4] at h
    exact h
  have HR := Lib.hid hr
  have hm1 := (holdsB_true e3).1
  have e5' : decide (0 < (m : Int)) = true := by simp; omega
  have e5'' : decide (0 < m) = true := by simp; omega
  have hgo := goodB_true.1 e4
  have ha : ∀ j, j < m → 0 ≤ (logE S f j).a ∧ (logE S f j).a < S.n := fun j hj => by
    have h1 := hgo j hj
    have h2 : 0 ≤ (logE S f j).a := (hW _).1
    simp [okB] at h1
    omega
  have hrun := fun (W : World) (hk : Keep [] w W) (G : Nat) (hG : w.heap.size ≤ G) (hE : EBlk W G m m (logE S f)) => run_true W L S (HDD.out.keep hk (by simp)) f t (some ⟨G, 0, none⟩) m m (logE S f) (hE.ents L.own (fun hm => by have := hlt G hm; omega) (by omega)) (by omega) ha s0 s1
  generalize play S (recOps f (logE S f) m) = R at *
  obtain ⟨SR, aR⟩ := R
  dsimp only at hrun e6 ⊢
  have HRUN := Lib.hid hrun
  have HGO := Lib.hid hgo
  have HAA := Lib.hid ha
  clear hrun hgo ha
  subst e6
  clear hbx h hW e1 s0 s1 hlt e2 hr e3 e4 hX e5
  go_enter Try.func26, Try.ntmps26
  go_wp2_with fail
  generalize w.alloc (.cells #[.pointer (some ⟨L.d, 0, none⟩), .int .i64 f, .int .i64 t] 73) = wa at *
  (with_reducible refine hm.mono ?_)
  rintro e w1 ⟨rfl, hK1⟩
  clear hm
  obtain ⟨b0, b1, b2, b3⟩ := HBX.out w1 hK1
  have h2 := HR.out w1 (k0.trans hK1)
  go_wp2_with fail
  (with_reducible refine h2.mono ?_)
  rintro e w2 ⟨G, rfl, hK2, hG, hE⟩
  clear h2 b0 b1 b2 b3
  have hsz := (k0.trans hK1).size
  obtain ⟨b0, b1, b2, b3⟩ := HBX.out w2 (hK1.trans hK2)
  have h3 := HRUN.out w2 ((k0.trans hK1).trans hK2) G (by omega) hE
  go_wp2_with fail
  (with_reducible refine h3.mono ?_)
  rintro e w3 ⟨rfl, hD3, hK3⟩
  clear h3 b0 b1 b2 b3
  go_wp2
  go_ret2
  exact ⟨rfl, hD3, ((k0.trans hK1).trans hK2).of_nil.trans hK3⟩

theorem recover_any (w : World) (L : Loc) (S : St) (h : Dev w L S) (hW : Wd S) (f t : Int) (s0 : 0 ≤ S.steps) (s1 : S.steps < 800000) :
    Calls Try.prog 26 #[.pointer (some ⟨L.d, 0, none⟩), .int .i64 f, .int .i64 t] w (Did L (recR S f t).1 w (.tuple #[.int .i64 (recR S f t).2.1, .int .i64 (recR S f t).2.2])) := by
  unfold recR
  cases e1 : mayB S.n f t
  · exact recover_1 w L S h hW f t s0 s1 e1
  cases e2 : S.off
  · cases e3 : holdsB f t (S.now f.toNat)
    · exact recover_3 w L S h hW f t s0 s1 e1 e2 e3
    · obtain ⟨m, hX⟩ := Int.eq_ofNat_of_zero_le (hW f.toNat).1
      rw [hX] at e3 ⊢
      simp only [Int.toNat_natCast]
      cases e4 : goodB S f t m
      · exact recover_4 w L S h hW f t s0 s1 e1 e2 m hX e3 e4
      · by_cases e5 : m = 0
        · have := recover_5 w L S h hW f t s0 s1 e1 e2 m hX e3 e4 e5
          subst e5
          exact this
        · have e5' : ¬ (m : Int) = 0 := by omega
          by_cases e6 : (play S (recOps f (logE S f) m)).2 = 0
          · have := recover_7 w L S h hW f t s0 s1 e1 e2 m hX e3 e4 (by omega) e6
            simpa [e5, e6] using this
          · have := recover_6 w L S h hW f t s0 s1 e1 e2 m hX e3 e4 (by omega) e6
            simpa [e5, e6] using this
  · exact recover_2 w L S h hW f t s0 s1 e1 e2

/-- What Clean answers. -/
def cleanR (S : St) (f t : Int) : Bool × Int := if mayB S.n f t = false then (false, 1) else if S.off = true then (false, 7) else (S.now f.toNat == 0, 0)

set_option maxHeartbeats 2000000 in
theorem clean_any (w : World) (L : Loc) (S : St) (h : Dev w L S) (f t : Int) :
    Calls Try.prog 28 #[.pointer (some ⟨L.d, 0, none⟩), .int .i64 f, .int .i64 t] w fun e w' => e = .returned (.tuple #[.bool (cleanR S f t).1, .int .i64 (cleanR S f t).2]) ∧ Keep [] w w' := by
  have hm := may_any w L S h f t
  unfold cleanR
  cases e1 : mayB S.n f t
  · rw [e1] at hm
    simp only [if_true]
    go_enter Try.func28, Try.ntmps28
    go_wp2_with fail
    (with_reducible refine hm.mono ?_)
    rintro e w1 ⟨rfl, hK1⟩
    go_wp2
    go_ret2
    exact ⟨rfl, hK1⟩
  · rw [e1] at hm
    obtain ⟨f0, f1, t1, f8⟩ := mayB_true e1
    have hl := fun W (hk : Keep [] w W) => load_there W L S (h.keep hk (by simp)) f f0 (by omega)
    cases e2 : S.off
    · rw [e2] at hl
      simp only [Bool.false_eq_true, if_false] at hl
      simp only [Bool.true_eq_false, Bool.false_eq_true, if_false]
      have HL := Lib.hid hl
      clear hl e1 e2 f8 h
      generalize S.now f.toNat = X at *
      cases d : (X == 0)
      all_goals
        go_enter Try.func28, Try.ntmps28
        go_wp2_with fail
        (with_reducible refine hm.mono ?_)
        rintro e w1 ⟨rfl, hK1⟩
        have h2 := HL.out w1 hK1
        go_wp2_with fail
        (with_reducible refine h2.mono ?_)
        rintro e w2 ⟨rfl, rfl⟩
        go_wp2
        go_ret2
        exact ⟨by simp_all, hK1⟩
    · rw [e2] at hl
      simp only [if_true] at hl
      simp only [Bool.true_eq_false, if_false, if_true]
      have HL := Lib.hid hl
      clear hl e1 e2 f8 h
      go_enter Try.func28, Try.ntmps28
      go_wp2_with fail
      (with_reducible refine hm.mono ?_)
      rintro e w1 ⟨rfl, hK1⟩
      have h2 := HL.out w1 hK1
      go_wp2_with fail
      (with_reducible refine h2.mono ?_)
      rintro e w2 ⟨rfl, rfl⟩
      go_wp2
      go_ret2
      exact ⟨rfl, hK1⟩
end Go.Proofs.Ytejhdmpobaffcaa
