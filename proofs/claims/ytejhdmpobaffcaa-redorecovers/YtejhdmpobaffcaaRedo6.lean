/-
  Package redo: Write, Clean, and Write of no device. No conditions but what a device is, and that few steps are counted.
-/
import Derived.Test.YtejhdmpobaffcaaRedo5
namespace Go.Proofs.Ytejhdmpobaffcaa
open Go.RowKit Go.Flo
set_option maxRecDepth 100000
set_option linter.unusedVariables false

/-- What Write makes of a device, and answers. -/
def writeR (S : St) (f t : Int) (E : Nat → Ent) (n : Nat) : St × Int :=
  if mayB S.n f t = false then (S, 1) else if holdsB f t n = false then (S, 9) else if leavesB S.n f t E n = false then (S, 1) else
  if S.off = true then (S, 7) else if S.now f.toNat ≠ 0 then (S, 10) else if n = 0 then (S, 0) else play S (wrOps f E n)

theorem mayB_true {n : Nat} {f t : Int} (h : mayB n f t = true) : 0 ≤ f ∧ f < t ∧ t ≤ n ∧ f % 8 = 0 := by
  simp [mayB] at h
  exact h
theorem holdsB_true {f t x : Int} (h : holdsB f t x = true) : x ≤ 1024 ∧ 8 + 2 * x ≤ t - f := by
  simp [holdsB] at h
  exact h

/-- What Load tells, of a word that is there. -/
theorem load_there (w : World) (L : Loc) (S : St) (h : Dev w L S) (x : Int) (x0 : 0 ≤ x) (x1 : x < S.n) :
    Calls Try.prog 31 #[.pointer (some ⟨L.d, 0, none⟩), .int .i64 x] w fun e w' => e = .returned (.tuple #[.int .u64 (if S.off = true then 0 else S.now x.toNat), .int .i64 (if S.off = true then 7 else 0)]) ∧ w = w' := by
  refine (load_any w L S h x).mono ?_
  rintro e w' ⟨rfl, rfl⟩
  refine ⟨?_, rfl⟩
  have hh := hasB_of x0 x1
  unfold loadV ans
  rw [hh]
  cases S.off <;> rfl

set_option maxHeartbeats 4000000 in
theorem write_1 (w : World) (L : Loc) (S : St) (h : Dev w L S) (f t : Int) (A : Option Addr) (n cap : Nat) (E : Nat → Ent) (hE : Ents w L.own A n cap E) (hEB : EB E n) (s0 : 0 ≤ S.steps) (s1 : S.steps < 800000) (e1 : mayB S.n f t = false) :
    Calls Try.prog 17 #[.pointer (some ⟨L.d, 0, none⟩), .int .i64 f, .int .i64 t, .slice A n cap] w (Did L S w (.int .i64 1)) := by
  have k0 : Keep [] w (w.alloc (.cells #[.pointer (some ⟨L.d, 0, none⟩), .int .i64 f, .int .i64 t] 73)) := Keep.alloc _ _
  have hB := h.fresh
  have hbx := fun W (hk : Keep [] (w.alloc (.cells #[.pointer (some ⟨L.d, 0, none⟩), .int .i64 f, .int .i64 t] 73)) W) => box3 (w := w) (W' := W) (own := []) rfl hk (by simp)
  have HBX := Lib.hid hbx
  have hcap := hE.cap
  have hnc := hE.nc
  have hSn := h.n
  have hm := may_any (w.alloc (.cells #[.pointer (some ⟨L.d, 0, none⟩), .int .i64 f, .int .i64 t] 73)) L S (h.keep k0 (by simp)) f t
  rw [e1] at hm
  have HDD := Lib.hid h
  have HEE := Lib.hid hE
  have HEB := Lib.hid hEB
  have e9 : IntKind.u64.wrap (n : Int) = n := IntWalk.u64_in _ (by omega)
  clear hbx hB h hE hEB e1
  go_enter Try.func17, Try.ntmps17
  go_wp2_with fail
  generalize w.alloc (.cells #[.pointer (some ⟨L.d, 0, none⟩), .int .i64 f, .int .i64 t] 73) = wa at *
  (with_reducible refine hm.mono ?_)
  rintro e w1 ⟨rfl, hK1⟩
  clear hm
  go_wp2
  go_ret
  exact ⟨rfl, HDD.out.keep (k0.trans hK1) (by simp), (k0.trans hK1).of_nil⟩

set_option maxHeartbeats 4000000 in
theorem write_2 (w : World) (L : Loc) (S : St) (h : Dev w L S) (f t : Int) (A : Option Addr) (n cap : Nat) (E : Nat → Ent) (hE : Ents w L.own A n cap E) (hEB : EB E n) (s0 : 0 ≤ S.steps) (s1 : S.steps < 800000) (e1 : mayB S.n f t = true) (e2 : holdsB f t n = false) :
    Calls Try.prog 17 #[.pointer (some ⟨L.d, 0, none⟩), .int .i64 f, .int .i64 t, .slice A n cap] w (Did L S w (.int .i64 9)) := by
  have k0 : Keep [] w (w.alloc (.cells #[.pointer (some ⟨L.d, 0, none⟩), .int .i64 f, .int .i64 t] 73)) := Keep.alloc _ _
  have hB := h.fresh
  have hbx := fun W (hk : Keep [] (w.alloc (.cells #[.pointer (some ⟨L.d, 0, none⟩), .int .i64 f, .int .i64 t] 73)) W) => box3 (w := w) (W' := W) (own := []) rfl hk (by simp)
  have HBX := Lib.hid hbx
  have hcap := hE.cap
  have hnc := hE.nc
  have hSn := h.n
  have hm := may_any (w.alloc (.cells #[.pointer (some ⟨L.d, 0, none⟩), .int .i64 f, .int .i64 t] 73)) L S (h.keep k0 (by simp)) f t
  rw [e1] at hm
  have HDD := Lib.hid h
  have HEE := Lib.hid hE
  have HEB := Lib.hid hEB
  obtain ⟨f0, f1, t1, f8⟩ := mayB_true e1
  have hh := fun W => holds_any W L f t n (by omega) f0 f1 (by omega)
  rw [e2] at hh
  have HH := Lib.hid hh
  have F8 := Lib.hid f8
  clear hh f8
  have e9 : IntKind.u64.wrap (n : Int) = n := IntWalk.u64_in _ (by omega)
  clear hbx hB h hE hEB e1 e2
  go_enter Try.func17, Try.ntmps17
  go_wp2_with fail
  generalize w.alloc (.cells #[.pointer (some ⟨L.d, 0, none⟩), .int .i64 f, .int .i64 t] 73) = wa at *
  (with_reducible refine hm.mono ?_)
  rintro e w1 ⟨rfl, hK1⟩
  clear hm
  obtain ⟨b0, b1, b2, b3⟩ := HBX.out w1 hK1
  have h2 := HH.out w1
  go_wp2_with fail
  (with_reducible refine h2.mono ?_)
  rintro e w2 ⟨rfl, hK2⟩
  clear h2 b0 b1 b2 b3
  go_wp2
  go_ret
  exact ⟨rfl, HDD.out.keep ((k0.trans hK1).trans hK2) (by simp), ((k0.trans hK1).trans hK2).of_nil⟩

set_option maxHeartbeats 4000000 in
theorem write_3 (w : World) (L : Loc) (S : St) (h : Dev w L S) (f t : Int) (A : Option Addr) (n cap : Nat) (E : Nat → Ent) (hE : Ents w L.own A n cap E) (hEB : EB E n) (s0 : 0 ≤ S.steps) (s1 : S.steps < 800000) (e1 : mayB S.n f t = true) (e2 : holdsB f t n = true) (e3 : leavesB S.n f t E n = false) :
    Calls Try.prog 17 #[.pointer (some ⟨L.d, 0, none⟩), .int .i64 f, .int .i64 t, .slice A n cap] w (Did L S w (.int .i64 1)) := by
  have k0 : Keep [] w (w.alloc (.cells #[.pointer (some ⟨L.d, 0, none⟩), .int .i64 f, .int .i64 t] 73)) := Keep.alloc _ _
  have hB := h.fresh
  have hbx := fun W (hk : Keep [] (w.alloc (.cells #[.pointer (some ⟨L.d, 0, none⟩), .int .i64 f, .int .i64 t] 73)) W) => box3 (w := w) (W' := W) (own := []) rfl hk (by simp)
  have HBX := Lib.hid hbx
  have hcap := hE.cap
  have hnc := hE.nc
  have hSn := h.n
  have hm := may_any (w.alloc (.cells #[.pointer (some ⟨L.d, 0, none⟩), .int .i64 f, .int .i64 t] 73)) L S (h.keep k0 (by simp)) f t
  rw [e1] at hm
  have HDD := Lib.hid h
  have HEE := Lib.hid hE
  have HEB := Lib.hid hEB
  obtain ⟨f0, f1, t1, f8⟩ := mayB_true e1
  have hh := fun W => holds_any W L f t n (by omega) f0 f1 (by omega)
  rw [e2] at hh
  have HH := Lib.hid hh
  have F8 := Lib.hid f8
  clear hh f8
  have hl := fun W (hk : Keep [] w W) => leaves_any W L S (HDD.out.keep hk (by simp)) f t f0 f1 (by omega) A n cap E ((HEE.out.keep0 hk).weaken (by simp))
  rw [e3] at hl
  have HL := Lib.hid hl
  clear hl
  obtain ⟨g1, g2⟩ := holdsB_true e2
  have e9 : IntKind.u64.wrap (n : Int) = n := IntWalk.u64_in _ (by omega)
  clear hbx hB h hE hEB e1 e2 e3
  go_enter Try.func17, Try.ntmps17
  go_wp2_with fail
  generalize w.alloc (.cells #[.pointer (some ⟨L.d, 0, none⟩), .int .i64 f, .int .i64 t] 73) = wa at *
  (with_reducible refine hm.mono ?_)
  rintro e w1 ⟨rfl, hK1⟩
  clear hm
  obtain ⟨b0, b1, b2, b3⟩ := HBX.out w1 hK1
  have h2 := HH.out w1
  go_wp2_with fail
  (with_reducible refine h2.mono ?_)
  rintro e w2 ⟨rfl, hK2⟩
  clear h2 b0 b1 b2 b3
  obtain ⟨b0, b1, b2, b3⟩ := HBX.out w2 (hK1.trans hK2)
  have h3 := HL.out w2 ((k0.trans hK1).trans hK2)
  go_wp2_with fail
  (with_reducible refine h3.mono ?_)
  rintro e w3 ⟨rfl, hK3⟩
  clear h3 b0 b1 b2 b3
  go_wp2
  go_ret
  exact ⟨rfl, HDD.out.keep (((k0.trans hK1).trans hK2).trans hK3) (by simp), (((k0.trans hK1).trans hK2).trans hK3).of_nil⟩

set_option maxHeartbeats 4000000 in
theorem write_4 (w : World) (L : Loc) (S : St) (h : Dev w L S) (f t : Int) (A : Option Addr) (n cap : Nat) (E : Nat → Ent) (hE : Ents w L.own A n cap E) (hEB : EB E n) (s0 : 0 ≤ S.steps) (s1 : S.steps < 800000) (e1 : mayB S.n f t = true) (e2 : holdsB f t n = true) (e3 : leavesB S.n f t E n = true) (e4 : S.off = true) :
    Calls Try.prog 17 #[.pointer (some ⟨L.d, 0, none⟩), .int .i64 f, .int .i64 t, .slice A n cap] w (Did L S w (.int .i64 7)) := by
  have k0 : Keep [] w (w.alloc (.cells #[.pointer (some ⟨L.d, 0, none⟩), .int .i64 f, .int .i64 t] 73)) := Keep.alloc _ _
  have hB := h.fresh
  have hbx := fun W (hk : Keep [] (w.alloc (.cells #[.pointer (some ⟨L.d, 0, none⟩), .int .i64 f, .int .i64 t] 73)) W) => box3 (w := w) (W' := W) (own := []) rfl hk (by simp)
  have HBX := Lib.hid hbx
  have hcap := hE.cap
  have hnc := hE.nc
  have hSn := h.n
  have hm := may_any (w.alloc (.cells #[.pointer (some ⟨L.d, 0, none⟩), .int .i64 f, .int .i64 t] 73)) L S (h.keep k0 (by simp)) f t
  rw [e1] at hm
  have HDD := Lib.hid h
  have HEE := Lib.hid hE
  have HEB := Lib.hid hEB
  obtain ⟨f0, f1, t1, f8⟩ := mayB_true e1
  have hh := fun W => holds_any W L f t n (by omega) f0 f1 (by omega)
  rw [e2] at hh
  have HH := Lib.hid hh
  have F8 := Lib.hid f8
  clear hh f8
  have hl := fun W (hk : Keep [] w W) => leaves_any W L S (HDD.out.keep hk (by simp)) f t f0 f1 (by omega) A n cap E ((HEE.out.keep0 hk).weaken (by simp))
  rw [e3] at hl
  have HL := Lib.hid hl
  clear hl
  obtain ⟨g1, g2⟩ := holdsB_true e2
  have hld := fun W (hk : Keep [] w W) => load_there W L S (HDD.out.keep hk (by simp)) f f0 (by omega)
  rw [e4] at hld
  simp only [if_true] at hld
  have HLD := Lib.hid hld
  clear hld
  have e9 : IntKind.u64.wrap (n : Int) = n := IntWalk.u64_in _ (by omega)
  clear hbx hB h hE hEB e1 e2 e3 e4
  go_enter Try.func17, Try.ntmps17
  go_wp2_with fail
  generalize w.alloc (.cells #[.pointer (some ⟨L.d, 0, none⟩), .int .i64 f, .int .i64 t] 73) = wa at *
  (with_reducible refine hm.mono ?_)
  rintro e w1 ⟨rfl, hK1⟩
  clear hm
  obtain ⟨b0, b1, b2, b3⟩ := HBX.out w1 hK1
  have h2 := HH.out w1
  go_wp2_with fail
  (with_reducible refine h2.mono ?_)
  rintro e w2 ⟨rfl, hK2⟩
  clear h2 b0 b1 b2 b3
  obtain ⟨b0, b1, b2, b3⟩ := HBX.out w2 (hK1.trans hK2)
  have h3 := HL.out w2 ((k0.trans hK1).trans hK2)
  go_wp2_with fail
  (with_reducible refine h3.mono ?_)
  rintro e w3 ⟨rfl, hK3⟩
  clear h3 b0 b1 b2 b3
  obtain ⟨b0, b1, b2, b3⟩ := HBX.out w3 ((hK1.trans hK2).trans hK3)
  have h4 := HLD.out w3 (((k0.trans hK1).trans hK2).trans hK3)
  go_wp2_with fail
  (with_reducible refine h4.mono ?_)
  rintro e w4 ⟨rfl, rfl⟩
  clear h4
  go_wp2
  go_ret
  exact ⟨rfl, HDD.out.keep (((k0.trans hK1).trans hK2).trans hK3) (by simp), (((k0.trans hK1).trans hK2).trans hK3).of_nil⟩

set_option maxHeartbeats 4000000 in
theorem write_5 (w : World) (L : Loc) (S : St) (h : Dev w L S) (f t : Int) (A : Option Addr) (n cap : Nat) (E : Nat → Ent) (hE : Ents w L.own A n cap E) (hEB : EB E n) (s0 : 0 ≤ S.steps) (s1 : S.steps < 800000) (e1 : mayB S.n f t = true) (e2 : holdsB f t n = true) (e3 : leavesB S.n f t E n = true) (e4 : S.off = false) (e5 : S.now f.toNat ≠ 0) :
    Calls Try.prog 17 #[.pointer (some ⟨L.d, 0, none⟩), .int .i64 f, .int .i64 t, .slice A n cap] w (Did L S w (.int .i64 10)) := by
  have k0 : Keep [] w (w.alloc (.cells #[.pointer (some ⟨L.d, 0, none⟩), .int .i64 f, .int .i64 t] 73)) := Keep.alloc _ _
  have hB := h.fresh
  have hbx := fun W (hk : Keep [] (w.alloc (.cells #[.pointer (some ⟨L.d, 0, none⟩), .int .i64 f, .int .i64 t] 73)) W) => box3 (w := w) (W' := W) (own := []) rfl hk (by simp)
  have HBX := Lib.hid hbx
  have hcap := hE.cap
  have hnc := hE.nc
  have hSn := h.n
  have hm := may_any (w.alloc (.cells #[.pointer (some ⟨L.d, 0, none⟩), .int .i64 f, .int .i64 t] 73)) L S (h.keep k0 (by simp)) f t
  rw [e1] at hm
  have HDD := Lib.hid h
  have HEE := Lib.hid hE
  have HEB := Lib.hid hEB
  obtain ⟨f0, f1, t1, f8⟩ := mayB_true e1
  have hh := fun W => holds_any W L f t n (by omega) f0 f1 (by omega)
  rw [e2] at hh
  have HH := Lib.hid hh
  have F8 := Lib.hid f8
  clear hh f8
  have hl := fun W (hk : Keep [] w W) => leaves_any W L S (HDD.out.keep hk (by simp)) f t f0 f1 (by omega) A n cap E ((HEE.out.keep0 hk).weaken (by simp))
  rw [e3] at hl
  have HL := Lib.hid hl
  clear hl
  obtain ⟨g1, g2⟩ := holdsB_true e2
  have hld := fun W (hk : Keep [] w W) => load_there W L S (HDD.out.keep hk (by simp)) f f0 (by omega)
  rw [e4] at hld
  simp only [Bool.false_eq_true, if_false] at hld
  generalize S.now f.toNat = X at *
  have d5 : (X != 0) = true := by simpa using e5
  have HLD := Lib.hid hld
  clear hld e5
  have e9 : IntKind.u64.wrap (n : Int) = n := IntWalk.u64_in _ (by omega)
  clear hbx hB h hE hEB e1 e2 e3 e4
  go_enter Try.func17, Try.ntmps17
  go_wp2_with fail
  generalize w.alloc (.cells #[.pointer (some ⟨L.d, 0, none⟩), .int .i64 f, .int .i64 t] 73) = wa at *
  (with_reducible refine hm.mono ?_)
  rintro e w1 ⟨rfl, hK1⟩
  clear hm
  obtain ⟨b0, b1, b2, b3⟩ := HBX.out w1 hK1
  have h2 := HH.out w1
  go_wp2_with fail
  (with_reducible refine h2.mono ?_)
  rintro e w2 ⟨rfl, hK2⟩
  clear h2 b0 b1 b2 b3
  obtain ⟨b0, b1, b2, b3⟩ := HBX.out w2 (hK1.trans hK2)
  have h3 := HL.out w2 ((k0.trans hK1).trans hK2)
  go_wp2_with fail
  (with_reducible refine h3.mono ?_)
  rintro e w3 ⟨rfl, hK3⟩
  clear h3 b0 b1 b2 b3
  obtain ⟨b0, b1, b2, b3⟩ := HBX.out w3 ((hK1.trans hK2).trans hK3)
  have h4 := HLD.out w3 (((k0.trans hK1).trans hK2).trans hK3)
  go_wp2_with fail
  (with_reducible refine h4.mono ?_)
  rintro e w4 ⟨rfl, rfl⟩
  clear h4
  go_wp2
  go_ret
  exact ⟨rfl, HDD.out.keep (((k0.trans hK1).trans hK2).trans hK3) (by simp), (((k0.trans hK1).trans hK2).trans hK3).of_nil⟩

set_option maxHeartbeats 4000000 in
theorem write_6 (w : World) (L : Loc) (S : St) (h : Dev w L S) (f t : Int) (A : Option Addr) (n cap : Nat) (E : Nat → Ent) (hE : Ents w L.own A n cap E) (hEB : EB E n) (s0 : 0 ≤ S.steps) (s1 : S.steps < 800000) (e1 : mayB S.n f t = true) (e2 : holdsB f t n = true) (e3 : leavesB S.n f t E n = true) (e4 : S.off = false) (e5 : S.now f.toNat = 0) (e6 : n = 0) :
    Calls Try.prog 17 #[.pointer (some ⟨L.d, 0, none⟩), .int .i64 f, .int .i64 t, .slice A n cap] w (Did L S w (.int .i64 0)) := by
  have k0 : Keep [] w (w.alloc (.cells #[.pointer (some ⟨L.d, 0, none⟩), .int .i64 f, .int .i64 t] 73)) := Keep.alloc _ _
  have hB := h.fresh
  have hbx := fun W (hk : Keep [] (w.alloc (.cells #[.pointer (some ⟨L.d, 0, none⟩), .int .i64 f, .int .i64 t] 73)) W) => box3 (w := w) (W' := W) (own := []) rfl hk (by simp)
  have HBX := Lib.hid hbx
  have hcap := hE.cap
  have hnc := hE.nc
  have hSn := h.n
  have hm := may_any (w.alloc (.cells #[.pointer (some ⟨L.d, 0, none⟩), .int .i64 f, .int .i64 t] 73)) L S (h.keep k0 (by simp)) f t
  rw [e1] at hm
  have HDD := Lib.hid h
  have HEE := Lib.hid hE
  have HEB := Lib.hid hEB
  obtain ⟨f0, f1, t1, f8⟩ := mayB_true e1
  have hh := fun W => holds_any W L f t n (by omega) f0 f1 (by omega)
  rw [e2] at hh
  have HH := Lib.hid hh
  have F8 := Lib.hid f8
  clear hh f8
  have hl := fun W (hk : Keep [] w W) => leaves_any W L S (HDD.out.keep hk (by simp)) f t f0 f1 (by omega) A n cap E ((HEE.out.keep0 hk).weaken (by simp))
  rw [e3] at hl
  have HL := Lib.hid hl
  clear hl
  obtain ⟨g1, g2⟩ := holdsB_true e2
  have hld := fun W (hk : Keep [] w W) => load_there W L S (HDD.out.keep hk (by simp)) f f0 (by omega)
  rw [e4] at hld
  simp only [Bool.false_eq_true, if_false] at hld
  rw [e5] at hld
  have HLD := Lib.hid hld
  clear hld e5
  have e6' : ((n : Int) == 0) = true := by simp [e6]
  have e6'' : (n == 0) = true := by simp [e6]
  clear e6
  have e9 : IntKind.u64.wrap (n : Int) = n := IntWalk.u64_in _ (by omega)
  clear hbx hB h hE hEB e1 e2 e3 e4
  go_enter Try.func17, Try.ntmps17
  go_wp2_with fail
  generalize w.alloc (.cells #[.pointer (some ⟨L.d, 0, none⟩), .int .i64 f, .int .i64 t] 73) = wa at *
  (with_reducible refine hm.mono ?_)
  rintro e w1 ⟨rfl, hK1⟩
  clear hm
  obtain ⟨b0, b1, b2, b3⟩ := HBX.out w1 hK1
  have h2 := HH.out w1
  go_wp2_with fail
  (with_reducible refine h2.mono ?_)
  rintro e w2 ⟨rfl, hK2⟩
  clear h2 b0 b1 b2 b3
  obtain ⟨b0, b1, b2, b3⟩ := HBX.out w2 (hK1.trans hK2)
  have h3 := HL.out w2 ((k0.trans hK1).trans hK2)
  go_wp2_with fail
  (with_reducible refine h3.mono ?_)
  rintro e w3 ⟨rfl, hK3⟩
  clear h3 b0 b1 b2 b3
  obtain ⟨b0, b1, b2, b3⟩ := HBX.out w3 ((hK1.trans hK2).trans hK3)
  have h4 := HLD.out w3 (((k0.trans hK1).trans hK2).trans hK3)
  go_wp2_with fail
  (with_reducible refine h4.mono ?_)
  rintro e w4 ⟨rfl, rfl⟩
  clear h4
  go_wp2
  go_ret
  exact ⟨rfl, HDD.out.keep (((k0.trans hK1).trans hK2).trans hK3) (by simp), (((k0.trans hK1).trans hK2).trans hK3).of_nil⟩

set_option maxHeartbeats 4000000 in
theorem write_7 (w : World) (L : Loc) (S : St) (h : Dev w L S) (f t : Int) (A : Option Addr) (n cap : Nat) (E : Nat → Ent) (hE : Ents w L.own A n cap E) (hEB : EB E n) (s0 : 0 ≤ S.steps) (s1 : S.steps < 800000) (e1 : mayB S.n f t = true) (e2 : holdsB f t n = true) (e3 : leavesB S.n f t E n = true) (e4 : S.off = false) (e5 : S.now f.toNat = 0) (e6 : 0 < n) :
    Calls Try.prog 17 #[.pointer (some ⟨L.d, 0, none⟩), .int .i64 f, .int .i64 t, .slice A n cap] w (Did L (play S (wrOps f E n)).1 w (.int .i64 (play S (wrOps f E n)).2)) := by
  have k0 : Keep [] w (w.alloc (.cells #[.pointer (some ⟨L.d, 0, none⟩), .int .i64 f, .int .i64 t] 73)) := Keep.alloc _ _
  have hB := h.fresh
  have hbx := fun W (hk : Keep [] (w.alloc (.cells #[.pointer (some ⟨L.d, 0, none⟩), .int .i64 f, .int .i64 t] 73)) W) => box3 (w := w) (W' := W) (own := []) rfl hk (by simp)
  have HBX := Lib.hid hbx
  have hcap := hE.cap
  have hnc := hE.nc
  have hSn := h.n
  have hm := may_any (w.alloc (.cells #[.pointer (some ⟨L.d, 0, none⟩), .int .i64 f, .int .i64 t] 73)) L S (h.keep k0 (by simp)) f t
  rw [e1] at hm
  have HDD := Lib.hid h
  have HEE := Lib.hid hE
  have HEB := Lib.hid hEB
  obtain ⟨f0, f1, t1, f8⟩ := mayB_true e1
  have hh := fun W => holds_any W L f t n (by omega) f0 f1 (by omega)
  rw [e2] at hh
  have HH := Lib.hid hh
  have F8 := Lib.hid f8
  clear hh f8
  have hl := fun W (hk : Keep [] w W) => leaves_any W L S (HDD.out.keep hk (by simp)) f t f0 f1 (by omega) A n cap E ((HEE.out.keep0 hk).weaken (by simp))
  rw [e3] at hl
  have HL := Lib.hid hl
  clear hl
  obtain ⟨g1, g2⟩ := holdsB_true e2
  have hld := fun W (hk : Keep [] w W) => load_there W L S (HDD.out.keep hk (by simp)) f f0 (by omega)
  rw [e4] at hld
  simp only [Bool.false_eq_true, if_false] at hld
  rw [e5] at hld
  have HLD := Lib.hid hld
  clear hld e5
  have e6' : ((n : Int) == 0) = false := by simp; omega
  have e6'' : (n == 0) = false := by simp; omega
  have hr := fun W (hk : Keep [] w W) => run_false W L S (HDD.out.keep hk (by simp)) f t f0 (by omega) A n cap E (HEE.out.keep0 hk) (by omega) (fun j hj => by
    have h1 := leavesB_true.1 e3 j hj
    have h2 := HEB.out j hj
    have h3 := (atB_true hSn h2.1 h2.2.1).1 h1
    omega) s0 s1
  generalize play S (wrOps f E n) = R at *
  obtain ⟨SR, aR⟩ := R
  dsimp only at hr ⊢
  have HR := Lib.hid hr
  clear hr
  have e9 : IntKind.u64.wrap (n : Int) = n := IntWalk.u64_in _ (by omega)
  clear hbx hB h hE hEB e1 e2 e3 e4
  go_enter Try.func17, Try.ntmps17
  go_wp2_with fail
  generalize w.alloc (.cells #[.pointer (some ⟨L.d, 0, none⟩), .int .i64 f, .int .i64 t] 73) = wa at *
  (with_reducible refine hm.mono ?_)
  rintro e w1 ⟨rfl, hK1⟩
  clear hm
  obtain ⟨b0, b1, b2, b3⟩ := HBX.out w1 hK1
  have h2 := HH.out w1
  go_wp2_with fail
  (with_reducible refine h2.mono ?_)
  rintro e w2 ⟨rfl, hK2⟩
  clear h2 b0 b1 b2 b3
  obtain ⟨b0, b1, b2, b3⟩ := HBX.out w2 (hK1.trans hK2)
  have h3 := HL.out w2 ((k0.trans hK1).trans hK2)
  go_wp2_with fail
  (with_reducible refine h3.mono ?_)
  rintro e w3 ⟨rfl, hK3⟩
  clear h3 b0 b1 b2 b3
  obtain ⟨b0, b1, b2, b3⟩ := HBX.out w3 ((hK1.trans hK2).trans hK3)
  have h4 := HLD.out w3 (((k0.trans hK1).trans hK2).trans hK3)
  go_wp2_with fail
  (with_reducible refine h4.mono ?_)
  rintro e w4 ⟨rfl, rfl⟩
  clear h4
  have h5 := HR.out w3 (((k0.trans hK1).trans hK2).trans hK3)
  go_wp2_with fail
  (with_reducible refine h5.mono ?_)
  rintro e w5 ⟨rfl, hD5, hK5⟩
  go_wp2
  go_ret
  exact ⟨rfl, hD5, (((k0.trans hK1).trans hK2).trans hK3).of_nil.trans hK5⟩

theorem write_any (w : World) (L : Loc) (S : St) (h : Dev w L S) (f t : Int) (A : Option Addr) (n cap : Nat) (E : Nat → Ent) (hE : Ents w L.own A n cap E) (hEB : EB E n) (s0 : 0 ≤ S.steps) (s1 : S.steps < 800000) :
    Calls Try.prog 17 #[.pointer (some ⟨L.d, 0, none⟩), .int .i64 f, .int .i64 t, .slice A n cap] w (Did L (writeR S f t E n).1 w (.int .i64 (writeR S f t E n).2)) := by
  unfold writeR
  cases e1 : mayB S.n f t
  · exact write_1 w L S h f t A n cap E hE hEB s0 s1 e1
  cases e2 : holdsB f t n
  · exact write_2 w L S h f t A n cap E hE hEB s0 s1 e1 e2
  cases e3 : leavesB S.n f t E n
  · exact write_3 w L S h f t A n cap E hE hEB s0 s1 e1 e2 e3
  cases e4 : S.off
  · by_cases e5 : S.now f.toNat = 0
    · by_cases e6 : n = 0
      · have := write_6 w L S h f t A n cap E hE hEB s0 s1 e1 e2 e3 e4 e5 e6
        simpa [e5, e6] using this
      · have := write_7 w L S h f t A n cap E hE hEB s0 s1 e1 e2 e3 e4 e5 (by omega)
        simpa [e5, e6] using this
    · have := write_5 w L S h f t A n cap E hE hEB s0 s1 e1 e2 e3 e4 e5
      simpa [e5] using this
  · exact write_4 w L S h f t A n cap E hE hEB s0 s1 e1 e2 e3 e4
end Go.Proofs.Ytejhdmpobaffcaa
