/-
  The document's own device (scullionref3) in memory; its step, and the calls that only read it. No conditions but what a device is.
-/
import Derived.Test.YtejhdmpobaffcaaTwo
namespace Go.Proofs.Ytejhdmpobaffcaa
open Go.RowKit Go.Flo
set_option maxRecDepth 100000

structure TLoc where
  m : Nat
  l : Nat
  lc : Nat
  A : Option Addr

def TLoc.own (T : TLoc) : List Nat := [T.m, T.l]

/-- A row that is read alone, in a block that is not among D. -/
def Imm (w : World) (D : List Nat) (v : Value) (k : Nat) (f : Nat → Int) : Prop := ∃ g cap, v = .slice (some ⟨g, 0, none⟩) k cap ∧ Row w 44 g k cap (u64 f) ∧ g ∉ D

theorem Imm.keep {w w' : World} {D own : List Nat} {v : Value} {k : Nat} {f : Nat → Int} (h : Imm w D v k f) (hk : Keep own w w') (ho : ∀ x ∈ own, x ∈ D) : Imm w' D v k f := by
  obtain ⟨g, cap, h1, h2, h3⟩ := h
  exact ⟨g, cap, h1, h2.keep hk (fun hm => h3 (ho g hm)), h3⟩
theorem Imm.congr {w : World} {D : List Nat} {v : Value} {k : Nat} {f f' : Nat → Int} (h : Imm w D v k f) (he : ∀ i, i < k → f i = f' i) : Imm w D v k f' := by
  obtain ⟨g, cap, h1, h2, h3⟩ := h
  exact ⟨g, cap, h1, h2.congr (fun i hi => by unfold u64; rw [he i hi]), h3⟩

/-- A line, its four cells x. -/
structure LineOk (w : World) (D : List Nat) (k : Nat) (now sure tk : Nat → Int) (b : Bool) (x : Nat → Value) : Prop where
  now : Imm w D (x 0) k now
  sure : Imm w D (x 1) k sure
  at_ : b = true → Imm w D (x 2) k tk
  fl : x 3 = .bool b
  va : ∃ A n c, x 2 = .slice A n c

theorem LineOk.keep {w w' : World} {D own : List Nat} {k : Nat} {now sure tk : Nat → Int} {b : Bool} {x : Nat → Value} (h : LineOk w D k now sure tk b x) (hk : Keep own w w') (ho : ∀ y ∈ own, y ∈ D) : LineOk w' D k now sure tk b x :=
  ⟨h.now.keep hk ho, h.sure.keep hk ho, fun hb => (h.at_ hb).keep hk ho, h.fl, h.va⟩

structure Twin (w : World) (T : TLoc) (D : List Nat) (S : St) (X : Nat → Nat → Value) (fz : Int) (c : Array Value) : Prop where
  blk : Blk w T.m 34 #[.int .i64 S.n, .slice T.A (nl S.n) T.lc, .int .i64 S.steps, .int .i64 fz, .bool S.off]
  fuse : S.off = false → fz = S.fuse
  f0 : 0 ≤ fz
  f1 : fz ≤ 9223372036854775807
  n : S.n ≤ 65536
  capl : nl S.n ≤ T.lc
  capm : T.lc ≤ 9223372036854775807
  mD : T.m ∉ D
  lD : T.l ∉ D
  dlt : ∀ k ∈ D, k < w.heap.size
  lm : 0 < nl S.n → T.l ≠ T.m
  adr : 0 < nl S.n → T.A = some ⟨T.l, 0, none⟩
  lblk : 0 < nl S.n → Blk w T.l 87 c
  lsz : 4 * nl S.n ≤ c.size
  cells : ∀ i, i < nl S.n → ∀ r, r < 4 → c[i * 4 + r]? = some (X i r)
  ok : ∀ i, i < nl S.n → LineOk w (T.m :: T.l :: D) (hi S.n i - lo i) (fun j => S.now (lo i + j)) (fun j => S.sure (lo i + j)) (fun j => S.tk (lo i + j)) (S.fl i) (X i)

def TwinE (w : World) (T : TLoc) (D : List Nat) (S : St) : Prop := ∃ X fz c, Twin w T D S X fz c

section
variable {w w' : World} {T : TLoc} {D : List Nat} {S : St} {X : Nat → Nat → Value} {fz : Int} {c : Array Value}
theorem Twin.c0 (h : Twin w T D S X fz c) : w.cell? ⟨T.m, 0, none⟩ = some (.int .i64 S.n) := (h.blk.cell 0).trans rfl
theorem Twin.c1 (h : Twin w T D S X fz c) : w.cell? ⟨T.m, 1, none⟩ = some (.slice T.A (nl S.n) T.lc) := (h.blk.cell 1).trans rfl
theorem Twin.c2 (h : Twin w T D S X fz c) : w.cell? ⟨T.m, 2, none⟩ = some (.int .i64 S.steps) := (h.blk.cell 2).trans rfl
theorem Twin.c3 (h : Twin w T D S X fz c) : w.cell? ⟨T.m, 3, none⟩ = some (.int .i64 fz) := (h.blk.cell 3).trans rfl
theorem Twin.c4 (h : Twin w T D S X fz c) : w.cell? ⟨T.m, 4, none⟩ = some (.bool S.off) := (h.blk.cell 4).trans rfl
theorem Twin.z (h : Twin w T D S X fz c) (i : Nat) : w.frozen? ⟨T.m, i, none⟩ = false := h.blk.frozen i
theorem Twin.lcell (h : Twin w T D S X fz c) {i r : Nat} (hi' : i < nl S.n) (hr : r < 4) : w.cell? ⟨T.l, i * 4 + r, none⟩ = some (X i r) := ((h.lblk (by omega)).cell _).trans (h.cells i hi' r hr)
theorem Twin.lz (h : Twin w T D S X fz c) {i : Nat} (hi' : i < nl S.n) (j : Nat) : w.frozen? ⟨T.l, j, none⟩ = false := (h.lblk (by omega)).frozen j
theorem Twin.keep {own : List Nat} (h : Twin w T D S X fz c) (hk : Keep own w w') (ho : ∀ k ∈ own, k ∈ D) : Twin w' T D S X fz c :=
  { h with
    blk := h.blk.keep hk (fun hm => h.mD (ho _ hm))
    dlt := fun k hk' => Nat.lt_of_lt_of_le (h.dlt k hk') hk.size
    lblk := fun h0 => (h.lblk h0).keep hk (fun hm => h.lD (ho _ hm))
    ok := fun i hi' => (h.ok i hi').keep hk (fun k hk' => List.mem_cons_of_mem _ (List.mem_cons_of_mem _ (ho k hk'))) }
theorem Twin.dr (h : Twin w T D S X fz c) (d : Dr w w') : Twin w' T D S X fz c := h.keep (own := []) (Keep.dr d) (by simp)

theorem Twin.setM (h : Twin w T D S X fz c) (k : Nat) (v : Value) : Keep [T.m] w (w.setCell ⟨T.m, k, none⟩ v) ∧ (0 < nl S.n → Blk (w.setCell ⟨T.m, k, none⟩ v) T.l 87 c) ∧ (∀ d ∈ D, d < (w.setCell ⟨T.m, k, none⟩ v).heap.size) ∧
    ∀ i, i < nl S.n → LineOk (w.setCell ⟨T.m, k, none⟩ v) (T.m :: T.l :: D) (hi S.n i - lo i) (fun j => S.now (lo i + j)) (fun j => S.sure (lo i + j)) (fun j => S.tk (lo i + j)) (S.fl i) (X i) := by
  have hk : Keep [T.m] w (w.setCell ⟨T.m, k, none⟩ v) := Keep.setCell _ _ (by simp) _
  exact ⟨hk, fun h0 => (h.lblk h0).far (h.lm h0) _, fun d hd => Nat.lt_of_lt_of_le (h.dlt d hd) hk.size, fun i hi' => (h.ok i hi').keep hk (by simp)⟩
theorem Twin.set2 (h : Twin w T D S X fz c) (x : Int) : Twin (w.setCell ⟨T.m, 2, none⟩ (.int .i64 x)) T D { S with steps := x } X fz c := by
  obtain ⟨_, h2, h3, h4⟩ := h.setM 2 (.int .i64 x)
  exact { h with blk := h.blk.set_ 2 _, dlt := h3, lblk := h2, ok := h4 }
theorem Twin.set3 (h : Twin w T D S X fz c) (x y : Int) (h0 : 0 ≤ x) (h1 : x ≤ 9223372036854775807) (hx : S.off = false → x = y) : Twin (w.setCell ⟨T.m, 3, none⟩ (.int .i64 x)) T D { S with fuse := y } X x c := by
  obtain ⟨_, h2, h3, h4⟩ := h.setM 3 (.int .i64 x)
  exact { h with blk := h.blk.set_ 3 _, dlt := h3, lblk := h2, ok := h4, fuse := hx, f0 := h0, f1 := h1 }
theorem Twin.set4 (h : Twin w T D S X fz c) (b : Bool) (hb : b = false → fz = S.fuse) : Twin (w.setCell ⟨T.m, 4, none⟩ (.bool b)) T D { S with off := b } X fz c := by
  obtain ⟨_, h2, h3, h4⟩ := h.setM 4 (.bool b)
  exact { h with blk := h.blk.set_ 4 _, dlt := h3, lblk := h2, ok := h4, fuse := hb }
end

theorem is_any (w : World) (T : TLoc) (D : List Nat) (S : St) (h : TwinE w T D S) (x : Int) :
    Calls Try.prog 54 #[.pointer (some ⟨T.m, 0, none⟩), .int .i64 x] w fun e w' => e = .returned (.bool (hasB S.n x)) ∧ w = w' := by
  obtain ⟨X, fz, c, h⟩ := h
  have c0 := h.c0
  by_cases h0 : 0 ≤ x
  · have hd : decide (0 ≤ x) = true := by simpa using h0
    go_enter Try.func54, Try.ntmps54
    go_wp2
    go_ret
    exact ⟨by simp [hasB, h0], rfl⟩
  · have hd : decide (0 ≤ x) = false := by simpa using h0
    have e : hasB S.n x = false := by simp [hasB]; omega
    rw [e]
    go_enter Try.func54, Try.ntmps54
    go_wp2
    go_ret
    exact ⟨rfl, rfl⟩

theorem end_any (w : World) (x : Int) (b : Bool) : Calls Try.prog 60 #[.int .i64 x, .bool b] w fun e w' => e = .returned (.int .i64 (if b then 7 else x)) ∧ w = w' := by
  cases b
  · go_enter Try.func60, Try.ntmps60
    go_wp2
    go_ret
    exact ⟨rfl, rfl⟩
  · go_enter Try.func60, Try.ntmps60
    go_wp2
    go_ret
    exact ⟨rfl, rfl⟩

/-- A call that has turned the document's device, and nothing else. -/
def TDid (T : TLoc) (D : List Nat) (S : St) (w : World) (v : Value) (e : Ending) (w' : World) : Prop := e = .returned v ∧ TwinE w' T D S ∧ Keep T.own w w'

theorem stepped {w : World} {T : TLoc} {D : List Nat} {S : St} {X : Nat → Nat → Value} {c : Array Value} (h : Twin w T D S X S.fuse c) (x : Int) (b : Bool) (hx : x = (stepS S).fuse) (hb : b = (stepS S).off) :
    TwinE (((w.setCell ⟨T.m, 2, none⟩ (.int .i64 (S.steps + 1))).setCell ⟨T.m, 3, none⟩ (.int .i64 x)).setCell ⟨T.m, 4, none⟩ (.bool b)) T D (stepS S) ∧
    Keep T.own w (((w.setCell ⟨T.m, 2, none⟩ (.int .i64 (S.steps + 1))).setCell ⟨T.m, 3, none⟩ (.int .i64 x)).setCell ⟨T.m, 4, none⟩ (.bool b)) := by
  have kd : ∀ (v : World) (o : Nat) (u : Value), Keep T.own v (v.setCell ⟨T.m, o, none⟩ u) := fun v o u => Keep.setCell v _ (by simp [TLoc.own]) u
  have f0 := h.f0
  have f1 := h.f1
  have hx0 : 0 ≤ x ∧ x ≤ 9223372036854775807 := by
    rw [hx]
    unfold stepS
    dsimp only
    split <;> omega
  refine ⟨⟨X, x, c, ?_⟩, ((kd _ _ _).trans (kd _ _ _)).trans (kd _ _ _)⟩
  have h' := ((h.set2 (S.steps + 1)).set3 x (stepS S).fuse hx0.1 hx0.2 (fun _ => hx)).set4 b (fun _ => hx)
  rw [hb] at h' ⊢
  exact h'

set_option maxHeartbeats 1000000 in
theorem rstep_on (w : World) (T : TLoc) (D : List Nat) (S : St) (h : TwinE w T D S) (h0 : 0 ≤ S.steps) (h1 : S.steps < 1000000) (ho : S.off = false) :
    Calls Try.prog 59 #[.pointer (some ⟨T.m, 0, none⟩)] w (TDid T D (stepS S) w (.tuple #[.int .i64 0, .bool (stepS S).off])) := by
  obtain ⟨X, fz, c, h⟩ := h
  have hfz := h.fuse ho
  subst hfz
  have f0 := h.f0
  have f1 := h.f1
  have c2 := h.c2
  have c3 := h.c3
  have c4 := h.c4
  rw [ho] at c4
  have z := h.z
  rcases Int.lt_trichotomy S.fuse 1 with hf | hf | hf
  · have hz : S.fuse = 0 := by omega
    have hE := stepped h 0 false (by simp [stepS, hz]) (by simp [stepS, ho, hz])
    have hoff : (stepS S).off = false := by simp [stepS, ho, hz]
    rw [hz] at c3
    rw [hoff]
    clear hz hf h f0 f1 hoff ho
    go_enter Try.func59, Try.ntmps59
    go_wp2
    go_ret2
    exact ⟨rfl, hE.1, hE.2⟩
  · have hE := stepped h 0 true (by simp [stepS, hf]) (by simp [stepS, ho, hf])
    have hoff : (stepS S).off = true := by simp [stepS, ho, hf]
    rw [hf] at c3
    rw [hoff]
    clear hf h f0 f1 hoff ho
    go_enter Try.func59, Try.ntmps59
    go_wp2
    go_ret2
    exact ⟨rfl, hE.1, hE.2⟩
  · have hne : ¬ S.fuse = 1 := by omega
    have hpos : 0 < S.fuse := by omega
    have hE := stepped h (S.fuse - 1) false (by simp [stepS, hpos]) (by simp [stepS, ho, hne])
    have hoff : (stepS S).off = false := by simp [stepS, ho, hne]
    rw [hoff]
    generalize hF : S.fuse = F at *
    have hb : (F == 1) = false := beq_eq_false_iff_ne.2 hne
    have hm : wrap64 (F - 1) = F - 1 := by unfold wrap64; omega
    have hm2 : (0 : Int) < F - 1 := by omega
    clear hF h f0 hoff ho hne
    go_enter Try.func59, Try.ntmps59
    go_wp2
    go_ret2
    exact ⟨rfl, hE.1, hE.2⟩

set_option maxHeartbeats 1000000 in
theorem rstep_off (w : World) (T : TLoc) (D : List Nat) (S : St) (h : TwinE w T D S) (h0 : 0 ≤ S.steps) (h1 : S.steps < 1000000) (ho : S.off = true) :
    Calls Try.prog 59 #[.pointer (some ⟨T.m, 0, none⟩)] w (TDid T D (stepS S) w (.tuple #[.int .i64 7, .bool false])) := by
  obtain ⟨X, fz, c, h⟩ := h
  have c2 := h.c2
  have c4 := h.c4
  rw [ho] at c4
  have z := h.z
  have hE : TwinE (w.setCell ⟨T.m, 2, none⟩ (.int .i64 (S.steps + 1))) T D (stepS S) := by
    refine ⟨X, fz, c, ?_⟩
    have h' := h.set2 (S.steps + 1)
    have e : (stepS S).off = true := by simp [stepS, ho]
    exact { h' with
      blk := by have := h'.blk; dsimp only at this; rw [ho] at this; rw [e]; exact this
      fuse := fun hf => by rw [e] at hf; cases hf }
  clear h ho
  go_enter Try.func59, Try.ntmps59
  go_wp2
  go_ret2
  exact ⟨rfl, hE, Keep.setCell _ _ (by simp [TLoc.own]) _⟩

set_option maxHeartbeats 1000000 in
theorem rsame_any (w : World) (g o c g' o' c' k : Nat) (a b : Nat → Int) (hk : k ≤ 65536) (ha : ∀ j, j < k → w.cell? ⟨g, o + j, none⟩ = some (.int .u64 (a j))) (hb : ∀ j, j < k → w.cell? ⟨g', o' + j, none⟩ = some (.int .u64 (b j))) :
    Calls Try.prog 51 #[.slice (some ⟨g, o, none⟩) k c, .slice (some ⟨g', o', none⟩) k c'] w fun e w' => e = .returned (.bool (eqB k a b)) ∧ Dr w w' := by
  have HA := Lib.hid ha
  have HB := Lib.hid hb
  clear ha hb
  go_enter Try.func51, Try.ntmps51
  go_wp2
  go_loopw [8] (fun x wr => EqRel w k a b x wr) (fun x _ => k - (intOf x).toNat)
  case atStart => exact ⟨0, by omega, rfl, fun i hi => by omega, Dr.refl _⟩
  case round =>
    obtain ⟨j, hj, rfl, heq, hd⟩ := hrel
    have HE := Lib.hid heq
    clear heq
    obtain ⟨m, rfl⟩ := hd
    by_cases hlt : j < k
    · have ca := HA.out j hlt
      have cb := HB.out j hlt
      by_cases hab : a j = b j
      · rw [hab] at ca
        have HAB := Lib.hid hab
        clear hab
        go_wp2
        go_quiet (fail)
        go_wp2
        go_roundw
        case rel => exact ⟨j + 1, by omega, by go_num, fun i hi => by
          rcases Nat.lt_or_ge i j with h | h
          · exact HE.out i h
          · rw [show i = j by omega]; exact HAB.out, Dr.drewN _ _⟩
        case measure => simp [intOf]; omega
      · have hne : (a j != b j) = true := by simpa using hab
        have HN := Lib.hid hab
        clear hab
        go_wp2
        go_quiet (fail)
        go_wp2
        go_ret
        exact ⟨by rw [eqB_no hlt HN.out]; rfl, (Dr.drewN _ _).trans (Dr.drewN _ _)⟩
    · have hjk : j = k := by omega
      subst hjk
      go_wp2
      go_ret
      exact ⟨by rw [eqB_true.2 HE.out]; rfl, Dr.drewN _ _⟩

set_option maxHeartbeats 1000000 in
theorem rload_any (w : World) (T : TLoc) (D : List Nat) (S : St) (h : TwinE w T D S) (x : Int) :
    Calls Try.prog 29 #[.pointer (some ⟨T.m, 0, none⟩), .int .i64 x] w (LoadPost S x w) := by
  have h1 := is_any w T D S h x
  obtain ⟨X, fz, c, h⟩ := h
  have c4 := h.c4
  have c1 := h.c1
  have hn := h.n
  cases ho : S.off
  · rw [ho] at c4
    cases hh : hasB S.n x
    · rw [hh] at h1
      have hfin : loadV S x = 0 ∧ ans S.off (hasB S.n x) = 1 := by rw [hh, ho]; exact ⟨by simp [loadV, hh], rfl⟩
      have HF := Lib.hid hfin
      clear hfin hh ho h
      go_enter Try.func29, Try.ntmps29
      go_wp2_with fail
      (with_reducible refine h1.mono ?_)
      rintro e w' ⟨rfl, rfl⟩
      go_wp2
      go_ret2
      obtain ⟨e1, e2⟩ := HF.out
      exact ⟨by rw [e1, e2]; rfl, rfl⟩
    · obtain ⟨x0, x1⟩ := hasB_true hh
      obtain ⟨k, rfl⟩ := Int.eq_ofNat_of_zero_le x0
      have hk : k < S.n := by omega
      have hl : k / 8 < nl S.n := by unfold nl; omega
      obtain ⟨g, cap, hX, hR, _⟩ := (h.ok (k / 8) hl).now
      have cl := h.lcell hl (show 0 < 4 by omega)
      rw [hX, Nat.add_zero] at cl
      have hA := h.adr (by omega)
      rw [hA] at c1
      have hr : k % 8 < hi S.n (k / 8) - lo (k / 8) := by unfold hi lo; omega
      have cr := hR.cell hr
      unfold u64 at cr
      dsimp only at cr
      have e8 : lo (k / 8) + k % 8 = k := by unfold lo; omega
      rw [e8] at cr
      have hcapl := h.capl
      rw [hh] at h1
      have hfin : loadV S k = S.now k ∧ ans S.off (hasB S.n k) = 0 := by rw [hh, ho]; exact ⟨by simp [loadV, hh, ho], rfl⟩
      have HF := Lib.hid hfin
      have y1 : (k : Int) / 8 < ((nl S.n : Nat) : Int) := by omega
      have y2 : (k : Int) % 8 < ((hi S.n (k / 8) - lo (k / 8) : Nat) : Int) := by omega
      generalize hi S.n (k / 8) - lo (k / 8) = HL at *
      clear hfin hh ho h hX hR e8
      go_enter Try.func29, Try.ntmps29
      go_wp2_with fail
      (with_reducible refine h1.mono ?_)
      rintro e w' ⟨rfl, rfl⟩
      go_wp2
      go_ret2
      obtain ⟨e1, e2⟩ := HF.out
      exact ⟨by rw [e1, e2]; rfl, rfl⟩
  · rw [ho] at c4
    have hfin : loadV S x = 0 ∧ ans S.off (hasB S.n x) = 7 := by rw [ho]; exact ⟨by simp [loadV, ho], rfl⟩
    have HF := Lib.hid hfin
    clear hfin ho h
    go_enter Try.func29, Try.ntmps29
    go_wp2
    go_ret2
    obtain ⟨e1, e2⟩ := HF.out
    exact ⟨by rw [e1, e2]; rfl, rfl⟩
end Go.Proofs.Ytejhdmpobaffcaa
