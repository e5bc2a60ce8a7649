/-
  The device of package nvm in memory; the calls that only read it, and the step. No conditions but what a device is.
-/
import Derived.Test.YtejhdmpobaffcaaRows
import Derived.Test.YtejhdmpobaffcaaMem
import Derived.Test.YtejhdmpobaffcaaRound
import Derived.RegionTactic
import Derived.ChangeAlike
import Derived.StillTailTactics
namespace Go.Proofs.Ytejhdmpobaffcaa
open Go.RowKit Go.Flo
set_option maxRecDepth 100000

/-- What a device is. -/
structure St where
  n : Nat
  now : Nat → Int
  sure : Nat → Int
  tk : Nat → Int
  fl : Nat → Bool
  steps : Int
  fuse : Int
  off : Bool

/-- Where it lies. -/
structure Loc where
  d : Nat
  r : Nat
  s : Nat
  t : Nat
  f : Nat
  rc : Nat
  sc : Nat
  tc : Nat
  fc : Nat

/-- Lines. -/
def nl (n : Nat) : Nat := (n + 7) / 8

def u64 (f : Nat → Int) (i : Nat) : Value := .int .u64 (f i)
def bl (f : Nat → Bool) (i : Nat) : Value := .bool (f i)

structure Dev (w : World) (L : Loc) (S : St) : Prop where
  blk : Blk w L.d 71 #[.slice (some ⟨L.r, 0, none⟩) S.n L.rc, .slice (some ⟨L.s, 0, none⟩) S.n L.sc, .slice (some ⟨L.t, 0, none⟩) S.n L.tc, .slice (some ⟨L.f, 0, none⟩) (nl S.n) L.fc, .int .i64 S.steps, .int .i64 S.fuse, .bool S.off]
  r : Row w 44 L.r S.n L.rc (u64 S.now)
  s : Row w 44 L.s S.n L.sc (u64 S.sure)
  t : Row w 44 L.t S.n L.tc (u64 S.tk)
  f : Row w 4 L.f (nl S.n) L.fc (bl S.fl)
  dr : L.d ≠ L.r
  ds : L.d ≠ L.s
  dt : L.d ≠ L.t
  df : L.d ≠ L.f
  rs : L.r ≠ L.s
  rt : L.r ≠ L.t
  rf : L.r ≠ L.f
  st : L.s ≠ L.t
  sf : L.s ≠ L.f
  tf : L.t ≠ L.f
  n : S.n ≤ 65536
  fuse0 : 0 ≤ S.fuse
  fuse1 : S.fuse ≤ 9223372036854775807

def Loc.own (L : Loc) : List Nat := [L.d, L.r, L.s, L.t, L.f]

section
variable {w w' : World} {L : Loc} {S : St}
theorem Dev.c0 (h : Dev w L S) : w.cell? ⟨L.d, 0, none⟩ = some (.slice (some ⟨L.r, 0, none⟩) S.n L.rc) := (h.blk.cell 0).trans rfl
theorem Dev.c1 (h : Dev w L S) : w.cell? ⟨L.d, 1, none⟩ = some (.slice (some ⟨L.s, 0, none⟩) S.n L.sc) := (h.blk.cell 1).trans rfl
theorem Dev.c2 (h : Dev w L S) : w.cell? ⟨L.d, 2, none⟩ = some (.slice (some ⟨L.t, 0, none⟩) S.n L.tc) := (h.blk.cell 2).trans rfl
theorem Dev.c3 (h : Dev w L S) : w.cell? ⟨L.d, 3, none⟩ = some (.slice (some ⟨L.f, 0, none⟩) (nl S.n) L.fc) := (h.blk.cell 3).trans rfl
theorem Dev.c4 (h : Dev w L S) : w.cell? ⟨L.d, 4, none⟩ = some (.int .i64 S.steps) := (h.blk.cell 4).trans rfl
theorem Dev.c5 (h : Dev w L S) : w.cell? ⟨L.d, 5, none⟩ = some (.int .i64 S.fuse) := (h.blk.cell 5).trans rfl
theorem Dev.c6 (h : Dev w L S) : w.cell? ⟨L.d, 6, none⟩ = some (.bool S.off) := (h.blk.cell 6).trans rfl
theorem Dev.z (h : Dev w L S) (i : Nat) : w.frozen? ⟨L.d, i, none⟩ = false := h.blk.frozen i
theorem Dev.keep {own : List Nat} (h : Dev w L S) (hk : Keep own w w') (ho : ∀ k ∈ own, k ∉ L.own) : Dev w' L S := by
  have a : ∀ k ∈ L.own, k ∉ own := fun k hk hm => ho k hm hk
  exact { h with blk := h.blk.keep hk (a _ (by simp [Loc.own])), r := h.r.keep hk (a _ (by simp [Loc.own])), s := h.s.keep hk (a _ (by simp [Loc.own])), t := h.t.keep hk (a _ (by simp [Loc.own])), f := h.f.keep hk (a _ (by simp [Loc.own])) }
theorem Dev.dr_ (h : Dev w L S) (d : Dr w w') : Dev w' L S := h.keep (own := []) (Keep.dr d) (by simp)
end

section
variable {w w' : World} {L : Loc} {S S' : St}
theorem Dev.set4 (h : Dev w L S) (x : Int) : Dev (w.setCell ⟨L.d, 4, none⟩ (.int .i64 x)) L { S with steps := x } :=
  { h with blk := h.blk.set_ 4 _, r := h.r.far h.dr.symm _, s := h.s.far h.ds.symm _, t := h.t.far h.dt.symm _, f := h.f.far h.df.symm _ }
theorem Dev.set5 (h : Dev w L S) (x : Int) (h0 : 0 ≤ x) (h1 : x ≤ 9223372036854775807) : Dev (w.setCell ⟨L.d, 5, none⟩ (.int .i64 x)) L { S with fuse := x } :=
  { h with blk := h.blk.set_ 5 _, r := h.r.far h.dr.symm _, s := h.s.far h.ds.symm _, t := h.t.far h.dt.symm _, f := h.f.far h.df.symm _, fuse0 := h0, fuse1 := h1 }
theorem Dev.set6 (h : Dev w L S) (b : Bool) : Dev (w.setCell ⟨L.d, 6, none⟩ (.bool b)) L { S with off := b } :=
  { h with blk := h.blk.set_ 6 _, r := h.r.far h.dr.symm _, s := h.s.far h.ds.symm _, t := h.t.far h.dt.symm _, f := h.f.far h.df.symm _ }
theorem Dev.setNow (h : Dev w L S) (k : Nat) (x : Int) : Dev (w.setCell ⟨L.r, k, none⟩ (.int .u64 x)) L { S with now := fun i => if i = k then x else S.now i } :=
  { h with blk := h.blk.far h.dr _, r := (h.r.set_ k _).congr (fun i _ => by unfold u64; dsimp only; split <;> rfl), s := h.s.far h.rs.symm _, t := h.t.far h.rt.symm _, f := h.f.far h.rf.symm _ }
theorem Dev.setFl (h : Dev w L S) (k : Nat) (x : Bool) : Dev (w.setCell ⟨L.f, k, none⟩ (.bool x)) L { S with fl := fun i => if i = k then x else S.fl i } :=
  { h with blk := h.blk.far h.df _, r := h.r.far h.rf _, s := h.s.far h.sf _, t := h.t.far h.tf _, f := (h.f.set_ k _).congr (fun i _ => by unfold bl; dsimp only; split <;> rfl) }
theorem Dev.rowR (h : Dev w L S) (g : Nat → Int) (hr : Row w' 44 L.r S.n L.rc (u64 g)) (hk : Keep [L.r] w w') : Dev w' L { S with now := g } :=
  { h with blk := h.blk.keep hk (by simpa using h.dr), r := hr, s := h.s.keep hk (by simpa using h.rs.symm), t := h.t.keep hk (by simpa using h.rt.symm), f := h.f.keep hk (by simpa using h.rf.symm) }
theorem Dev.rowS (h : Dev w L S) (g : Nat → Int) (hr : Row w' 44 L.s S.n L.sc (u64 g)) (hk : Keep [L.s] w w') : Dev w' L { S with sure := g } :=
  { h with blk := h.blk.keep hk (by simpa using h.ds), s := hr, r := h.r.keep hk (by simpa using h.rs), t := h.t.keep hk (by simpa using h.st.symm), f := h.f.keep hk (by simpa using h.sf.symm) }
theorem Dev.rowT (h : Dev w L S) (g : Nat → Int) (hr : Row w' 44 L.t S.n L.tc (u64 g)) (hk : Keep [L.t] w w') : Dev w' L { S with tk := g } :=
  { h with blk := h.blk.keep hk (by simpa using h.dt), t := hr, r := h.r.keep hk (by simpa using h.rt), s := h.s.keep hk (by simpa using h.st), f := h.f.keep hk (by simpa using h.tf.symm) }
/-- What is asked of a device is asked of its words and lines alone. -/
theorem Dev.congr (h : Dev w L S) (hn : S'.n = S.n) (h1 : S'.steps = S.steps) (h2 : S'.fuse = S.fuse) (h3 : S'.off = S.off)
    (hr : ∀ i, i < S.n → S.now i = S'.now i) (hs : ∀ i, i < S.n → S.sure i = S'.sure i) (ht : ∀ i, i < S.n → S.tk i = S'.tk i) (hf : ∀ i, i < nl S.n → S.fl i = S'.fl i) : Dev w L S' := by
  obtain ⟨n, now, sure, tk, fl, steps, fuse, off⟩ := S'
  dsimp only at hn h1 h2 h3 hr hs ht hf
  subst hn h1 h2 h3
  exact { h with r := h.r.congr (fun i hi => by unfold u64; rw [hr i hi]), s := h.s.congr (fun i hi => by unfold u64; rw [hs i hi]), t := h.t.congr (fun i hi => by unfold u64; rw [ht i hi]), f := h.f.congr (fun i hi => by unfold bl; rw [hf i hi]) }
theorem Dev.lt (h : Dev w L S) : ∀ k ∈ L.own, k < w.heap.size := by
  intro k hk
  simp only [Loc.own, List.mem_cons, List.not_mem_nil, or_false] at hk
  rcases hk with rfl | rfl | rfl | rfl | rfl
  · exact h.blk.lt
  · exact h.r.lt
  · exact h.s.lt
  · exact h.t.lt
  · exact h.f.lt
end

/-- A call that has turned a device, and nothing else. -/
def Did (L : Loc) (S : St) (w : World) (v : Value) (e : Ending) (w' : World) : Prop := e = .returned v ∧ Dev w' L S ∧ Keep L.own w w'

theorem copied (F k : Nat) (a b : Nat → Int) (i : Nat) : (if F ≤ i ∧ i < F + k then u64 a (F + (i - F)) else u64 b i) = u64 (fun i => if F ≤ i ∧ i < F + k then a i else b i) i := by
  unfold u64
  dsimp only
  split
  · rw [show F + (i - F) = i by omega]
  · rfl

/-- Is there such a word? -/
def hasB (n : Nat) (at_ : Int) : Bool := decide (0 ≤ at_) && decide (at_ < n)

theorem has_any (w : World) (L : Loc) (S : St) (h : Dev w L S) (x : Int) :
    Calls Try.prog 57 #[.pointer (some ⟨L.d, 0, none⟩), .int .i64 x] w fun e w' => e = .returned (.bool (hasB S.n x)) ∧ w = w' := by
  have c0 := h.c0
  by_cases h0 : 0 ≤ x
  · have hd : decide (0 ≤ x) = true := by simpa using h0
    go_enter Try.func57, Try.ntmps57
    go_wp2
    go_ret
    exact ⟨by simp [hasB, h0], rfl⟩
  · have hd : decide (0 ≤ x) = false := by simpa using h0
    go_enter Try.func57, Try.ntmps57
    go_wp2
    go_ret
    have e : hasB S.n x = false := by simp [hasB]; omega
    exact ⟨by rw [e]; rfl, rfl⟩

/-- What a call answers, if the power is there or not. -/
def ans (off b : Bool) : Int := if off then 7 else if b then 0 else 1

theorem answer_any (w : World) (L : Loc) (S : St) (h : Dev w L S) (b : Bool) :
    Calls Try.prog 56 #[.pointer (some ⟨L.d, 0, none⟩), .bool b] w fun e w' => e = .returned (.int .i64 (ans S.off b)) ∧ w = w' := by
  have c6 := h.c6
  cases ho : S.off
  · rw [ho] at c6
    cases b
    · go_enter Try.func56, Try.ntmps56
      go_wp2
      go_ret
      exact ⟨by simp [ans], rfl⟩
    · go_enter Try.func56, Try.ntmps56
      go_wp2
      go_ret
      exact ⟨by simp [ans], rfl⟩
  · rw [ho] at c6
    go_enter Try.func56, Try.ntmps56
    go_wp2
    go_ret
    exact ⟨by simp [ans], rfl⟩

/-- The first word of a line. -/
def lo (l : Nat) : Nat := 8 * l

/-- The end of a line. -/
def hi (n l : Nat) : Nat := min (8 * l + 8) n

def SpanPost (n l : Nat) (w : World) (e : Ending) (w' : World) : Prop := e = .returned (.tuple #[.int .i64 (lo l : Nat), .int .i64 (hi n l : Nat)]) ∧ Dr w w'

theorem span_any (w : World) (L : Loc) (S : St) (h : Dev w L S) (l : Nat) (hl : l < nl S.n) :
    Calls Try.prog 68 #[.pointer (some ⟨L.d, 0, none⟩), .int .i64 l] w (SpanPost S.n l w) := by
  have c0 := h.c0
  have hn := h.n
  unfold nl at hl
  have hhi : (hi S.n l : Int) = min (8 * l + 8) S.n ∧ (lo l : Int) = 8 * l := by unfold hi lo; omega
  have HH := Lib.hid hhi
  clear hhi
  go_enter Try.func68, Try.ntmps68
  go_wp2
  go_quiet (fail)
  go_wp2
  all_goals
    go_ret2
    obtain ⟨h1, h2⟩ := HH.out
    refine ⟨?_, Dr.drewN _ _⟩
    rw [h1, h2]
    congr 3
    simp
    omega

/-- A step is counted. -/
def stepS (S : St) : St := { S with steps := S.steps + 1, fuse := if 0 < S.fuse then S.fuse - 1 else S.fuse, off := S.off || decide (S.fuse = 1) }

set_option maxHeartbeats 1000000 in
theorem step_any (w : World) (L : Loc) (S : St) (h : Dev w L S) (h0 : 0 ≤ S.steps) (h1 : S.steps < 1000000) :
    Calls Try.prog 58 #[.pointer (some ⟨L.d, 0, none⟩)] w (Did L (stepS S) w (.tuple #[])) := by
  have c4 := h.c4
  have c5 := h.c5
  have c6 := h.c6
  have z := h.z
  have f0 := h.fuse0
  have f1 := h.fuse1
  have kd : ∀ (v : World) (o : Nat) (u : Value), Keep L.own v (v.setCell ⟨L.d, o, none⟩ u) := fun v o u => Keep.setCell v _ (by simp [Loc.own]) u
  by_cases hf : 0 < S.fuse
  · have hm : wrap64 (S.fuse - 1) = S.fuse - 1 := by unfold wrap64; omega
    cases ho : S.off
    · rw [ho] at c6
      go_enter Try.func58, Try.ntmps58
      go_wp2
      go_end0
      refine ⟨rfl, ?_, ((kd _ _ _).trans (kd _ _ _)).trans (kd _ _ _)⟩
      have h' := ((h.set4 (S.steps + 1)).set5 (S.fuse - 1) (by omega) (by omega)).set6 (S.fuse - 1 == 0)
      have e : (S.fuse - 1 == 0) = (S.off || decide (S.fuse = 1)) := by rw [ho]; rw [Bool.eq_iff_iff]; simp; omega
      simpa [stepS, hf, ← e] using h'
    · rw [ho] at c6
      go_enter Try.func58, Try.ntmps58
      go_wp2
      go_end0
      refine ⟨rfl, ?_, ((kd _ _ _).trans (kd _ _ _)).trans (kd _ _ _)⟩
      have h' := ((h.set4 (S.steps + 1)).set5 (S.fuse - 1) (by omega) (by omega)).set6 true
      simpa [stepS, hf, ho] using h'
  · have hd : decide (0 < S.fuse) = false := by simpa using hf
    go_enter Try.func58, Try.ntmps58
    go_wp2
    go_end0
    refine ⟨rfl, ?_, kd _ _ _⟩
    have hne : ¬ S.fuse = 1 := by omega
    have hf' : ¬ 0 < S.fuse := by omega
    have h' := h.set4 (S.steps + 1)
    simpa only [stepS, if_neg hf', decide_eq_false hne, Bool.or_false] using h'

/-- Are the first k alike? -/
def eqB (k : Nat) (a b : Nat → Int) : Bool := (List.range k).all fun j => a j == b j
theorem eqB_true {k : Nat} {a b : Nat → Int} : eqB k a b = true ↔ ∀ j, j < k → a j = b j := by simp [eqB]
theorem eqB_no {k j : Nat} {a b : Nat → Int} (hj : j < k) (h : a j ≠ b j) : eqB k a b = false := by
  cases e : eqB k a b
  · rfl
  · exact absurd (eqB_true.1 e j hj) h

def EqRel (w : World) (k : Nat) (a b : Nat → Int) (x : Value) (wr : World) : Prop := ∃ j : Nat, j ≤ k ∧ x = .int .i64 j ∧ (∀ i, i < j → a i = b i) ∧ Dr w wr

set_option maxHeartbeats 1000000 in
theorem equal_any (w : World) (g o c g' o' c' k : Nat) (a b : Nat → Int) (hk : k ≤ 65536) (ha : ∀ j, j < k → w.cell? ⟨g, o + j, none⟩ = some (.int .u64 (a j))) (hb : ∀ j, j < k → w.cell? ⟨g', o' + j, none⟩ = some (.int .u64 (b j))) :
    Calls Try.prog 69 #[.slice (some ⟨g, o, none⟩) k c, .slice (some ⟨g', o', none⟩) k c'] w fun e w' => e = .returned (.bool (eqB k a b)) ∧ Dr w w' := by
  have HA := Lib.hid ha
  have HB := Lib.hid hb
  clear ha hb
  go_enter Try.func69, Try.ntmps69
  go_wp2
  go_loopw [13] (fun x wr => EqRel w k a b x wr) (fun x _ => k - (intOf x).toNat)
  case atStart => exact ⟨0, by omega, rfl, fun i hi => by omega, Dr.refl _⟩
  case round =>
    obtain ⟨j, hj, rfl, heq, hd⟩ := hrel
    have HE := Lib.hid heq
    clear heq
    obtain ⟨m, rfl⟩ := hd
    by_cases hlt : j < k
    · have ca := HA.out j hlt
      have cb := HB.out j hlt
      by_cases hab : a j = b j
      · rw [hab] at ca
        have HAB := Lib.hid hab
        clear hab
        go_wp2
        go_quiet (fail)
        go_wp2
        go_roundw
        case rel => exact ⟨j + 1, by omega, by go_num, fun i hi => by
          rcases Nat.lt_or_ge i j with h | h
          · exact HE.out i h
          · rw [show i = j by omega]; exact HAB.out, Dr.drewN _ _⟩
        case measure => simp [intOf]; omega
      · have hne : (a j != b j) = true := by simpa using hab
        have HN := Lib.hid hab
        clear hab
        go_wp2
        go_quiet (fail)
        go_wp2
        go_ret
        exact ⟨by rw [eqB_no hlt HN.out]; rfl, (Dr.drewN _ _).trans (Dr.drewN _ _)⟩
    · have hjk : j = k := by omega
      subst hjk
      go_wp2
      go_ret
      exact ⟨by rw [eqB_true.2 HE.out]; rfl, Dr.drewN _ _⟩

/-- Is a line dirty? -/
def dirtyB (S : St) (l : Nat) : Bool := !eqB (hi S.n l - lo l) (fun j => S.now (lo l + j)) (fun j => S.sure (lo l + j))

theorem Dev.bounds {w : World} {L : Loc} {S : St} (h : Dev w L S) {l : Nat} (hl : l < nl S.n) :
    lo l < hi S.n l ∧ hi S.n l ≤ S.n ∧ hi S.n l ≤ lo l + 8 ∧ S.n ≤ 65536 ∧ S.n ≤ L.rc ∧ L.rc ≤ 9223372036854775807 ∧ S.n ≤ L.sc ∧ L.sc ≤ 9223372036854775807 ∧ S.n ≤ L.tc ∧ L.tc ≤ 9223372036854775807 ∧ nl S.n ≤ L.fc ∧ L.fc ≤ 9223372036854775807 := by
  have h1 := h.n
  have h2 := h.r.cap_le
  have h3 := h.s.cap_le
  have h4 := h.t.cap_le
  have h5 := h.f.cap_le
  have h6 := h.r.cap_max
  have h7 := h.s.cap_max
  have h8 := h.t.cap_max
  have h9 := h.f.cap_max
  unfold maxLen at h6 h7 h8 h9
  unfold nl at *
  unfold lo hi
  omega

set_option maxHeartbeats 1000000 in
theorem dirty_any (w : World) (L : Loc) (S : St) (h : Dev w L S) (l : Nat) (hl : l < nl S.n) :
    Calls Try.prog 49 #[.pointer (some ⟨L.d, 0, none⟩), .int .i64 l] w fun e w' => e = .returned (.bool (dirtyB S l)) ∧ Dr w w' := by
  obtain ⟨b1, b2, b3, b4, b5, b6, b7, b8, _⟩ := h.bounds hl
  go_enter Try.func49, Try.ntmps49
  go_wp2_with fail
  refine (span_any w L S h l hl).mono ?_
  rintro e w' ⟨rfl, d⟩
  have h2 := h.dr_ d
  clear h
  have c0 := h2.c0
  have c1 := h2.c1
  have hfin : dirtyB S l = !eqB (hi S.n l - lo l) (fun j => S.now (lo l + j)) (fun j => S.sure (lo l + j)) := rfl
  generalize hi S.n l = H at *
  generalize lo l = F at *
  have he := fun (w3 : World) (hh : Dr w' w3) => equal_any w3 L.r F (L.rc - F) L.s F (L.sc - F) (H - F) (fun j => S.now (F + j)) (fun j => S.sure (F + j)) (by omega) (fun j hj => (h2.r.dr hh).cell (by omega)) (fun j hj => (h2.s.dr hh).cell (by omega))
  generalize eqB (H - F) (fun j => S.now (F + j)) (fun j => S.sure (F + j)) = Z at *
  have HF := Lib.hid hfin
  have HE := Lib.hid he
  clear hfin he
  have q1 : ¬ L.rc = F := by omega
  have q2 : ¬ L.sc = F := by omega
  go_wp2_with fail
  go_quiet ((go_at_call 69; refine quiet (HE.out _ (Dr.drewN _ _))))
  go_wp2
  go_ret
  exact ⟨by rw [HF.out]; rfl, d.trans (Dr.drewN _ _)⟩

/-- A line is flushed. -/
def takeS (S : St) (l : Nat) : St := { S with tk := fun i => if 8 * l ≤ i ∧ i < 8 * l + 8 then S.now i else S.tk i, fl := fun k => if k = l then true else S.fl k }

theorem info28 : (Try.prog.info? 44).map (·.size) = some 1 := by kernel_rfl

set_option maxHeartbeats 1000000 in
theorem take_any (w : World) (L : Loc) (S : St) (h : Dev w L S) (l : Nat) (hl : l < nl S.n) :
    Calls Try.prog 61 #[.pointer (some ⟨L.d, 0, none⟩), .int .i64 l] w (Did L (takeS S l) w (.tuple #[])) := by
  obtain ⟨b1, b2, b3, b4, b5, b6, b7, b8, b9, b10, b11, b12⟩ := h.bounds hl
  go_enter Try.func61, Try.ntmps61
  go_wp2_with fail
  refine (span_any w L S h l hl).mono ?_
  rintro e w' ⟨rfl, d⟩
  have h2 := h.dr_ d
  clear h
  have c0 := h2.c0
  have c2 := h2.c2
  have hH : hi S.n l = min (8 * l + 8) S.n := rfl
  have hF : lo l = 8 * l := rfl
  generalize hi S.n l = H at *
  generalize lo l = F at *
  have HHF := Lib.hid (And.intro hH hF)
  clear hH hF
  have q1 : ¬ L.rc = F := by omega
  have q2 : ¬ L.tc = F := by omega
  go_wp2_with fail
  have q3 : F ≤ H := by omega
  have q4 : H ≤ L.tc := by omega
  have q5 : H ≤ L.rc := by omega
  have q6 : (F : Int) ≤ H := by omega
  have q7 : (H : Int) ≤ L.tc := by omega
  have q8 : (H : Int) ≤ L.rc := by omega
  go_still_tail 14, (by kernel_rfl)
  change wpList _ _ _ _ _ w'.drew
  refine wpList_copy_row rfl (.tmp 18) (.tmp 25) 25 25 rfl 44 Try.underlying25 info28 L.t F (H - F) (L.tc - F) rfl L.r F (L.rc - F) rfl 44 44 S.n S.n L.tc L.rc (u64 S.tk) (u64 S.now) (h2.t.keep (own := []) (Keep.drew w') (by simp)) (h2.r.keep (own := []) (Keep.drew w') (by simp)) (by omega) (by omega) (fun i _ => rfl) ?_
  intro w3 hr3 hk3
  have h3 := (h2.keep (own := []) (Keep.drew w') (by simp)).rowT (fun i => if F ≤ i ∧ i < F + (H - F) then S.now i else S.tk i) (hr3.congr (fun i _ => copied _ _ _ _ i)) hk3
  have hk : Keep L.own w w3 := ((Keep.dr d).trans (Keep.drew w')).trans (hk3.one (by simp [Loc.own]))
  have c3 := h3.c3
  have cl := h3.f.cell hl
  have zl := h3.f.frozen l
  dsimp only [bl] at c3 cl
  clear c0 c2 hr3 hk3
  have HL := Lib.hid hl
  go_wp2
  go_end0
  refine ⟨rfl, ?_, hk.trans (Keep.setCell _ _ (by simp [Loc.own]) _)⟩
  obtain ⟨e1, e2⟩ := HHF.out
  have h4 := h3.setFl l true
  refine h4.congr rfl rfl rfl rfl (fun i _ => rfl) (fun i _ => rfl) (fun i hi => ?_) (fun i _ => rfl)
  dsimp only [takeS] at hi ⊢
  have : (F ≤ i ∧ i < F + (H - F)) ↔ (8 * l ≤ i ∧ i < 8 * l + 8) := by omega
  simp only [this]

/-- A line is sure by words. -/
def secureS (S : St) (l : Nat) (q : Nat → Int) : St := { S with sure := fun i => if 8 * l ≤ i ∧ i < 8 * l + 8 then q i else S.sure i, fl := fun k => if k = l then false else S.fl k }

set_option maxHeartbeats 1000000 in
theorem secure_any (w : World) (L : Loc) (S : St) (h : Dev w L S) (l : Nat) (hl : l < nl S.n) (g gc : Nat) (q : Nat → Int) (hg : Row w 44 g S.n gc (u64 q)) :
    Calls Try.prog 70 #[.pointer (some ⟨L.d, 0, none⟩), .int .i64 l, .slice (some ⟨g, 0, none⟩) S.n gc] w (Did L (secureS S l q) w (.tuple #[])) := by
  obtain ⟨b1, b2, b3, b4, b5, b6, b7, b8, b9, b10, b11, b12⟩ := h.bounds hl
  have g1 := hg.cap_le
  have g2 := hg.cap_max
  unfold maxLen at g2
  go_enter Try.func70, Try.ntmps70
  go_wp2_with fail
  refine (span_any w L S h l hl).mono ?_
  rintro e w' ⟨rfl, d⟩
  have h2 := h.dr_ d
  have hg2 := hg.dr d
  clear h hg
  have c1 := h2.c1
  have hH : hi S.n l = min (8 * l + 8) S.n := rfl
  have hF : lo l = 8 * l := rfl
  generalize hi S.n l = H at *
  generalize lo l = F at *
  have HHF := Lib.hid (And.intro hH hF)
  clear hH hF
  have q1 : ¬ gc = F := by omega
  have q2 : ¬ L.sc = F := by omega
  go_wp2_with fail
  have q3 : F ≤ H := by omega
  have q4 : H ≤ L.sc := by omega
  have q5 : H ≤ gc := by omega
  have q6 : (F : Int) ≤ H := by omega
  have q7 : (H : Int) ≤ L.sc := by omega
  have q8 : (H : Int) ≤ gc := by omega
  go_still_tail 11, (by kernel_rfl)
  change wpList _ _ _ _ _ w'.drew
  refine wpList_copy_row rfl (.tmp 20) (.tmp 24) 25 25 rfl 44 Try.underlying25 info28 L.s F (H - F) (L.sc - F) rfl g F (gc - F) rfl 44 44 S.n S.n L.sc gc (u64 S.sure) (u64 q) (h2.s.keep (own := []) (Keep.drew w') (by simp)) (hg2.keep (own := []) (Keep.drew w') (by simp)) (by omega) (by omega) (fun i _ => rfl) ?_
  intro w3 hr3 hk3
  have h3 := (h2.keep (own := []) (Keep.drew w') (by simp)).rowS (fun i => if F ≤ i ∧ i < F + (H - F) then q i else S.sure i) (hr3.congr (fun i _ => copied _ _ _ _ i)) hk3
  have hk : Keep L.own w w3 := ((Keep.dr d).trans (Keep.drew w')).trans (hk3.one (by simp [Loc.own]))
  have c3 := h3.c3
  have cl := h3.f.cell hl
  have zl := h3.f.frozen l
  dsimp only [bl] at c3 cl
  clear c1 hr3 hk3
  have HL := Lib.hid hl
  go_wp2
  go_end0
  refine ⟨rfl, ?_, hk.trans (Keep.setCell _ _ (by simp [Loc.own]) _)⟩
  obtain ⟨e1, e2⟩ := HHF.out
  have h4 := h3.setFl l false
  refine h4.congr rfl rfl rfl rfl (fun i _ => rfl) (fun i hi => ?_) (fun i _ => rfl) (fun i _ => rfl)
  dsimp only [secureS] at hi ⊢
  have : (F ≤ i ∧ i < F + (H - F)) ↔ (8 * l ≤ i ∧ i < 8 * l + 8) := by omega
  simp only [this]
end Go.Proofs.Ytejhdmpobaffcaa
