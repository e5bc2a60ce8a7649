/-
  scullionref3's tried, area, bad, done: the document's device takes steps till the first error. No conditions but what a device is.
-/
import Derived.Test.YtejhdmpobaffcaaWSteps
namespace Go.Proofs.Ytejhdmpobaffcaa
open Go.RowKit Go.Flo
set_option maxRecDepth 100000

theorem TwinE.more {w w' : World} {T : TLoc} {D D2 : List Nat} {S : St} (h : TwinE w T D S) (hk : Keep [] w w') (h2 : ∀ k ∈ D2, w.heap.size ≤ k ∧ k < w'.heap.size) (hT : ∀ k ∈ T.own, k < w.heap.size) : TwinE w' T (D ++ D2) S := by
  obtain ⟨X, fz, c, h⟩ := h
  have h' := h.keepT hk
  have hm := hT T.m (by simp [TLoc.own])
  have hl := hT T.l (by simp [TLoc.own])
  have imm : ∀ v k f, Imm w (T.m :: T.l :: D) v k f → Imm w' (T.m :: T.l :: (D ++ D2)) v k f := by
    rintro v k f ⟨g, cap, e, hR, hg⟩
    refine ⟨g, cap, e, hR.keep hk (by simp), fun hmm => ?_⟩
    simp only [List.mem_cons, List.mem_append, not_or] at hmm hg
    rcases hmm with h1 | h1 | h1 | h1
    · exact hg.1 h1
    · exact hg.2.1 h1
    · exact hg.2.2 h1
    · have := (h2 g h1).1
      have := hR.lt
      omega
  refine ⟨X, fz, c, { h' with mD := fun hmm => ?_, lD := fun hmm => ?_, dlt := fun k hk' => ?_, ok := fun i hi' => ?_ }⟩
  · rcases List.mem_append.1 hmm with h1 | h1
    · exact h.mD h1
    · have := (h2 _ h1).1; omega
  · rcases List.mem_append.1 hmm with h1 | h1
    · exact h.lD h1
    · have := (h2 _ h1).1; omega
  · rcases List.mem_append.1 hk' with h1 | h1
    · exact h'.dlt k h1
    · exact (h2 k h1).2
  · have ho := h.ok i hi'
    exact ⟨imm _ _ _ ho.now, imm _ _ _ ho.sure, fun hb => imm _ _ _ (ho.at_ hb), ho.fl, ho.va⟩


/-- A step, if there was no error. -/
def tstep (R : St × Int) (o : Stp) : St × Int := if R.2 = 0 then (opS R.1 o, opA R.1 o) else R
def tf (R : St × Int) (os : List Stp) : St × Int := os.foldl tstep R
theorem tf_append (R : St × Int) (a b : List Stp) : tf R (a ++ b) = tf (tf R a) b := by simp [tf]
theorem tf_one (R : St × Int) (o : Stp) : tf R [o] = tstep R o := rfl
theorem tf_nil (R : St × Int) : tf R [] = R := rfl
theorem tf_bad (R : St × Int) (os : List Stp) (h : R.2 ≠ 0) : tf R os = R := by
  induction os with
  | nil => rfl
  | cons o os ih =>
    show tf (tstep R o) os = R
    have : tstep R o = R := by unfold tstep; rw [if_neg h]
    rw [this]; exact ih
theorem tf_play (S : St) (os : List Stp) : tf (S, 0) os = play S os := by
  induction os generalizing S with
  | nil => rfl
  | cons o os ih =>
    show tf (tstep (S, 0) o) os = _
    simp only [tstep, play, if_true]
    split
    · rename_i h
      rw [show (opS S o, opA S o) = (opS S o, 0) by rw [h]]
      exact ih _
    · rename_i h
      exact tf_bad _ _ h
theorem tstep_steps (R : St × Int) (o : Stp) : R.1.steps ≤ (tstep R o).1.steps ∧ (tstep R o).1.steps ≤ R.1.steps + 1 := by
  unfold tstep
  split
  · have := op_steps R.1 o; dsimp only; omega
  · omega
theorem tf_steps (R : St × Int) (os : List Stp) : R.1.steps ≤ (tf R os).1.steps ∧ (tf R os).1.steps ≤ R.1.steps + os.length := by
  induction os generalizing R with
  | nil => simp [tf]
  | cons o os ih =>
    have h1 := tstep_steps R o
    have h2 := ih (tstep R o)
    show R.1.steps ≤ (tf (tstep R o) os).1.steps ∧ (tf (tstep R o) os).1.steps ≤ R.1.steps + (os.length + 1 : Nat)
    omega

/-- A 'tried' in memory, and its device. -/
structure Td (w : World) (tb : Nat) (T : TLoc) (D : List Nat) (R : St × Int) : Prop where
  blk : Blk w tb 81 #[.pointer (some ⟨T.m, 0, none⟩), .int .i64 R.2]
  twin : TwinE w T D R.1
  tD : tb ∈ D
  tT : tb ∉ T.own
def TPost (tb : Nat) (T : TLoc) (D : List Nat) (R : St × Int) (w : World) (e : Ending) (w' : World) : Prop := e = .returned (.tuple #[]) ∧ Td w' tb T D R ∧ Keep (tb :: T.own) w w'

theorem TwinE.keepD {w w' : World} {T : TLoc} {D own : List Nat} {S : St} (h : TwinE w T D S) (hk : Keep own w w') (ho : ∀ k ∈ own, k ∈ D) : TwinE w' T D S := by
  obtain ⟨X, fz, c, h⟩ := h
  exact ⟨X, fz, c, h.keep hk ho⟩
theorem Td.keep {w w' : World} {tb : Nat} {T : TLoc} {D own : List Nat} {R : St × Int} (h : Td w tb T D R) (hk : Keep own w w') (ho : ∀ k ∈ own, k ∈ D) (hn : tb ∉ own) : Td w' tb T D R :=
  ⟨h.blk.keep hk hn, h.twin.keepD hk ho, h.tD, h.tT⟩
theorem Td.keep0 {w w' : World} {tb : Nat} {T : TLoc} {D : List Nat} {R : St × Int} (h : Td w tb T D R) (hk : Keep [] w w') : Td w' tb T D R := h.keep hk (by simp) (by simp)

theorem area_any (w : World) (T : TLoc) (D : List Nat) (S : St) (h : TwinE w T D S) (f t : Int) :
    Calls Try.prog 43 #[.pointer (some ⟨T.m, 0, none⟩), .int .i64 f, .int .i64 t] w fun e w' => e = .returned (.bool (mayB S.n f t)) ∧ Keep [] w w' := by
  obtain ⟨X, fz, c, h⟩ := h
  have c0 := h.c0
  have hn := h.n
  clear h
  by_cases h0 : 0 ≤ f
  · have d0 : decide (0 ≤ f) = true := by simpa using h0
    by_cases h1 : f < t
    · have d1 : decide (f < t) = true := by simpa using h1
      by_cases h2 : t ≤ S.n
      · have d2 : decide (t ≤ (S.n : Int)) = true := by simpa using h2
        have htm : f.tmod 8 = f % 8 := Int.tmod_eq_emod_of_nonneg h0
        have e : mayB S.n f t = (f % 8 == 0) := by simp [mayB, h0, h1, h2]
        rw [e]
        clear e
        go_enter Try.func43, Try.ntmps43
        go_wp2
        go_ret
        exact ⟨rfl, Keep.refl _ _⟩
      · have d2 : decide (t ≤ (S.n : Int)) = false := by simpa using h2
        have e : mayB S.n f t = false := by simp [mayB, h2]
        rw [e]
        clear e h2
        go_enter Try.func43, Try.ntmps43
        go_wp2
        go_ret
        exact ⟨rfl, Keep.refl _ _⟩
    · have d1 : decide (f < t) = false := by simpa using h1
      have e : mayB S.n f t = false := by simp [mayB, h1]
      rw [e]
      clear e h1
      go_enter Try.func43, Try.ntmps43
      go_wp2
      go_ret
      exact ⟨rfl, Keep.refl _ _⟩
  · have d0 : decide (0 ≤ f) = false := by simpa using h0
    have e : mayB S.n f t = false := by simp [mayB, h0]
    rw [e]
    clear e h0
    go_enter Try.func43, Try.ntmps43
    go_wp2
    go_ret
    exact ⟨rfl, Keep.refl _ _⟩

theorem bad_any (w : World) (T : TLoc) (D : List Nat) (S : St) (h : TwinE w T D S) (x f t : Int) :
    Calls Try.prog 44 #[.pointer (some ⟨T.m, 0, none⟩), .int .i64 x, .int .i64 f, .int .i64 t] w fun e w' => e = .returned (.bool (!hasB S.n x || (decide (f ≤ x) && decide (x < t)))) ∧ w = w' := by
  have hi := is_any w T D S h x
  clear h
  generalize hasB S.n x = b at *
  cases b
  · go_enter Try.func44, Try.ntmps44
    go_wp2_with fail
    (with_reducible refine hi.mono ?_)
    rintro e w' ⟨rfl, rfl⟩
    go_wp2
    go_ret
    exact ⟨rfl, rfl⟩
  · cases d1 : decide (f ≤ x)
    · go_enter Try.func44, Try.ntmps44
      go_wp2_with fail
      (with_reducible refine hi.mono ?_)
      rintro e w' ⟨rfl, rfl⟩
      go_wp2
      go_ret
      exact ⟨by simp, rfl⟩
    · go_enter Try.func44, Try.ntmps44
      go_wp2_with fail
      (with_reducible refine hi.mono ?_)
      rintro e w' ⟨rfl, rfl⟩
      go_wp2
      go_ret
      exact ⟨by simp, rfl⟩

theorem Td.set_ {w : World} {tb : Nat} {T : TLoc} {D : List Nat} {S : St} {e x : Int} (h : Td w tb T D (S, e)) : Td (w.setCell ⟨tb, 1, none⟩ (.int .i64 x)) tb T D (S, x) :=
  ⟨h.blk.set_ 1 _, h.twin.keepD (own := [tb]) (Keep.setCell _ _ (by simp) _) (by simp; exact h.tD), h.tD, h.tT⟩

set_option maxHeartbeats 2000000 in
theorem tstore_any (w : World) (tb : Nat) (T : TLoc) (D : List Nat) (R : St × Int) (h : Td w tb T D R) (x v : Int) (s0 : 0 ≤ R.1.steps) (s1 : R.1.steps < 1000000) :
    Calls Try.prog 45 #[.pointer (some ⟨tb, 0, none⟩), .int .i64 x, .int .u64 v] w (TPost tb T D (tf R [.st x v]) w) := by
  obtain ⟨S, e⟩ := R
  rw [tf_one]
  have c0 : w.cell? ⟨tb, 0, none⟩ = some (.pointer (some ⟨T.m, 0, none⟩)) := (h.blk.cell 0).trans rfl
  have c1 : w.cell? ⟨tb, 1, none⟩ = some (.int .i64 e) := (h.blk.cell 1).trans rfl
  by_cases he : e = 0
  · subst he
    have hst := rstore_any w T D S h.twin x v s0 s1
    have hh : tstep (S, 0) (.st x v) = (storeS S x v, ans (stepS S).off (hasB S.n x)) := rfl
    rw [hh]
    have HB := Lib.hid h.blk
    have HT := Lib.hid (And.intro h.tD h.tT)
    clear h hh
    generalize storeS S x v = S' at *
    generalize ans (stepS S).off (hasB S.n x) = a at *
    go_enter Try.func45, Try.ntmps45
    go_wp2_with fail
    (with_reducible refine hst.mono ?_)
    rintro e w1 ⟨rfl, hT1, hK1⟩
    have hb1 : Td w1 tb T D (S', 0) := ⟨HB.out.keep hK1 HT.out.2, hT1, HT.out.1, HT.out.2⟩
    have d1 : w1.cell? ⟨tb, 1, none⟩ = some (.int .i64 0) := (hb1.blk.cell 1).trans rfl
    have z1 := hb1.blk.frozen 1
    have hfin := hb1.set_ (x := a)
    have hkf : Keep (tb :: T.own) w (w1.setCell ⟨tb, 1, none⟩ (.int .i64 a)) := (hK1.mono (fun _ _ h => List.mem_cons_of_mem _ h)).trans (Keep.setCell _ _ (by simp) _)
    have HF := Lib.hid hfin
    clear hst hT1 hb1 hfin HB HT
    go_wp2
    go_end0
    exact ⟨rfl, HF.out, hkf⟩
  · have hh : tstep (S, e) (.st x v) = (S, e) := by unfold tstep; rw [if_neg he]
    rw [hh]
    have hb : (e == 0) = false := by simpa using he
    clear hh he
    have HH := Lib.hid h
    clear h
    go_enter Try.func45, Try.ntmps45
    go_wp2
    go_end0
    exact ⟨rfl, HH.out, Keep.refl _ _⟩
set_option maxHeartbeats 2000000 in
theorem tflush_any (w : World) (tb : Nat) (T : TLoc) (D : List Nat) (R : St × Int) (h : Td w tb T D R) (x : Int) (s0 : 0 ≤ R.1.steps) (s1 : R.1.steps < 1000000) :
    Calls Try.prog 46 #[.pointer (some ⟨tb, 0, none⟩), .int .i64 x] w (TPost tb T D (tf R [.fl x]) w) := by
  obtain ⟨S, e⟩ := R
  rw [tf_one]
  have c0 : w.cell? ⟨tb, 0, none⟩ = some (.pointer (some ⟨T.m, 0, none⟩)) := (h.blk.cell 0).trans rfl
  have c1 : w.cell? ⟨tb, 1, none⟩ = some (.int .i64 e) := (h.blk.cell 1).trans rfl
  by_cases he : e = 0
  · subst he
    have hst := rflush_any w T D S h.twin x s0 s1
    have hh : tstep (S, 0) (.fl x) = (flushS S x, ans (stepS S).off (hasB S.n x)) := rfl
    rw [hh]
    have HB := Lib.hid h.blk
    have HT := Lib.hid (And.intro h.tD h.tT)
    clear h hh
    generalize flushS S x = S' at *
    generalize ans (stepS S).off (hasB S.n x) = a at *
    go_enter Try.func46, Try.ntmps46
    go_wp2_with fail
    (with_reducible refine hst.mono ?_)
    rintro e w1 ⟨rfl, hT1, hK1⟩
    have hb1 : Td w1 tb T D (S', 0) := ⟨HB.out.keep hK1 HT.out.2, hT1, HT.out.1, HT.out.2⟩
    have d1 : w1.cell? ⟨tb, 1, none⟩ = some (.int .i64 0) := (hb1.blk.cell 1).trans rfl
    have z1 := hb1.blk.frozen 1
    have hfin := hb1.set_ (x := a)
    have hkf : Keep (tb :: T.own) w (w1.setCell ⟨tb, 1, none⟩ (.int .i64 a)) := (hK1.mono (fun _ _ h => List.mem_cons_of_mem _ h)).trans (Keep.setCell _ _ (by simp) _)
    have HF := Lib.hid hfin
    clear hst hT1 hb1 hfin HB HT
    go_wp2
    go_end0
    exact ⟨rfl, HF.out, hkf⟩
  · have hh : tstep (S, e) (.fl x) = (S, e) := by unfold tstep; rw [if_neg he]
    rw [hh]
    have hb : (e == 0) = false := by simpa using he
    clear hh he
    have HH := Lib.hid h
    clear h
    go_enter Try.func46, Try.ntmps46
    go_wp2
    go_end0
    exact ⟨rfl, HH.out, Keep.refl _ _⟩
set_option maxHeartbeats 2000000 in
theorem tfence_any (w : World) (tb : Nat) (T : TLoc) (D : List Nat) (R : St × Int) (h : Td w tb T D R) (s0 : 0 ≤ R.1.steps) (s1 : R.1.steps < 1000000) :
    Calls Try.prog 47 #[.pointer (some ⟨tb, 0, none⟩)] w (TPost tb T D (tf R [.fe]) w) := by
  obtain ⟨S, e⟩ := R
  rw [tf_one]
  have c0 : w.cell? ⟨tb, 0, none⟩ = some (.pointer (some ⟨T.m, 0, none⟩)) := (h.blk.cell 0).trans rfl
  have c1 : w.cell? ⟨tb, 1, none⟩ = some (.int .i64 e) := (h.blk.cell 1).trans rfl
  by_cases he : e = 0
  · subst he
    have hst := rfence_any w T D S h.twin s0 s1
    have hh : tstep (S, 0) .fe = (fenceS S, ans (stepS S).off (true)) := rfl
    rw [hh]
    have HB := Lib.hid h.blk
    have HT := Lib.hid (And.intro h.tD h.tT)
    clear h hh
    generalize fenceS S = S' at *
    generalize ans (stepS S).off (true) = a at *
    go_enter Try.func47, Try.ntmps47
    go_wp2_with fail
    (with_reducible refine hst.mono ?_)
    rintro e w1 ⟨rfl, hT1, hK1⟩
    have hb1 : Td w1 tb T D (S', 0) := ⟨HB.out.keep hK1 HT.out.2, hT1, HT.out.1, HT.out.2⟩
    have d1 : w1.cell? ⟨tb, 1, none⟩ = some (.int .i64 0) := (hb1.blk.cell 1).trans rfl
    have z1 := hb1.blk.frozen 1
    have hfin := hb1.set_ (x := a)
    have hkf : Keep (tb :: T.own) w (w1.setCell ⟨tb, 1, none⟩ (.int .i64 a)) := (hK1.mono (fun _ _ h => List.mem_cons_of_mem _ h)).trans (Keep.setCell _ _ (by simp) _)
    have HF := Lib.hid hfin
    clear hst hT1 hb1 hfin HB HT
    go_wp2
    go_end0
    exact ⟨rfl, HF.out, hkf⟩
  · have hh : tstep (S, e) .fe = (S, e) := by unfold tstep; rw [if_neg he]
    rw [hh]
    have hb : (e == 0) = false := by simpa using he
    clear hh he
    have HH := Lib.hid h
    clear h
    go_enter Try.func47, Try.ntmps47
    go_wp2
    go_end0
    exact ⟨rfl, HH.out, Keep.refl _ _⟩

theorem TwinE.less {w : World} {T : TLoc} {D D' : List Nat} {S : St} (h : TwinE w T D S) (hd : ∀ k ∈ D', k ∈ D) : TwinE w T D' S := by
  obtain ⟨X, fz, c, h⟩ := h
  have imm : ∀ v k f, Imm w (T.m :: T.l :: D) v k f → Imm w (T.m :: T.l :: D') v k f := by
    rintro v k f ⟨g, cap, e, hR, hg⟩
    refine ⟨g, cap, e, hR, fun hmm => hg ?_⟩
    simp only [List.mem_cons] at hmm ⊢
    rcases hmm with h1 | h1 | h1
    · exact .inl h1
    · exact .inr (.inl h1)
    · exact .inr (.inr (hd _ h1))
  refine ⟨X, fz, c, { h with mD := fun hm => h.mD (hd _ hm), lD := fun hm => h.lD (hd _ hm), dlt := fun k hk => h.dlt k (hd k hk), ok := fun i hi' => ?_ }⟩
  have ho := h.ok i hi'
  exact ⟨imm _ _ _ ho.now, imm _ _ _ ho.sure, fun hb => imm _ _ _ (ho.at_ hb), ho.fl, ho.va⟩

def TdRel (w : World) (tb : Nat) (T : TLoc) (D : List Nat) (R : St × Int) (E : Nat → Ent) (n : Nat) (x : Value) (wr : World) : Prop :=
  ∃ i : Nat, x = .int .i64 i ∧ i ≤ n ∧ Td wr tb T D (tf R (doStores E i)) ∧ Keep (tb :: T.own) w wr
def one01 (h : Int → Bool) (x : Int) : Int := if h x then 1 else 0
theorem one01_next {E : Nat → Ent} {i : Nat} (h0 : 0 ≤ (E i).a) (x : Int) : putC (one01 (lnH E i)) ((E i).a / 8) 1 x = one01 (lnH E (i + 1)) x := by
  unfold one01 putC
  rw [← lnH_next h0 x]
  unfold putH
  by_cases e : x = (E i).a / 8
  · simp [e]
  · simp [e]
def TdRel2 (w : World) (M tb : Nat) (T : TLoc) (D : List Nat) (R : St × Int) (E : Nat → Ent) (n : Nat) (x : Value) (wr : World) : Prop :=
  ∃ (i sz : Nat), x = .int .i64 i ∧ i ≤ n ∧ Td wr tb T (D ++ [M]) (tf R (doStores E n ++ doFl E i)) ∧ IMap wr M i (lnH E i) (one01 (lnH E i)) sz ∧ Keep (tb :: T.own) w wr
end Go.Proofs.Ytejhdmpobaffcaa
