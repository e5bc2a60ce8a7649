/-
  Package redo: run, a transaction by gotos. No conditions but what a device is, and that few steps are counted.
-/
import Derived.Test.YtejhdmpobaffcaaRedo4
namespace Go.Proofs.Ytejhdmpobaffcaa
open Go.RowKit Go.Flo
set_option maxRecDepth 100000

/-- As Q; by a goto: what is asked at its label. -/
def marks (J : Nat → Act → World → Prop) (Q : Exit → Act → World → Prop) : Exit → Act → World → Prop
  | .goto l, a, w => J l a w
  | e, a, w => Q e a w

/-- A scope with several labels: what holds at each (J), and a measure. -/
theorem wp_scope_marks {P : Program} {a : Act} {w : World} {Q : Exit → Act → World → Prop} {c : Code} (J : Nat → Act → World → Prop) (μ : Nat → Nat)
    (pass : ∀ l a w, J l a w → ∃ rest, findLabel c l = some rest ∧ rest.wp P (marks (fun l' a' w' => J l' a' w' ∧ μ l' < μ l) Q) a w)
    (first : c.wp P (marks J Q) a w) : (Code.scope c).wp P Q a w := by
  intro b k cs
  have key : ∀ n l a w, μ l = n → J l a w → ∃ r, gotoIn l (.inScope c :: k) = some (.code r :: .inScope c :: k) ∧ ∃ e a' w', Q e a' w' ∧ Arrives P (lone (b.at a (.code r :: .inScope c :: k)) cs w) b k cs e a' w' := by
    intro n
    induction n using Nat.strongRecOn with
    | _ n ih =>
      intro l a w hn hJ
      obtain ⟨r, hf, hr⟩ := pass l a w hJ
      have hg : gotoIn l (.inScope c :: k) = some (.code r :: .inScope c :: k) := by simp [gotoIn, hf]
      refine ⟨r, hg, ?_⟩
      obtain ⟨e, a₁, w₁, hq, harr⟩ := hr b (.inScope c :: k) cs
      cases e with
      | normal => exact ⟨.normal, a₁, w₁, hq, Steps.trans harr (.one step_inScope)⟩
      | exit id => exact ⟨.exit id, a₁, w₁, hq, fun k' hk => harr k' (by simp [exitTo, hk])⟩
      | goto l' =>
        obtain ⟨hJ', hlt⟩ := hq
        obtain ⟨r', hg', e₂, a₂, w₂, hq₂, harr₂⟩ := ih _ (by omega) l' a₁ w₁ rfl hJ'
        exact ⟨e₂, a₂, w₂, hq₂, .of_steps (harr _ hg') harr₂⟩
      | ret => exact ⟨_, a₁, w₁, hq, harr⟩
      | panic ch => exact ⟨_, a₁, w₁, hq, harr⟩
      | outgrown => exact ⟨_, a₁, w₁, hq, harr⟩
  obtain ⟨e, a₁, w₁, hq, harr⟩ := first b (.inScope c :: k) cs
  cases e with
  | normal => exact ⟨.normal, a₁, w₁, hq, .head step_scope (Steps.trans harr (.one step_inScope))⟩
  | exit id => exact ⟨.exit id, a₁, w₁, hq, fun k' hk => .head step_scope (harr k' (by simp [exitTo, hk]))⟩
  | goto l' =>
    obtain ⟨r', hg', e₂, a₂, w₂, hq₂, harr₂⟩ := key _ l' a₁ w₁ rfl hq
    exact ⟨e₂, a₂, w₂, hq₂, .of_steps (.head step_scope (harr _ hg')) harr₂⟩
  | ret => exact ⟨_, a₁, w₁, hq, .of_steps (.one step_scope) harr⟩
  | panic ch => exact ⟨_, a₁, w₁, hq, .of_steps (.one step_scope) harr⟩
  | outgrown => exact ⟨_, a₁, w₁, hq, .of_steps (.one step_scope) harr⟩

theorem marks_ret {J : Nat → Act → World → Prop} {Q : Exit → Act → World → Prop} {a : Act} {w : World} (h : Q .ret a w) : marks J Q .ret a w := h
theorem marks_goto {J : Nat → Act → World → Prop} {Q : Exit → Act → World → Prop} {l : Nat} {a : Act} {w : World} (h : J l a w) : marks J Q (.goto l) a w := h

/-- What holds at the labels of run. -/
def RunJ (w w1 : World) (L : Loc) (f t : Int) (A : Option Addr) (n cap : Nat) (R : St × Int) (l : Nat) (a' : Act) (w' : World) : Prop :=
  (l = 0 ∧ w1 = w' ∧ a' = { tmps := #[.agg #[.pointer (some ⟨L.d, 0, none⟩), .int .i64 f, .int .i64 t], .slice A n cap, .bool true, .pointer (some ⟨w.heap.size, 0, none⟩), undef, undef, .int .i64 0, .int .i64 0, .bool true, undef, undef, undef, undef, undef, undef, undef, undef, undef, undef, undef, undef, undef, undef, undef, undef, undef, undef, undef], defers := [] }) ∨
  (l = 1 ∧ ∃ (b : Bool) (v : Int) (u8 u9 u10 u11 u12 u13 u14 u15 u16 u17 u18 u19 u20 u21 u22 u23 u24 u25 u26 u27 : Value), a' = { tmps := #[.agg #[.pointer (some ⟨L.d, 0, none⟩), .int .i64 f, .int .i64 t], .slice A n cap, .bool b, .pointer (some ⟨w.heap.size, 0, none⟩), undef, undef, .int .i64 0, .int .i64 v, u8, u9, u10, u11, u12, u13, u14, u15, u16, u17, u18, u19, u20, u21, u22, u23, u24, u25, u26, u27], defers := [] } ∧
    R.2 = v ∧ Dev w' L R.1 ∧ Keep L.own w w')

section
variable {S : St} {f : Int} {E : Nat → Ent} {n : Nat}
theorem rec_err (h : (play S (doOps E n)).2 ≠ 0) : play S (recOps f E n) = play S (doOps E n) := play_stop rfl h _
theorem rec_go (h : (play S (doOps E n)).2 = 0) : play S (recOps f E n) = play (play S (doOps E n)).1 (markOps f 0) := by
  unfold recOps
  rw [play_append, if_pos h]
theorem wr_err1 (h : (play S (layOps f E n)).2 ≠ 0) : play S (wrOps f E n) = play S (layOps f E n) := play_stop rfl h _
theorem wr_go1 (h : (play S (layOps f E n)).2 = 0) : play S (wrOps f E n) = play (play S (layOps f E n)).1 (markOps f n ++ recOps f E n) := by
  unfold wrOps
  rw [play_append, if_pos h]
end

set_option maxHeartbeats 4000000 in
theorem run_true (w : World) (L : Loc) (S : St) (h : Dev w L S) (f t : Int) (A : Option Addr) (n cap : Nat) (E : Nat → Ent) (hE : Ents w L.own A n cap E) (hn : n ≤ 1024) (ha : ∀ j, j < n → 0 ≤ (E j).a ∧ (E j).a < S.n) (s0 : 0 ≤ S.steps) (s1 : S.steps < 800000) :
    Calls Try.prog 42 #[.agg #[.pointer (some ⟨L.d, 0, none⟩), .int .i64 f, .int .i64 t], .slice A n cap, .bool true] w (Did L (play S (recOps f E n)).1 w (.int .i64 (play S (recOps f E n)).2)) := by
  have k0 : Keep [] w (w.alloc (.cells #[.pointer (some ⟨L.d, 0, none⟩), .int .i64 f, .int .i64 t] 73)) := Keep.alloc _ _
  have hB := h.fresh
  have hbx := fun W (hk : Keep L.own (w.alloc (.cells #[.pointer (some ⟨L.d, 0, none⟩), .int .i64 f, .int .i64 t] 73)) W) => box3 (w := w) (W' := W) (own := L.own) rfl hk hB
  have HBX := Lib.hid hbx
  have h1 := rdo_any _ L S (h.keep k0 (by simp)) f t A n cap E (hE.keep0 k0) hn ha s0 (by omega)
  have hst := play_steps S (doOps E n)
  have hln : (doOps E n).length ≤ 3000 := by have := doFl_len E n; simp [doOps, doStores_len]; omega
  have h2 : ∀ W, Dev W L (play S (doOps E n)).1 → Calls Try.prog 66 #[.agg #[.pointer (some ⟨L.d, 0, none⟩), .int .i64 f, .int .i64 t], .int .i64 0] W (Did L (play (play S (doOps E n)).1 (markOps f 0)).1 W (.int .i64 (play (play S (doOps E n)).1 (markOps f 0)).2)) := fun W hD => mark_any W L _ hD f t 0 (by omega) (by omega) (by omega)
  have H2 := Lib.hid h2
  have F1 := Lib.hid (rec_err (S := S) (f := f) (E := E) (n := n))
  have F2 := Lib.hid (rec_go (S := S) (f := f) (E := E) (n := n))
  clear h2 hst hln hbx h hE ha hB
  generalize play (play S (doOps E n)).1 (markOps f 0) = R4 at *
  generalize hR3 : play S (doOps E n) = R3 at *
  clear hR3
  generalize play S (recOps f E n) = R at *
  obtain ⟨S3, a3⟩ := R3
  obtain ⟨S4, a4⟩ := R4
  dsimp only at h1 H2 F1 F2
  go_enter Try.func42, Try.ntmps42
  go_wp2_with fail
  generalize hw1 : w.alloc (.cells #[.pointer (some ⟨L.d, 0, none⟩), .int .i64 f, .int .i64 t] 73) = w1 at *
  clear hw1
  refine wp_scope_marks (RunJ w w1 L f t A n cap R) (fun l => 1 - l) ?_ ?_
  · rintro l a' w' (⟨rfl, rfl, rfl⟩ | ⟨rfl, b, v, u8, u9, u10, u11, u12, u13, u14, u15, u16, u17, u18, u19, u20, u21, u22, u23, u24, u25, u26, u27, rfl, hR, hD, hK⟩)
    · refine ⟨_, rfl, ?_⟩
      obtain ⟨b0, b1, b2, b3⟩ := HBX.out w1 (Keep.refl _ _)
      go_wp2_with fail
      (with_reducible refine h1.mono ?_)
      rintro e w3 ⟨rfl, hD3, hK3⟩
      obtain ⟨b0, b1, b2, b3⟩ := HBX.out w3 hK3
      have h2 := H2.out w3 hD3
      clear h1
      by_cases e3 : a3 = 0
      · subst e3
        have HF := Lib.hid (F2.out (by simp))
        clear F1 F2
        go_wp2_with fail
        (with_reducible refine h2.mono ?_)
        rintro e w4 ⟨rfl, hD4, hK4⟩
        go_wp2_with fail
        go_step3
        go_wp2
        apply marks_ret
        go_ret
        rw [HF.out]
        exact ⟨rfl, hD4, (k0.of_nil.trans hK3).trans hK4⟩
      · have d3 : (a3 != 0) = true := by simpa using e3
        have HF := Lib.hid (F1.out e3)
        clear F1 F2 e3 h2
        go_wp2_with fail
        go_step3
        refine then_goto ?_
        apply marks_goto
        exact ⟨.inr ⟨rfl, true, a3, _, _, _, _, _, _, _, _, _, _, _, _, _, _, _, _, _, _, _, _, rfl, by rw [HF.out], by rw [HF.out]; exact hD3, k0.of_nil.trans hK3⟩, by decide⟩
    · refine ⟨_, rfl, ?_⟩
      go_wp2_with fail
      apply marks_ret
      go_ret
      rw [hR]
      exact ⟨rfl, hD, hK⟩
  · go_wp2_with fail
    go_step3
    refine then_goto ?_
    apply marks_goto
    exact .inl ⟨rfl, rfl, rfl⟩

set_option maxHeartbeats 4000000 in
theorem run_false (w : World) (L : Loc) (S : St) (h : Dev w L S) (f t : Int) (f0 : 0 ≤ f) (f1 : f ≤ 65536) (A : Option Addr) (n cap : Nat) (E : Nat → Ent) (hE : Ents w L.own A n cap E) (hn : n ≤ 1024) (ha : ∀ j, j < n → 0 ≤ (E j).a ∧ (E j).a < S.n) (s0 : 0 ≤ S.steps) (s1 : S.steps < 800000) :
    Calls Try.prog 42 #[.agg #[.pointer (some ⟨L.d, 0, none⟩), .int .i64 f, .int .i64 t], .slice A n cap, .bool false] w (Did L (play S (wrOps f E n)).1 w (.int .i64 (play S (wrOps f E n)).2)) := by
  have k0 : Keep [] w (w.alloc (.cells #[.pointer (some ⟨L.d, 0, none⟩), .int .i64 f, .int .i64 t] 73)) := Keep.alloc _ _
  have hB := h.fresh
  have hbx := fun W (hk : Keep L.own (w.alloc (.cells #[.pointer (some ⟨L.d, 0, none⟩), .int .i64 f, .int .i64 t] 73)) W) => box3 (w := w) (W' := W) (own := L.own) rfl hk hB
  have HBX := Lib.hid hbx
  have hcap := hE.cap
  have hnc := hE.nc
  have hSn := h.n
  have h1 := lay_any _ L S (h.keep k0 (by simp)) f t f0 f1 A n cap E (hE.keep0 k0) hn (fun j hj => by have := ha j hj; omega) s0 (by omega)
  have hst := play_steps S (layOps f E n)
  have hln : (layOps f E n).length ≤ 3000 := by simp [layOps, stores_len, lines_len]; omega
  have h2 := fun W hD => mark_any W L (play S (layOps f E n)).1 hD f t n (by omega) (by omega) (by omega)
  have hst2 := play_steps (play S (layOps f E n)).1 (markOps f n)
  have hln2 : (markOps f n).length = 3 := rfl
  have hSn2 : (play (play S (layOps f E n)).1 (markOps f n)).1.n = S.n := by rw [play_n, play_n]
  have hEk : ∀ W, Keep L.own w W → Ents W L.own A n cap E := fun W hk => hE.keep hk
  have h3 := fun W hk hD => rdo_any W L (play (play S (layOps f E n)).1 (markOps f n)).1 hD f t A n cap E (hEk W hk) hn (by rw [hSn2]; exact ha) (by omega) (by omega)
  have hst3 := play_steps (play (play S (layOps f E n)).1 (markOps f n)).1 (doOps E n)
  have hln3 : (doOps E n).length ≤ 3000 := by have := doFl_len E n; simp [doOps, doStores_len]; omega
  have h4 : ∀ W, Dev W L (play (play (play S (layOps f E n)).1 (markOps f n)).1 (doOps E n)).1 → Calls Try.prog 66 #[.agg #[.pointer (some ⟨L.d, 0, none⟩), .int .i64 f, .int .i64 t], .int .i64 0] W (Did L (play (play (play (play S (layOps f E n)).1 (markOps f n)).1 (doOps E n)).1 (markOps f 0)).1 W (.int .i64 (play (play (play (play S (layOps f E n)).1 (markOps f n)).1 (doOps E n)).1 (markOps f 0)).2)) := fun W hD => mark_any W L _ hD f t 0 (by omega) (by omega) (by omega)
  have F1 := Lib.hid (wr_err1 (S := S) (f := f) (E := E) (n := n))
  have F2 : Hid ((play S (layOps f E n)).2 = 0 → (play (play S (layOps f E n)).1 (markOps f n)).2 ≠ 0 → play S (wrOps f E n) = play (play S (layOps f E n)).1 (markOps f n)) := Lib.hid (fun e1 e2 => by rw [wr_go1 e1]; exact play_stop rfl e2 _)
  have F3 : Hid ((play S (layOps f E n)).2 = 0 → (play (play S (layOps f E n)).1 (markOps f n)).2 = 0 → (play (play (play S (layOps f E n)).1 (markOps f n)).1 (doOps E n)).2 ≠ 0 → play S (wrOps f E n) = play (play (play S (layOps f E n)).1 (markOps f n)).1 (doOps E n)) := Lib.hid (fun e1 e2 e3 => by rw [wr_go1 e1, play_append, if_pos e2]; exact rec_err e3)
  have F4 : Hid ((play S (layOps f E n)).2 = 0 → (play (play S (layOps f E n)).1 (markOps f n)).2 = 0 → (play (play (play S (layOps f E n)).1 (markOps f n)).1 (doOps E n)).2 = 0 → play S (wrOps f E n) = play (play (play (play S (layOps f E n)).1 (markOps f n)).1 (doOps E n)).1 (markOps f 0)) := Lib.hid (fun e1 e2 e3 => by rw [wr_go1 e1, play_append, if_pos e2]; exact rec_go e3)
  have H2 := Lib.hid h2
  have H3 := Lib.hid h3
  have H4 := Lib.hid h4
  clear h2 h3 h4 hst hln hst2 hln2 hst3 hln3 hbx h hE ha hB hEk hSn2
  generalize play (play (play (play S (layOps f E n)).1 (markOps f n)).1 (doOps E n)).1 (markOps f 0) = R4 at *
  generalize play (play (play S (layOps f E n)).1 (markOps f n)).1 (doOps E n) = R3 at *
  generalize play (play S (layOps f E n)).1 (markOps f n) = R2 at *
  generalize play S (layOps f E n) = R1 at *
  generalize play S (wrOps f E n) = R at *
  obtain ⟨S1, a1⟩ := R1
  obtain ⟨S2, a2⟩ := R2
  obtain ⟨S3, a3⟩ := R3
  obtain ⟨S4, a4⟩ := R4
  dsimp only at h1 H2 H3 H4 F1 F2 F3 F4
  go_enter Try.func42, Try.ntmps42
  go_wp2_with fail
  generalize hw1 : w.alloc (.cells #[.pointer (some ⟨L.d, 0, none⟩), .int .i64 f, .int .i64 t] 73) = w1 at *
  clear hw1
  refine wp_scope_marks (fun l a' w' => l = 1 ∧ RunJ w w1 L f t A n cap R l a' w') (fun l => 1 - l) ?_ ?_
  · rintro l a' w' ⟨h1', (⟨rfl, rfl, rfl⟩ | ⟨rfl, b, v, u8, u9, u10, u11, u12, u13, u14, u15, u16, u17, u18, u19, u20, u21, u22, u23, u24, u25, u26, u27, rfl, hR, hD, hK⟩)⟩
    · cases h1'
    · refine ⟨_, rfl, ?_⟩
      go_wp2_with fail
      apply marks_ret
      go_ret
      exact ⟨rfl, hD, hK⟩
  · obtain ⟨b0, b1, b2, b3⟩ := HBX.out w1 (Keep.refl _ _)
    go_wp2_with fail
    (with_reducible refine h1.mono ?_)
    rintro e w2 ⟨rfl, hD2, hK2⟩
    obtain ⟨b0, b1, b2, b3⟩ := HBX.out w2 hK2
    have h2 := H2.out w2 hD2
    clear h1
    by_cases e1 : a1 = 0
    · subst e1
      go_wp2_with fail
      (with_reducible refine h2.mono ?_)
      rintro e w3 ⟨rfl, hD3, hK3⟩
      obtain ⟨b0, b1, b2, b3⟩ := HBX.out w3 (hK2.trans hK3)
      have h3 := H3.out w3 ((k0.of_nil.trans hK2).trans hK3) hD3
      clear h2
      by_cases e2 : a2 = 0
      · subst e2
        go_wp2_with fail
        go_step3
        go_wp2_with fail
        (with_reducible refine h3.mono ?_)
        rintro e w4 ⟨rfl, hD4, hK4⟩
        obtain ⟨b0, b1, b2, b3⟩ := HBX.out w4 ((hK2.trans hK3).trans hK4)
        have h4 := H4.out w4 hD4
        clear h3
        by_cases e3 : a3 = 0
        · subst e3
          have HF := Lib.hid (F4.out (by simp) (by simp) (by simp))
          clear F1 F2 F3 F4
          go_wp2_with fail
          (with_reducible refine h4.mono ?_)
          rintro e w5 ⟨rfl, hD5, hK5⟩
          go_wp2_with fail
          go_step3
          go_wp2
          apply marks_ret
          go_ret
          rw [HF.out]
          exact ⟨rfl, hD5, (((k0.of_nil.trans hK2).trans hK3).trans hK4).trans hK5⟩
        · have d3 : (a3 != 0) = true := by simpa using e3
          have HF := Lib.hid (F3.out (by simp) (by simp) e3)
          clear F1 F2 F3 F4 e3 h4
          go_wp2_with fail
          go_step3
          refine then_goto ?_
          apply marks_goto
          exact ⟨rfl, .inr ⟨rfl, false, a3, _, _, _, _, _, _, _, _, _, _, _, _, _, _, _, _, _, _, _, _, rfl, by rw [HF.out], by rw [HF.out]; exact hD4, ((k0.of_nil.trans hK2).trans hK3).trans hK4⟩⟩
      · have d2 : (a2 != 0) = true := by simpa using e2
        have HF := Lib.hid (F2.out (by simp) e2)
        clear F1 F2 F3 F4 e2 h3
        go_wp2_with fail
        go_step3
        refine then_goto ?_
        apply marks_goto
        exact ⟨rfl, .inr ⟨rfl, false, a2, _, _, _, _, _, _, _, _, _, _, _, _, _, _, _, _, _, _, _, _, rfl, by rw [HF.out], by rw [HF.out]; exact hD3, (k0.of_nil.trans hK2).trans hK3⟩⟩
    · have d1 : (a1 != 0) = true := by simpa using e1
      have HF := Lib.hid (F1.out e1)
      clear F1 F2 F3 F4 e1 h2
      go_wp2_with fail
      go_step3
      refine then_goto ?_
      apply marks_goto
      exact ⟨rfl, .inr ⟨rfl, false, a1, _, _, _, _, _, _, _, _, _, _, _, _, _, _, _, _, _, _, _, _, rfl, by rw [HF.out], by rw [HF.out]; exact hD2, k0.of_nil.trans hK2⟩⟩
end Go.Proofs.Ytejhdmpobaffcaa
