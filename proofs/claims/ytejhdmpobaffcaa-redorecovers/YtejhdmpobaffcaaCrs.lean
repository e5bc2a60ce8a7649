/-
  What a crash may leave of a log and of the words behind it: plain facts, no Go text in sight. No conditions.
-/
import Derived.Test.YtejhdmpobaffcaaRedo9
import Derived.Test.YtejhdmpobaffcaaLaid
namespace Go.Proofs.Ytejhdmpobaffcaa
open Go.RowKit Go.Flo
set_option maxRecDepth 100000

/-- Each word may be left only as R says. -/
def PicAll (R : Nat → Int → Prop) (S : St) : Prop := ∀ i, Pic (R i) S i

section
variable {R R' : Nat → Int → Prop} {S : St}
theorem PicAll.mono (h : PicAll R S) (hR : ∀ i x, R i x → R' i x) : PicAll R' S := fun i => (h i).mono (hR i)
theorem PicAll.op (h : PicAll R S) (o : Stp) (ho : ∀ x v, o = .st x v → ∀ i : Nat, x = i → R i v) : PicAll R (opS S o) := by
  intro i
  cases o with
  | st x v => exact (h i).store x v (fun e => ho x v rfl i e)
  | fl x => exact (h i).flush x
  | fe => exact (h i).fence
theorem PicAll.play (h : PicAll R S) (os : List Stp) (ho : ∀ x v, Stp.st x v ∈ os → ∀ i : Nat, x = i → R i v) : PicAll R (Go.Proofs.Ytejhdmpobaffcaa.play S os).1 :=
  play_inv (I := PicAll R) os (fun o hm _ hT => hT.op o (fun x v e => ho x v (e ▸ hm))) S h
theorem PicAll.crash (h : PicAll R S) (p : Nat → Int) : PicAll R (crashS S p) := fun i => (h i).crash p
theorem PicAll.fuse (h : PicAll R S) (x : Int) : PicAll R (fuseS S x) := fun i => (h i).fuse x
theorem PicAll.and_ (h : PicAll R S) (h' : PicAll R' S) : PicAll (fun i x => R i x ∧ R' i x) S := fun i => ⟨⟨(h i).1, (h' i).1⟩, ⟨(h i).2.1, (h' i).2.1⟩, fun hf => ⟨(h i).2.2 hf, (h' i).2.2 hf⟩⟩
end

/-- What may stand where: the mark, the entries, the words behind the log. -/
def Rr (N n : Nat) (E : Nat → Ent) (mk : Int → Prop) (lg : Bool) (dt : Nat → Int → Prop) (i : Nat) (x : Int) : Prop :=
  0 ≤ x ∧ (i = 0 → mk x) ∧ (lg = true → ∀ j, j < n → (i = 8 + 2 * j → x = (E j).a) ∧ (i = 8 + 2 * j + 1 → x = (E j).v)) ∧ (64 ≤ i → i < N → dt i x)
/-- While entries are done. -/
def Qq (n : Nat) (E : Nat → Ent) (A : Nat → Int) (i : Nat) (x : Int) : Prop := x = A i ∨ ∃ k, k < n ∧ (E k).a = i ∧ x = (E k).v
abbrev Is (A : Nat → Int) (i : Nat) (x : Int) : Prop := x = A i
def Bb (n : Nat) (E : Nat → Ent) (A : Nat → Int) : Nat → Int := upd A E n

theorem Bb_Qq (n : Nat) (E : Nat → Ent) (A : Nat → Int) (i : Nat) : Qq n E A i (Bb n E A i) := by
  unfold Bb
  induction n with
  | zero => exact .inl rfl
  | succ n ih =>
    simp only [upd]
    split
    · rename_i h
      exact .inr ⟨n, by omega, h.symm, rfl⟩
    · rcases ih with ih | ⟨k, hk, r⟩
      · exact .inl ih
      · exact .inr ⟨k, by omega, r⟩

section
variable {N n : Nat} {E : Nat → Ent} {A : Nat → Int} {mk mk' : Int → Prop} {lg : Bool} {dt dt' : Nat → Int → Prop} {S : St}
theorem Rr.weaken (h1 : ∀ x, mk x → mk' x) (h2 : ∀ i x, dt i x → dt' i x) (i : Nat) (x : Int) (h : Rr N n E mk lg dt i x) : Rr N n E mk' lg dt' i x :=
  ⟨h.1, fun e => h1 _ (h.2.1 e), h.2.2.1, fun a b => h2 _ _ (h.2.2.2 a b)⟩
theorem Rr.forget (i : Nat) (x : Int) (h : Rr N n E mk lg dt i x) : Rr N n E mk false dt i x :=
  ⟨h.1, h.2.1, fun e => (by cases e), h.2.2.2⟩
theorem PicAll.wd (h : PicAll (Rr N n E mk lg dt) S) : Wd S := fun i => (h i).mono (fun _ hx => hx.1)

/-- Entries that may be. -/
structure EOk (N n : Nat) (E : Nat → Ent) : Prop where
  n24 : n ≤ 28
  N64 : 64 ≤ N
  N1 : N ≤ 65536
  at_ : ∀ j, j < n → 64 ≤ (E j).a ∧ (E j).a < N
  v0 : ∀ j, j < n → 0 ≤ (E j).v
theorem EOk.log (h : EOk N n E) : LogOk N 0 64 E n := ⟨by omega, by have := h.n24; omega, h.N64, fun j hj => by have := h.at_ j hj; omega⟩

theorem stores_mem {f : Int} {E : Nat → Ent} {k : Nat} {x v : Int} (h : Stp.st x v ∈ stores f E k) : ∃ j, j < k ∧ ((x = f + 8 + 2 * j ∧ v = (E j).a) ∨ (x = f + 8 + 2 * j + 1 ∧ v = (E j).v)) := by
  induction k with
  | zero => cases h
  | succ k ih =>
    simp only [stores, List.mem_append, List.mem_cons, List.not_mem_nil, or_false, Stp.st.injEq] at h
    rcases h with h | h | h
    · obtain ⟨j, hj, r⟩ := ih h
      exact ⟨j, by omega, r⟩
    · exact ⟨k, by omega, .inl h⟩
    · exact ⟨k, by omega, .inr h⟩
theorem doStores_mem {E : Nat → Ent} {k : Nat} {x v : Int} (h : Stp.st x v ∈ doStores E k) : ∃ j, j < k ∧ x = (E j).a ∧ v = (E j).v := by
  induction k with
  | zero => cases h
  | succ k ih =>
    simp only [doStores, List.mem_append, List.mem_cons, List.not_mem_nil, or_false, Stp.st.injEq] at h
    rcases h with h | h
    · obtain ⟨j, hj, r⟩ := ih h
      exact ⟨j, by omega, r⟩
    · exact ⟨k, by omega, h⟩

/-! The entries are laid. -/
theorem lay_any_pic (hE : EOk N n E) (h : PicAll (Rr N n E (· = 0) false (Is A)) S) : PicAll (Rr N n E (· = 0) false (Is A)) (play S (layOps 0 E n)).1 := by
  refine h.play _ (fun x v hm i hi' => ?_)
  have : Stp.st x v ∈ stores 0 E n := by
    simp only [layOps, List.mem_append, List.mem_cons, List.not_mem_nil, or_false] at hm
    rcases hm with hm | hm | hm
    · exact hm
    · obtain ⟨y, e⟩ := lines_fl hm; cases e
    · cases hm
  obtain ⟨j, hj, hc⟩ := stores_mem this
  have h1 := hE.at_ j hj
  have h2 := hE.v0 j hj
  have h3 := hE.n24
  rcases hc with ⟨e1, e2⟩ | ⟨e1, e2⟩
  · exact ⟨by omega, fun e => by omega, fun e => (by cases e), fun e => by omega⟩
  · exact ⟨by omega, fun e => by omega, fun e => (by cases e), fun e => by omega⟩
theorem lay_ok_pic (hE : EOk N n E) (h : PicAll (Rr N n E (· = 0) false (Is A)) S) (hok : (play S (layOps 0 E n)).2 = 0) : PicAll (Rr N n E (· = 0) true (Is A)) (play S (layOps 0 E n)).1 := by
  have h1 := lay_any_pic hE h
  have h2 : ∀ j, j < n → Pic (· = (E j).a) (play S (layOps 0 E n)).1 (8 + 2 * j) ∧ Pic (· = (E j).v) (play S (layOps 0 E n)).1 (8 + 2 * j + 1) := by
    intro j hj
    unfold layOps at hok ⊢
    obtain ⟨e1, e2, e3⟩ := play_split hok
    obtain ⟨g1, g2, g3⟩ := play_snoc e2
    rw [e3, g3]
    obtain ⟨o1, _⟩ := opA_zero g2
    have hs := stores_now (f := 0) e1 j hj
    have f0 : ((0 : Nat) : Int) = 0 := rfl
    rw [f0] at hs
    have hl1 := lines_got (f := 0) (i := 0 + 8 + 2 * j) (k := (2 * n + 7) / 8) (by omega) g1 (by omega) (by omega)
    have hl2 := lines_got (f := 0) (i := 0 + 8 + 2 * j + 1) (k := (2 * n + 7) / 8) (by omega) g1 (by omega) (by omega)
    rw [f0, hs.1] at hl1
    rw [f0, hs.2] at hl2
    rw [Nat.zero_add] at hl1 hl2
    exact ⟨hl1.fence_ok o1, hl2.fence_ok o1⟩
  intro i
  by_cases hx : ∃ j, j < n ∧ (i = 8 + 2 * j ∨ i = 8 + 2 * j + 1)
  · obtain ⟨j, hj, hc⟩ := hx
    have h3 := h2 j hj
    rcases hc with rfl | rfl
    · have h4 : Pic (fun x => Rr N n E (· = 0) false (Is A) (8 + 2 * j) x ∧ x = (E j).a) (play S (layOps 0 E n)).1 (8 + 2 * j) := ⟨⟨(h1 _).1, h3.1.1⟩, ⟨(h1 _).2.1, h3.1.2.1⟩, fun hf => ⟨(h1 _).2.2 hf, h3.1.2.2 hf⟩⟩
      refine h4.mono (fun x hx => ⟨hx.1.1, hx.1.2.1, fun _ j' hj' => ⟨fun e => ?_, fun e => by omega⟩, hx.1.2.2.2⟩)
      rw [show j' = j by omega]; exact hx.2
    · have h4 : Pic (fun x => Rr N n E (· = 0) false (Is A) (8 + 2 * j + 1) x ∧ x = (E j).v) (play S (layOps 0 E n)).1 (8 + 2 * j + 1) := ⟨⟨(h1 _).1, h3.2.1⟩, ⟨(h1 _).2.1, h3.2.2.1⟩, fun hf => ⟨(h1 _).2.2 hf, h3.2.2.2 hf⟩⟩
      refine h4.mono (fun x hx => ⟨hx.1.1, hx.1.2.1, fun _ j' hj' => ⟨fun e => by omega, fun e => ?_⟩, hx.1.2.2.2⟩)
      rw [show j' = j by omega]; exact hx.2
  · refine (h1 i).mono (fun x hx' => ⟨hx'.1, hx'.2.1, fun _ j hj => ⟨fun e => absurd ⟨j, hj, .inl e⟩ hx, fun e => absurd ⟨j, hj, .inr e⟩ hx⟩, hx'.2.2.2⟩)

/-! The mark is set. -/
theorem mark_any_pic {m : Nat} (hE : EOk N n E) (h : PicAll (Rr N n E mk lg dt) S) : PicAll (Rr N n E (fun x => mk x ∨ x = m) lg dt) (play S (markOps 0 m)).1 := by
  refine (h.mono (Rr.weaken (fun x hx => Or.inl hx) (fun _ _ h => h))).play _ (fun x v hm i hi' => ?_)
  simp only [markOps, List.mem_cons, List.not_mem_nil, or_false, Stp.st.injEq] at hm
  have h3 := hE.n24
  rcases hm with ⟨rfl, rfl⟩ | hm | hm
  · exact ⟨by omega, fun _ => .inr rfl, fun _ j hj => ⟨fun e => by omega, fun e => by omega⟩, fun e => by omega⟩
  · cases hm
  · cases hm
theorem mark_ok_pic {m : Nat} (hE : EOk N n E) (h : PicAll (Rr N n E mk lg dt) S) (hok : (play S (markOps 0 m)).2 = 0) : PicAll (Rr N n E (· = (m : Int)) lg dt) (play S (markOps 0 m)).1 := by
  have h1 := mark_any_pic (m := m) hE h
  have h2 : Pic (· = (m : Int)) (play S (markOps 0 m)).1 0 := by
    have e : markOps 0 (m : Int) = ([.st 0 m] ++ [.fl 0]) ++ [.fe] := rfl
    rw [e] at hok ⊢
    obtain ⟨g1, g2, g3⟩ := play_snoc hok
    obtain ⟨f1, f2, f3⟩ := play_snoc g1
    rw [play_one] at f1
    dsimp only at f1
    obtain ⟨o1, o2⟩ := opA_zero g2
    obtain ⟨p1, p2⟩ := opA_zero f2
    obtain ⟨q1, q2⟩ := opA_zero f1
    rw [g3]
    refine Got.fence_ok ?_ o1
    rw [f3]
    refine got_flush ?_ p1 p2 rfl
    rw [play_one]
    show (storeS S 0 m).now 0 = m
    rw [store_now q1 q2]
    simp
  intro i
  by_cases hi' : i = 0
  · subst hi'
    have h4 : Pic (fun x => Rr N n E (fun x => mk x ∨ x = m) lg dt 0 x ∧ x = m) (play S (markOps 0 m)).1 0 := ⟨⟨(h1 _).1, h2.1⟩, ⟨(h1 _).2.1, h2.2.1⟩, fun hf => ⟨(h1 _).2.2 hf, h2.2.2 hf⟩⟩
    exact h4.mono (fun x hx => ⟨hx.1.1, fun _ => hx.2, hx.1.2.2.1, hx.1.2.2.2⟩)
  · exact (h1 i).mono (fun x hx => ⟨hx.1, fun e => absurd e hi', hx.2.2.1, hx.2.2.2⟩)

/-! They are done. -/
theorem do_any_pic (hE : EOk N n E) (h : PicAll (Rr N n E mk lg (Qq n E A)) S) : PicAll (Rr N n E mk lg (Qq n E A)) (play S (doOps E n)).1 := by
  refine h.play _ (fun x v hm i hi' => ?_)
  have : Stp.st x v ∈ doStores E n := by
    simp only [doOps, List.mem_append, List.mem_cons, List.not_mem_nil, or_false] at hm
    rcases hm with hm | hm | hm
    · exact hm
    · obtain ⟨y, e⟩ := doFl_fl hm; cases e
    · cases hm
  obtain ⟨j, hj, e1, e2⟩ := doStores_mem this
  have h1 := hE.at_ j hj
  have h2 := hE.v0 j hj
  have h3 := hE.n24
  exact ⟨by omega, fun e => by omega, fun _ j' hj' => ⟨fun e => by omega, fun e => by omega⟩, fun _ _ => .inr ⟨j, hj, by omega, e2⟩⟩
theorem do_ok_pic (hE : EOk N n E) (h : PicAll (Rr N n E mk lg (Qq n E A)) S) (hok : (play S (doOps E n)).2 = 0) : PicAll (Rr N n E mk lg (Is (Bb n E A))) (play S (doOps E n)).1 := by
  have h1 := do_any_pic hE h
  intro i
  by_cases hx : isAt E n i
  · have h2 : Pic (· = Bb n E A i) (play S (doOps E n)).1 i := by
      unfold doOps at hok ⊢
      obtain ⟨e1, e2, e3⟩ := play_split hok
      obtain ⟨g1, g2, g3⟩ := play_snoc e2
      obtain ⟨o1, _⟩ := opA_zero g2
      rw [e3, g3]
      refine Got.fence_ok ?_ o1
      have hs : seenB E n (i / 8) = true := by
        obtain ⟨j, hj, e⟩ := hx
        exact seenB_true.2 ⟨j, hj, by rw [e]; rfl⟩
      have hg := doFl_got g1 (i := i) hs
      rw [doStores_now e1 i, upd_at (B := A) hx] at hg
      exact hg
    have h4 : Pic (fun x => Rr N n E mk lg (Qq n E A) i x ∧ x = Bb n E A i) (play S (doOps E n)).1 i := ⟨⟨(h1 _).1, h2.1⟩, ⟨(h1 _).2.1, h2.2.1⟩, fun hf => ⟨(h1 _).2.2 hf, h2.2.2 hf⟩⟩
    exact h4.mono (fun x hx => ⟨hx.1.1, hx.1.2.1, hx.1.2.2.1, fun _ _ => hx.2⟩)
  · refine (h1 i).mono (fun x hq => ⟨hq.1, hq.2.1, hq.2.2.1, fun a b => ?_⟩)
    rcases hq.2.2.2 a b with e | ⟨k, hk, e, _⟩
    · show x = Bb n E A i
      unfold Bb
      rw [upd_not hx]; exact e
    · exact absurd ⟨k, hk, e⟩ hx

/-- Entries that stand in the log, done, and the mark gone. -/
theorem rec_any_pic (hE : EOk N n E) (h : PicAll (Rr N n E (· = (n : Int)) true (Qq n E A)) S) :
    PicAll (Rr N n E (· = (n : Int)) true (Qq n E A)) (play S (recOps 0 E n)).1 ∨ PicAll (Rr N n E (fun x => x = 0 ∨ x = (n : Int)) true (Is (Bb n E A))) (play S (recOps 0 E n)).1 := by
  by_cases h1 : (play S (doOps E n)).2 = 0
  · right
    rw [rec_go h1]
    have h2 := mark_any_pic (m := 0) hE (do_ok_pic hE h h1)
    exact h2.mono (Rr.weaken (fun x hx => hx.symm) (fun _ _ h => h))
  · left
    rw [rec_err h1]
    exact do_any_pic hE h
theorem rec_ok_pic (hE : EOk N n E) (h : PicAll (Rr N n E (· = (n : Int)) true (Qq n E A)) S) (hok : (play S (recOps 0 E n)).2 = 0) :
    PicAll (Rr N n E (· = 0) true (Is (Bb n E A))) (play S (recOps 0 E n)).1 := by
  by_cases h1 : (play S (doOps E n)).2 = 0
  · rw [rec_go h1] at hok ⊢
    exact mark_ok_pic (m := 0) hE (do_ok_pic hE h h1) hok
  · rw [rec_err h1] at hok
    exact absurd hok h1

/-- What a row's writing may leave, wherever it is broken off. -/
def Half (N n : Nat) (E : Nat → Ent) (A : Nat → Int) (S : St) : Prop :=
  PicAll (Rr N n E (· = 0) false (Is A)) S ∨ PicAll (Rr N n E (fun x => x = 0 ∨ x = (n : Int)) true (Is A)) S ∨ PicAll (Rr N n E (· = (n : Int)) true (Qq n E A)) S ∨
  PicAll (Rr N n E (fun x => x = 0 ∨ x = (n : Int)) true (Is (Bb n E A))) S ∨ PicAll (Rr N n E (· = 0) false (Is (Bb n E A))) S
/-- All done. -/
def Whole (N n : Nat) (E : Nat → Ent) (A : Nat → Int) (S : St) : Prop := PicAll (Rr N n E (· = 0) false (Is (Bb n E A))) S
def None_ (N n : Nat) (E : Nat → Ent) (A : Nat → Int) (S : St) : Prop := PicAll (Rr N n E (· = 0) false (Is A)) S
def Logd (N n : Nat) (E : Nat → Ent) (A : Nat → Int) (S : St) : Prop := PicAll (Rr N n E (· = (n : Int)) true (Qq n E A)) S

theorem wr_go2 (h : (play S (markOps 0 n)).2 = 0) : play S (markOps 0 n ++ recOps 0 E n) = play (play S (markOps 0 n)).1 (recOps 0 E n) := by
  rw [play_append, if_pos h]
theorem wr_pic (hE : EOk N n E) (h : None_ N n E A S) : Half N n E A (play S (wrOps 0 E n)).1 ∧ ((play S (wrOps 0 E n)).2 = 0 → Whole N n E A (play S (wrOps 0 E n)).1) := by
  by_cases h1 : (play S (layOps 0 E n)).2 = 0
  · have h2 := lay_ok_pic hE h h1
    rw [wr_go1 h1]
    by_cases h3 : (play (play S (layOps 0 E n)).1 (markOps 0 n)).2 = 0
    · have h4 := mark_ok_pic (m := n) hE h2 h3
      rw [wr_go2 h3]
      have h5 : PicAll (Rr N n E (· = (n : Int)) true (Qq n E A)) (play (play S (layOps 0 E n)).1 (markOps 0 n)).1 := h4.mono (Rr.weaken (fun _ h => h) (fun _ _ h => .inl h))
      refine ⟨?_, fun hok => (rec_ok_pic hE h5 hok).mono Rr.forget⟩
      rcases rec_any_pic hE h5 with h6 | h6
      · exact .inr (.inr (.inl h6))
      · exact .inr (.inr (.inr (.inl h6)))
    · have h4 := mark_any_pic (m := n) hE h2
      rw [play_stop rfl h3]
      exact ⟨.inr (.inl h4), fun hok => absurd hok h3⟩
  · rw [wr_err1 h1]
    exact ⟨.inl (lay_any_pic hE h), fun hok => absurd hok h1⟩

/-- A word that a crash has settled. -/
theorem crash_now (S : St) (p : Nat → Int) (i : Nat) (v : Int) (h : (crashS S p).now i = v) : Pic (· = v) (crashS S p) i := ⟨h, h, fun hf => by cases hf⟩

theorem PicAll.mark {S : St} (h : PicAll (Rr N n E mk lg dt) S) {v : Int} (h0 : Pic (· = v) S 0) : PicAll (Rr N n E (· = v) lg dt) S := by
  intro i
  by_cases hi' : i = 0
  · subst hi'
    have h4 : Pic (fun x => Rr N n E mk lg dt 0 x ∧ x = v) S 0 := ⟨⟨(h _).1, h0.1⟩, ⟨(h _).2.1, h0.2.1⟩, fun hf => ⟨(h _).2.2 hf, h0.2.2 hf⟩⟩
    exact h4.mono (fun x hx => ⟨hx.1.1, fun _ => hx.2, hx.1.2.2.1, hx.1.2.2.2⟩)
  · exact (h i).mono (fun x hx => ⟨hx.1, fun e => absurd e hi', hx.2.2.1, hx.2.2.2⟩)

/-- Behind a crash. -/
def Fine (N n : Nat) (E : Nat → Ent) (A : Nat → Int) (S : St) : Prop := None_ N n E A S ∨ Logd N n E A S ∨ Whole N n E A S

theorem half_crash (h : Half N n E A S) (p : Nat → Int) : Fine N n E A (crashS S p) := by
  rcases h with h | h | h | h | h
  · exact .inl (h.crash p)
  · have h1 := h.crash p
    rcases (h1 0).1.2.1 rfl with e | e
    · exact .inl ((h1.mark (crash_now S p 0 0 e)).mono Rr.forget)
    · exact .inr (.inl ((h1.mark (crash_now S p 0 n e)).mono (Rr.weaken (fun _ h => h) (fun _ _ h => .inl h))))
  · exact .inr (.inl (h.crash p))
  · have h1 := h.crash p
    rcases (h1 0).1.2.1 rfl with e | e
    · exact .inr (.inr ((h1.mark (crash_now S p 0 0 e)).mono Rr.forget))
    · exact .inr (.inl ((h1.mark (crash_now S p 0 n e)).mono (Rr.weaken (fun _ h => h) (fun i x h => by
        have := Bb_Qq n E A i
        rw [show x = Bb n E A i from h]; exact this))))
  · exact .inr (.inr (h.crash p))
theorem Fine.fuse (h : Fine N n E A S) (x : Int) : Fine N n E A (fuseS S x) := by
  rcases h with h | h | h
  · exact .inl (PicAll.fuse h x)
  · exact .inr (.inl (PicAll.fuse h x))
  · exact .inr (.inr (PicAll.fuse h x))
theorem Fine.half (h : Fine N n E A S) : Half N n E A S := by
  rcases h with h | h | h
  · exact .inl h
  · exact .inr (.inr (.inl h))
  · exact .inr (.inr (.inr (.inr h)))
theorem Fine.wd (h : Fine N n E A S) : Wd S := by
  rcases h with h | h | h
  · exact PicAll.wd h
  · exact PicAll.wd h
  · exact PicAll.wd h

theorem ops_congr {E' : Nat → Ent} (h : ∀ j, j < n → E j = E' j) : recOps 0 E n = recOps 0 E' n := by
  have h1 : ∀ k, k ≤ n → doStores E k = doStores E' k := by
    intro k hk
    induction k with
    | zero => rfl
    | succ k ih => simp only [doStores]; rw [ih (by omega), h k (by omega)]
  have h2 : ∀ k, k ≤ n → ∀ l, seenB E k l = seenB E' k l := by
    intro k hk l
    induction k with
    | zero => rfl
    | succ k ih => rw [seenB_succ, seenB_succ, ih (by omega), h k (by omega)]
  have h3 : ∀ k, k ≤ n → doFl E k = doFl E' k := by
    intro k hk
    induction k with
    | zero => rfl
    | succ k ih => simp only [doFl]; rw [ih (by omega), h k (by omega), h2 k (by omega)]
  unfold recOps doOps
  rw [h1 n (Nat.le_refl _), h3 n (Nat.le_refl _)]

/-- Recover where the mark is 0. -/
theorem rec_clean (hN : S.n = N) (hb : 64 ≤ N) (ho : S.off = false) (h0 : S.now 0 = 0) : recR S 0 64 = (S, 0, 0) := by
  have hm : mayB S.n 0 64 = true := by simp [mayB]; omega
  have e0 : (0 : Int).toNat = 0 := rfl
  unfold recR
  rw [if_neg (by rw [hm]; simp), if_neg (by rw [ho]; simp), e0, h0, if_neg (by simp [holdsB]), if_neg (by simp [goodB]), if_pos rfl]
/-- Recover where entries stand in the log. -/
theorem rec_log (hE : EOk N n E) (hN : S.n = N) (ho : S.off = false) (h : Logd N n E A S) (hn : 0 < n) :
    recR S 0 64 = if (play S (recOps 0 E n)).2 ≠ 0 then ((play S (recOps 0 E n)).1, 0, (play S (recOps 0 E n)).2) else ((play S (recOps 0 E n)).1, (n : Int), 0) := by
  have hb := hE.N64
  have h24 := hE.n24
  have hm : mayB S.n 0 64 = true := by simp [mayB]; omega
  have e0 : (0 : Int).toNat = 0 := rfl
  have h0 : S.now 0 = n := (h 0).1.2.1 rfl
  have hl : ∀ j, j < n → logE S 0 j = E j := by
    intro j hj
    unfold logE
    rw [e0, Nat.zero_add]
    have h1 := ((h (8 + 2 * j)).1.2.2.1 rfl j hj).1 rfl
    have h2 := ((h (8 + 2 * j + 1)).1.2.2.1 rfl j hj).2 rfl
    rw [h1, h2]
  have hg : goodB S 0 64 n = true := goodB_true.2 (fun j hj => by
    rw [hl j hj]
    have := hE.at_ j hj
    simp [okB]
    omega)
  unfold recR
  rw [if_neg (by rw [hm]; simp), if_neg (by rw [ho]; simp), e0, h0, if_neg (by simp [holdsB]; omega), Int.toNat_natCast, if_neg (by rw [hg]; simp), if_neg (by omega), ops_congr hl]

theorem rec_fine (hE : EOk N n E) (hN : S.n = N) (ho : S.off = false) (h : Fine N n E A S) :
    Half N n E A (recR S 0 64).1 ∧ (Whole N n E A S → Whole N n E A (recR S 0 64).1) ∧ ((recR S 0 64).2.2 = 0 ∨ (recR S 0 64).2.2 = 7) ∧ (recR S 0 64).1.n = N ∧ S.steps ≤ (recR S 0 64).1.steps ∧ (recR S 0 64).1.steps ≤ S.steps + 100 ∧
    (Calm S → (recR S 0 64).2.2 = 0 ∧ Calm (recR S 0 64).1 ∧ (None_ N n E A (recR S 0 64).1 ∨ Whole N n E A (recR S 0 64).1)) := by
  have clean : S.now 0 = 0 → (None_ N n E A S ∨ Whole N n E A S) → _ := fun (h0 : S.now 0 = 0) (hw : None_ N n E A S ∨ Whole N n E A S) => by
    have e := rec_clean hN hE.N64 ho h0
    show Half N n E A (recR S 0 64).1 ∧ (Whole N n E A S → Whole N n E A (recR S 0 64).1) ∧ ((recR S 0 64).2.2 = 0 ∨ (recR S 0 64).2.2 = 7) ∧ (recR S 0 64).1.n = N ∧ S.steps ≤ (recR S 0 64).1.steps ∧ (recR S 0 64).1.steps ≤ S.steps + 100 ∧
      (Calm S → (recR S 0 64).2.2 = 0 ∧ Calm (recR S 0 64).1 ∧ (None_ N n E A (recR S 0 64).1 ∨ Whole N n E A (recR S 0 64).1))
    rw [e]
    exact ⟨h.half, fun h => h, .inl rfl, hN, by dsimp only; omega, by dsimp only; omega, fun hc => ⟨rfl, hc, hw⟩⟩
  rcases id h with h1 | h1 | h1
  · exact clean ((h1 0).1.2.1 rfl) (.inl h1)
  · rcases Nat.eq_zero_or_pos n with hn | hn
    · subst hn
      refine clean ((h1 0).1.2.1 rfl) (.inl ?_)
      exact PicAll.mono (R := Rr N 0 E (· = ((0 : Nat) : Int)) true (Qq 0 E A)) h1 (fun i x hx => ⟨hx.1, hx.2.1, fun e => (by cases e), fun a b => by
        rcases hx.2.2.2 a b with e | ⟨k, hk, _⟩
        · exact e
        · omega⟩)
    · have e := rec_log hE hN ho h1 hn
      have hok := recOps_ok hE.log
      have hf0 : ((0 : Nat) : Int) = 0 := rfl
      rw [hf0] at hok
      have ha := play_ans (S := S) (os := recOps 0 E n) (by rw [hN]; exact hok)
      have hst := play_steps S (recOps 0 E n)
      have hpn := (play_n S (recOps 0 E n)).trans hN
      have hlen := recOps_len 0 E n
      have hdl := doFl_len E n
      have h24 := hE.n24
      have hwh : Whole N n E A S → Whole N n E A (recR S 0 64).1 := fun hw => by
        have e1 := (hw 0).1.2.1 rfl
        have e2 := (h1 0).1.2.1 rfl
        exfalso
        have : (n : Int) = 0 := by rw [← e2, ← e1]
        omega
      have hcalm : Calm S → (play S (recOps 0 E n)).2 = 0 ∧ Calm (play S (recOps 0 E n)).1 := fun hc => by
        obtain ⟨a, b, _⟩ := play_calm (S := S) (os := recOps 0 E n) (by rw [hN]; exact hok) hc
        exact ⟨a, b⟩
      by_cases h0 : (play S (recOps 0 E n)).2 = 0
      · rw [if_neg (by rw [h0]; simp)] at e
        rw [e] at hwh ⊢
        have hW : Whole N n E A (play S (recOps 0 E n)).1 := (rec_ok_pic hE h1 h0).mono Rr.forget
        exact ⟨.inr (.inr (.inr (.inr hW))), hwh, .inl rfl, hpn, hst.1, by dsimp only; omega, fun hc => ⟨rfl, (hcalm hc).2, .inr hW⟩⟩
      · rw [if_pos h0] at e
        rw [e] at hwh ⊢
        refine ⟨?_, hwh, ha, hpn, hst.1, by dsimp only; omega, fun hc => absurd (hcalm hc).1 h0⟩
        rcases rec_any_pic hE h1 with h2 | h2
        · exact .inr (.inr (.inl h2))
        · exact .inr (.inr (.inr (.inl h2)))
  · exact clean ((h1 0).1.2.1 rfl) (.inr h1)

/-- A row is written. -/
theorem write_fine (hE : EOk N n E) (hN : S.n = N) (ho : S.off = false) (h : None_ N n E A S) :
    Half N n E A (writeR S 0 64 E n).1 ∧ ((writeR S 0 64 E n).2 = 0 → Whole N n E A (writeR S 0 64 E n).1) ∧ ((writeR S 0 64 E n).2 = 0 ∨ (writeR S 0 64 E n).2 = 7) ∧ (writeR S 0 64 E n).1.n = N ∧ S.steps ≤ (writeR S 0 64 E n).1.steps ∧ (writeR S 0 64 E n).1.steps ≤ S.steps + 200 ∧
    (Calm S → (writeR S 0 64 E n).2 = 0 ∧ Calm (writeR S 0 64 E n).1) := by
  have hb := hE.N64
  have hb1 := hE.N1
  have h24 := hE.n24
  have hm : mayB S.n 0 64 = true := by simp [mayB]; omega
  have e0 : (0 : Int).toNat = 0 := rfl
  have h0 : S.now 0 = 0 := (h 0).1.2.1 rfl
  have hl : leavesB S.n 0 64 E n = true := leavesB_true.2 (fun j hj => by
    have := hE.at_ j hj
    rw [hN]
    exact (atB_true hb1 (by omega) (by omega)).2 (by omega))
  have e : writeR S 0 64 E n = if n = 0 then (S, 0) else play S (wrOps 0 E n) := by
    unfold writeR
    rw [if_neg (by rw [hm]; simp), if_neg (by simp [holdsB]; omega), if_neg (by rw [hl]; simp), if_neg (by rw [ho]; simp), e0, h0, if_neg (by simp)]
  rw [e]
  by_cases hn : n = 0
  · subst hn
    rw [if_pos rfl]
    exact ⟨.inl h, fun _ => h, .inl rfl, hN, by dsimp only; omega, by dsimp only; omega, fun hc => ⟨rfl, hc⟩⟩
  · rw [if_neg hn]
    have hok := wrOps_ok hE.log
    have hf0 : ((0 : Nat) : Int) = 0 := rfl
    rw [hf0] at hok
    have ha := play_ans (S := S) (os := wrOps 0 E n) (by rw [hN]; exact hok)
    have hst := play_steps S (wrOps 0 E n)
    have hpn := (play_n S (wrOps 0 E n)).trans hN
    have hlen := wrOps_len 0 E n
    have hdl := doFl_len E n
    obtain ⟨p1, p2⟩ := wr_pic hE h
    refine ⟨p1, p2, ha, hpn, hst.1, by omega, fun hc => ?_⟩
    obtain ⟨a, b, _⟩ := play_calm (S := S) (os := wrOps 0 E n) (by rw [hN]; exact hok) hc
    exact ⟨a, b⟩
end
end Go.Proofs.Ytejhdmpobaffcaa
