/-
  Crash: what is left of the lines. No conditions but what a device is.
-/
import Derived.Test.YtejhdmpobaffcaaDev2
namespace Go.Proofs.Ytejhdmpobaffcaa
open Go.RowKit Go.Flo
set_option maxRecDepth 100000

/-- Does a crash spend a pick on this line? -/
def nc (S : St) (l : Nat) : Bool := S.fl l || dirtyB S l

/-- How many picks are spent ahead of this line. -/
def used (S : St) : Nat → Nat
  | 0 => 0
  | l + 1 => used S l + if nc S l then 1 else 0

/-- What a crash makes sure of a word. -/
def fin (S : St) (p : Nat → Int) (i : Nat) : Int := if nc S (i / 8) then choose S (i / 8) (p (used S (i / 8))) i else S.sure i

def crashTo (S : St) (p : Nat → Int) (l : Nat) : St := { S with sure := fun i => if i / 8 < l then fin S p i else S.sure i, fl := fun k => if k < l then false else S.fl k }

/-- What a crash leaves. -/
def crashS (S : St) (p : Nat → Int) : St := { S with now := fin S p, sure := fin S p, fl := fun _ => false, off := false, fuse := 0 }

theorem dirtyB_congr {S S' : St} {l : Nat} (hn : S'.n = S.n) (h1 : ∀ i, i / 8 = l → S'.now i = S.now i) (h2 : ∀ i, i / 8 = l → S'.sure i = S.sure i) : dirtyB S' l = dirtyB S l := by
  unfold dirtyB
  rw [hn]
  congr 1
  rw [Bool.eq_iff_iff, eqB_true, eqB_true]
  have : ∀ j, j < hi S.n l - lo l → (lo l + j) / 8 = l := by intro j hj; unfold hi lo at *; omega
  constructor
  · intro h j hj
    have := h j hj
    rwa [h1 _ (by apply_assumption; exact hj), h2 _ (by apply_assumption; exact hj)] at this
  · intro h j hj
    have := h j hj
    rwa [h1 _ (by apply_assumption; exact hj), h2 _ (by apply_assumption; exact hj)]

theorem dirty_to (S : St) (p : Nat → Int) (l : Nat) : dirtyB (crashTo S p l) l = dirtyB S l :=
  dirtyB_congr rfl (fun i _ => rfl) (fun i hi => by simp [crashTo, hi])

theorem choose_to (S : St) (p : Nat → Int) (l : Nat) (x : Int) (i : Nat) (h : i / 8 = l) : choose (crashTo S p l) l x i = choose S l x i := by
  unfold choose
  have hf : (crashTo S p l).fl l = S.fl l := by simp [crashTo]
  rw [hf]
  split
  · rfl
  · split
    · rfl
    · simp [crashTo, h]

theorem crashTo_zero {w : World} {L : Loc} {S : St} (p : Nat → Int) (h : Dev w L S) : Dev w L (crashTo S p 0) :=
  h.congr rfl rfl rfl rfl (fun i _ => rfl) (fun i _ => by simp [crashTo]) (fun i _ => rfl) (fun i _ => by simp [crashTo])

theorem crashTo_next {w : World} {L : Loc} {S : St} {p : Nat → Int} {l : Nat} (hn : nc S l = true) (h : Dev w L (secureS (crashTo S p l) l (choose (crashTo S p l) l (p (used S l))))) : Dev w L (crashTo S p (l + 1)) :=
  h.congr rfl rfl rfl rfl (fun i _ => rfl) (fun i _ => by
    by_cases h1 : 8 * l ≤ i ∧ i < 8 * l + 8
    · have e : i / 8 = l := by omega
      dsimp only [secureS]
      rw [if_pos h1, choose_to S p l _ i e]
      dsimp only [crashTo]
      rw [if_pos (by omega), fin, e, if_pos hn]
    · have e : ¬ i / 8 = l := by omega
      have e2 : i / 8 < l + 1 ↔ i / 8 < l := by omega
      simp [secureS, crashTo, h1, e2]) (fun i _ => rfl) (fun i _ => by
    by_cases h1 : i = l
    · simp [secureS, crashTo, h1]
    · have e : i < l + 1 ↔ i < l := by omega
      simp [secureS, crashTo, h1, e])

theorem crashTo_skip {w : World} {L : Loc} {S : St} {p : Nat → Int} {l : Nat} (hn : nc S l = false) (h : Dev w L (crashTo S p l)) : Dev w L (crashTo S p (l + 1)) := by
  have hf : S.fl l = false := by unfold nc at hn; cases e : S.fl l <;> simp_all
  exact h.congr rfl rfl rfl rfl (fun i _ => rfl) (fun i _ => by
    by_cases h1 : i / 8 = l
    · dsimp only [crashTo]
      rw [if_neg (by omega), if_pos (by omega), fin, h1, if_neg (by simp [hn])]
    · have e2 : i / 8 < l + 1 ↔ i / 8 < l := by omega
      simp [crashTo, e2]) (fun i _ => rfl) (fun i _ => by
    by_cases h1 : i = l
    · simp [crashTo, h1, hf]
    · have e : i < l + 1 ↔ i < l := by omega
      simp [crashTo, e])

theorem crashTo_all {w : World} {L : Loc} {S : St} {p : Nat → Int} (h : Dev w L { crashTo S p (nl S.n) with now := (crashTo S p (nl S.n)).sure, off := false, fuse := 0 }) : Dev w L (crashS S p) := by
  have hb : ∀ i, i < S.n → i / 8 < nl S.n := by intro i hi; unfold nl; omega
  refine h.congr rfl rfl rfl rfl (fun i hi => ?_) (fun i hi => ?_) (fun i _ => rfl) (fun i hi => ?_)
  · simp [crashTo, crashS, hb i hi]
  · simp [crashTo, crashS, hb i hi]
  · change i < nl S.n at hi
    simp [crashTo, crashS, hi]

theorem then_goto {K : Act → World → Prop} {Q : Exit → Act → World → Prop} {l : Nat} {a : Act} {w : World} (h : Q (.goto l) a w) : Exit.then K Q (.goto l) a w := h
theorem jump_normal {l : Nat} {J : Act → World → Prop} {Q : Exit → Act → World → Prop} {a : Act} {w : World} (h : Q .normal a w) : Exit.jump l J Q .normal a w := h

def CrashJ (w : World) (L : Loc) (S : St) (p : Nat → Int) (a' : Act) (w' : World) : Prop :=
  ∃ (A : Option Addr) (m c l : Nat) (u5 u6 u7 u8 u9 u10 u11 u12 u13 u14 u15 u16 u17 u18 u19 u20 u21 u22 u23 u24 u25 u26 u27 u28 u29 u30 u31 u32 u33 u34 u35 u36 u37 u38 u39 u40 u41 u42 u43 u44 u45 u46 : Value), a' = { tmps := #[.pointer (some ⟨L.d, 0, none⟩), .slice A m c, undef, undef, .int .i64 l, u5, u6, u7, u8, u9, u10, u11, u12, u13, u14, u15, u16, u17, u18, u19, u20, u21, u22, u23, u24, u25, u26, u27, u28, u29, u30, u31, u32, u33, u34, u35, u36, u37, u38, u39, u40, u41, u42, u43, u44, u45, u46], defers := [] } ∧
    Dev w' L (crashTo S p l) ∧ Pk w' L.own A m c (fun j => p (used S l + j)) ∧ Keep L.own w w' ∧ l ≤ nl S.n

set_option maxRecDepth 100000 in
set_option maxHeartbeats 2000000 in
theorem crash_any (w : World) (L : Loc) (S : St) (h : Dev w L S) (A : Option Addr) (m c : Nat) (p : Nat → Int) (hp : Pk w L.own A m c p) :
    Calls Try.prog 21 #[.pointer (some ⟨L.d, 0, none⟩), .slice A m c] w (Did L (crashS S p) w (.tuple #[])) := by
  have hn := h.n
  have hm : nl S.n ≤ 65536 := by unfold nl; omega
  go_enter Try.func21, Try.ntmps21
  go_wp2_with fail
  refine wp_scope_round 0 (CrashJ w L S p) (fun a' _ => nl S.n - slotNat 4 a') rfl ?_ ?_
  · rintro a' w' ⟨A, m, c, l, u5, u6, u7, u8, u9, u10, u11, u12, u13, u14, u15, u16, u17, u18, u19, u20, u21, u22, u23, u24, u25, u26, u27, u28, u29, u30, u31, u32, u33, u34, u35, u36, u37, u38, u39, u40, u41, u42, u43, u44, u45, u46, rfl, hD, hP, hK, hl⟩
    have es : slotNat 4 { tmps := #[.pointer (some ⟨L.d, 0, none⟩), .slice A m c, undef, undef, .int .i64 l, u5, u6, u7, u8, u9, u10, u11, u12, u13, u14, u15, u16, u17, u18, u19, u20, u21, u22, u23, u24, u25, u26, u27, u28, u29, u30, u31, u32, u33, u34, u35, u36, u37, u38, u39, u40, u41, u42, u43, u44, u45, u46], defers := [] } = l := by simp [slotNat]
    rw [es]
    have c3 := hD.c3
    change w'.cell? _ = some (.slice _ (nl S.n) _) at c3
    clear h hp
    by_cases hlt : l < nl S.n
    · have cl := hD.f.cell hlt
      have efl : bl (crashTo S p l).fl l = .bool (S.fl l) := by simp [bl, crashTo]
      rw [efl] at cl
      clear efl
      have hlt' : (l : Int) < ((nl S.n : Nat) : Int) := by omega
      have hdi := dirty_any w' L (crashTo S p l) hD l hlt
      rw [dirty_to] at hdi
      cases hf : S.fl l
      · rw [hf] at cl
        cases hdy : dirtyB S l
        · rw [hdy] at hdi
          have hN : nc S l = false := by simp [nc, hf, hdy]
          have HN := Lib.hid hN
          clear hN hf hdy
          go_wp2_with fail
          (with_reducible refine hdi.mono ?_)
          rintro e w1 ⟨rfl, d⟩
          have hD3 := crashTo_skip HN.out (hD.dr_ d)
          have hP3 : Pk w1 L.own A m c (fun j => p (used S (l + 1) + j)) := by
            have e : used S (l + 1) = used S l := by simp [used, HN.out]
            rw [e]
            exact hP.keep (Keep.dr d)
          clear hD hP hdi
          go_wp2_with fail
          go_step3
          refine then_goto ?_
          apply jump_goto
          refine ⟨⟨A, m, c, l + 1, _, _, _, _, _, _, _, _, _, _, _, _, _, _, _, _, _, _, _, _, _, _, _, _, _, _, _, _, _, _, _, _, _, _, _, _, _, _, _, _, _, _, rfl, hD3, hP3, hK.trans (Keep.dr d), by omega⟩, ?_⟩
          simp [slotNat]
          omega
        · rw [hdy] at hdi
          have hN : nc S l = true := by simp [nc, hdy]
          have HN := Lib.hid hN
          clear hN hf hdy
          go_wp2_with fail
          (with_reducible refine hdi.mono ?_)
          rintro e w1 ⟨rfl, d⟩
          go_wp2_with fail
          have hse := settle_any w1 L (crashTo S p l) (hD.dr_ d) l hlt A m c (fun j => p (used S l + j)) (hP.keep (Keep.dr d))
          (with_reducible refine hse.mono ?_)
          rintro e w2 ⟨A2, m2, c2, rfl, hP2, hD2, hK2⟩
          dsimp only [Nat.add_zero] at hD2
          have hD3 := crashTo_next HN.out hD2
          have hP3 : Pk w2 L.own A2 m2 c2 (fun j => p (used S (l + 1) + j)) := by
            have e : used S (l + 1) = used S l + 1 := by simp [used, HN.out]
            rw [e]
            simpa [Nat.add_assoc, Nat.add_comm 1] using hP2
          clear hD hD2 hP2 hse hdi
          go_wp2_with fail
          go_step3
          refine then_goto ?_
          apply jump_goto
          refine ⟨⟨A2, m2, c2, l + 1, _, _, _, _, _, _, _, _, _, _, _, _, _, _, _, _, _, _, _, _, _, _, _, _, _, _, _, _, _, _, _, _, _, _, _, _, _, _, _, _, _, _, rfl, hD3, hP3, (hK.trans (Keep.dr d)).trans hK2, by omega⟩, ?_⟩
          simp [slotNat]
          omega
      · rw [hf] at cl
        have hN : nc S l = true := by simp [nc, hf]
        have HN := Lib.hid hN
        clear hN hf
        go_wp2_with fail
        have hse := settle_any w' L (crashTo S p l) hD l hlt A m c (fun j => p (used S l + j)) hP
        (with_reducible refine hse.mono ?_)
        rintro e w2 ⟨A2, m2, c2, rfl, hP2, hD2, hK2⟩
        dsimp only [Nat.add_zero] at hD2
        have hD3 := crashTo_next HN.out hD2
        have hP3 : Pk w2 L.own A2 m2 c2 (fun j => p (used S (l + 1) + j)) := by
          have e : used S (l + 1) = used S l + 1 := by simp [used, HN.out]
          rw [e]
          simpa [Nat.add_assoc, Nat.add_comm 1] using hP2
        clear hD hD2 hP2 hse hdi
        go_wp2_with fail
        go_step3
        refine then_goto ?_
        apply jump_goto
        refine ⟨⟨A2, m2, c2, l + 1, _, _, _, _, _, _, _, _, _, _, _, _, _, _, _, _, _, _, _, _, _, _, _, _, _, _, _, _, _, _, _, _, _, _, _, _, _, _, _, _, _, _, rfl, hD3, hP3, hK.trans hK2, by omega⟩, ?_⟩
        simp [slotNat]
        omega
    · have hlt2 : ¬ (l : Int) < ((nl S.n : Nat) : Int) := by omega
      obtain rfl : l = nl S.n := by omega
      have hDn := hD
      have c0 := hD.c0
      have c1 := hD.c1
      change w'.cell? _ = some (.slice _ S.n _) at c0
      change w'.cell? _ = some (.slice _ S.n _) at c1
      go_wp2_with fail
      go_still_tail 8, (by kernel_rfl)
      change wpList _ _ _ _ _ w'.drew
      have hd2 := hD.keep (own := []) (Keep.drew w') (by simp)
      refine wpList_copy_row rfl (.tmp 35) (.tmp 39) 25 25 rfl 44 Try.underlying25 info28 L.r 0 S.n L.rc rfl L.s 0 L.sc rfl 44 44 S.n S.n L.rc L.sc (u64 S.now) (u64 (crashTo S p (nl S.n)).sure) hd2.r hd2.s (by omega) (by omega) (fun i _ => rfl) ?_
      intro w3 hr3 hk3
      have h3 := hd2.rowR (crashTo S p (nl S.n)).sure (hr3.congr (fun i hi => by
        rw [if_pos (by omega)]
        unfold u64
        rw [show 0 + (i - 0) = i by omega])) hk3
      have hk : Keep L.own w w3 := (hK.trans (Keep.drew w')).trans (hk3.one (by simp [Loc.own]))
      have c5 := h3.c5
      have c6 := h3.c6
      have z := h3.z
      clear c0 c1 hr3 hk3 hd2 hD hDn c3
      go_wp2
      refine jump_normal ?_
      go_end0
      exact ⟨rfl, crashTo_all ((h3.set6 false).set5 0 (by omega) (by omega)), (hk.trans (Keep.setCell _ _ (by simp [Loc.own]) _)).trans (Keep.setCell _ _ (by simp [Loc.own]) _)⟩
  · intro hfirst
    go_wp2_with fail
    go_step3
    rename_i hK
    exact hK _ _ (hfirst _ _ ⟨A, m, c, 0, _, _, _, _, _, _, _, _, _, _, _, _, _, _, _, _, _, _, _, _, _, _, _, _, _, _, _, _, _, _, _, _, _, _, _, _, _, _, _, _, _, _, rfl, crashTo_zero p h, by simpa [used] using hp, Keep.refl _ _, by omega⟩)
end Go.Proofs.Ytejhdmpobaffcaa
