/-
  The document's own device (scullionref3): Fence. No conditions but what a device is.
-/
import Derived.Test.YtejhdmpobaffcaaRef3
namespace Go.Proofs.Ytejhdmpobaffcaa
open Go.RowKit Go.Flo
set_option maxRecDepth 100000

/-- What is asked of a device is asked of its words and lines alone. -/
theorem TwinE.congr {w : World} {T : TLoc} {D : List Nat} {S S' : St} (h : TwinE w T D S) (hn : S'.n = S.n) (h1 : S'.steps = S.steps) (h2 : S'.fuse = S.fuse) (h3 : S'.off = S.off)
    (hr : ∀ i, i < S.n → S.now i = S'.now i) (hs : ∀ i, i < S.n → S.sure i = S'.sure i) (ht : ∀ i, i < S.n → S.fl (i / 8) = true → S.tk i = S'.tk i) (hf : ∀ i, i < nl S.n → S.fl i = S'.fl i) : TwinE w T D S' := by
  obtain ⟨X, fz, c, h⟩ := h
  obtain ⟨n, now, sure, tk, fl, steps, fuse, off⟩ := S'
  dsimp only at hn h1 h2 h3 hr hs ht hf
  subst hn h1 h2 h3
  refine ⟨X, fz, c, { h with ok := fun i hi' => ?_ }⟩
  have ho := h.ok i hi'
  have hin : ∀ j, j < hi S.n i - lo i → (lo i + j) / 8 = i ∧ lo i + j < S.n := by intro j hj; unfold hi lo at *; omega
  have e := hf i hi'
  refine ⟨ho.now.congr (fun j hj => hr _ (hin j hj).2), ho.sure.congr (fun j hj => hs _ (hin j hj).2), fun hb => ?_, ?_, ho.va⟩
  · have hb' : S.fl i = true := by rw [e]; exact hb
    exact (ho.at_ hb').congr (fun j hj => ht _ (hin j hj).2 (by rw [(hin j hj).1]; exact hb'))
  · rw [ho.fl, e]

theorem tdrain_zero {w : World} {T : TLoc} {D : List Nat} {S : St} (h : TwinE w T D S) : TwinE w T D (drainTo S 0) :=
  h.congr rfl rfl rfl rfl (fun i _ => rfl) (fun i _ => by simp [drainTo]) (fun i _ _ => rfl) (fun i _ => by simp [drainTo])
theorem tdrain_all {w : World} {T : TLoc} {D : List Nat} {S : St} (h : TwinE w T D (drainTo S (nl S.n))) : TwinE w T D (drainS S) :=
  h.congr rfl rfl rfl rfl (fun i _ => rfl) (fun i hi => by
    have : i / 8 < nl S.n := by unfold nl; dsimp only [drainTo] at hi; omega
    simp [drainTo, drainS, this]) (fun i _ _ => rfl) (fun i hi => by
    dsimp only [drainTo] at hi
    simp [drainTo, drainS, hi])
theorem tdrain_next {w : World} {T : TLoc} {D : List Nat} {S : St} {l : Nat} (hf : S.fl l = true) (h : TwinE w T D (secureS (drainTo S l) l S.tk)) : TwinE w T D (drainTo S (l + 1)) :=
  h.congr rfl rfl rfl rfl (fun i _ => rfl) (fun i _ => by
    by_cases h1 : 8 * l ≤ i ∧ i < 8 * l + 8
    · have e : i / 8 = l := by omega
      simp [secureS, drainTo, h1, e, hf]
    · have e : ¬ i / 8 = l := by omega
      have e2 : i / 8 < l + 1 ↔ i / 8 < l := by omega
      simp [secureS, drainTo, h1, e2]) (fun i _ _ => rfl) (fun i _ => by
    by_cases h1 : i = l
    · simp [secureS, drainTo, h1]
    · have e : i < l + 1 ↔ i < l := by omega
      simp [secureS, drainTo, h1, e])
theorem tdrain_skip {w : World} {T : TLoc} {D : List Nat} {S : St} {l : Nat} (hf : S.fl l = false) (h : TwinE w T D (drainTo S l)) : TwinE w T D (drainTo S (l + 1)) :=
  h.congr rfl rfl rfl rfl (fun i _ => rfl) (fun i _ => by
    by_cases h1 : i / 8 = l
    · simp [drainTo, h1, hf]
    · have e2 : i / 8 < l + 1 ↔ i / 8 < l := by omega
      simp [drainTo, e2]) (fun i _ _ => rfl) (fun i _ => by
    by_cases h1 : i = l
    · simp [drainTo, h1, hf]
    · have e : i < l + 1 ↔ i < l := by omega
      simp [drainTo, e])

theorem TwinE.keepE {w w' : World} {T : TLoc} {D : List Nat} {S : St} (h : TwinE w T D S) (hk : Keep [] w w') : TwinE w' T D S := by
  obtain ⟨X, fz, c, h⟩ := h
  exact ⟨X, fz, c, h.keepT hk⟩

def RFenceRel (w1 : World) (T : TLoc) (D : List Nat) (S : St) (x : Value) (wr : World) : Prop :=
  ∃ i : Nat, x = .int .i64 i ∧ i ≤ nl S.n ∧ TwinE wr T D (drainTo S i) ∧ Keep T.own w1 wr

set_option maxHeartbeats 4000000 in
theorem rfence_any (w : World) (T : TLoc) (D : List Nat) (S : St) (h : TwinE w T D S) (s0 : 0 ≤ S.steps) (s1 : S.steps < 1000000) :
    Calls Try.prog 38 #[.pointer (some ⟨T.m, 0, none⟩)] w (TDid T D (fenceS S) w (.int .i64 (ans (stepS S).off true))) := by
  cases ho : S.off
  · have hst := rstep_on w T D S h s0 s1 ho
    cases hoo : (stepS S).off
    · rw [hoo] at hst
      have hfin : fenceS S = drainS (stepS S) := by simp [fenceS, hoo]
      have HF := Lib.hid hfin
      have hE : ans false true = 0 := rfl
      rw [hE]
      clear hfin ho hoo hE
      go_enter Try.func38, Try.ntmps38
      go_wp2_with fail
      (with_reducible refine hst.mono ?_)
      rintro e w1 ⟨rfl, hT1, hK1⟩
      generalize stepS S = S2 at *
      obtain ⟨X, fz, c, hT⟩ := id hT1
      have c1 := hT.c1
      have hmx : nl S2.n ≤ 65536 := by have := hT.n; unfold nl; omega
      clear hst h hT
      go_wp2_with fail
      go_loopw [24] (fun x wr => RFenceRel w1 T D S2 x wr) (fun x _ => nl S2.n - (intOf x).toNat)
      case atStart => exact ⟨0, rfl, by omega, tdrain_zero hT1, Keep.refl _ _⟩
      case round =>
        obtain ⟨i, rfl, hi1, hT2, hK2⟩ := hrel
        clear hT1 c1
        by_cases hlt : i < nl S2.n
        · have hlt' : (i : Int) < ((nl S2.n : Nat) : Int) := by omega
          obtain ⟨X2, fz2, c2, hT⟩ := hT2
          have c1 := hT.c1
          have hA := hT.adr (by show 0 < nl S2.n; omega)
          rw [hA] at c1
          change wr.cell? _ = some (.slice _ (nl S2.n) _) at c1
          have hl : i < nl (drainTo S2 i).n := hlt
          have cl1 := hT.lcell hl (show 1 < 4 by omega)
          have cl2 := hT.lcell hl (show 2 < 4 by omega)
          have cl3 := hT.lcell hl (show 3 < 4 by omega)
          have zl := hT.lz hl
          have hok := hT.ok i hl
          have hfl : (drainTo S2 i).fl i = S2.fl i := by simp [drainTo]
          rw [hok.fl, hfl] at cl3
          obtain ⟨gs, cs, hXs, _, _⟩ := hok.sure
          rw [hXs] at cl1
          cases hf : S2.fl i
          · rw [hf] at cl3
            have hN := tdrain_skip hf ⟨X2, fz2, c2, hT⟩
            have HN := Lib.hid hN
            clear hf hN hT hok hfl hXs
            go_wp2_with fail
            exact ⟨⟨i + 1, by go_num, by omega, HN.out, hK2⟩, by simp [intOf]; omega⟩
          · rw [hf] at cl3
            obtain ⟨ga, ca, hXa, hRa, hga⟩ := hok.at_ (by rw [hfl]; exact hf)
            rw [hXa] at cl2
            have hse : ∀ W, Keep [] wr W → TwinE ((W.setCell ⟨T.l, i * 4 + 1, none⟩ (X2 i 2)).setCell ⟨T.l, i * 4 + 3, none⟩ (.bool false)) T D (drainTo S2 (i + 1)) ∧ Keep [T.l] W ((W.setCell ⟨T.l, i * 4 + 1, none⟩ (X2 i 2)).setCell ⟨T.l, i * 4 + 3, none⟩ (.bool false)) := fun W kW => by
              have h1 := (hT.keepT kW).secure hl (X2 i 2) S2.tk (((hT.keepT kW).ok i hl).at_ (by rw [hfl]; exact hf))
              exact ⟨tdrain_next hf h1.1, h1.2⟩
            rw [hXa] at hse
            have HSE := Lib.hid hse
            have lm1 := hT.lm (by show 0 < nl S2.n; omega)
            have lm2 : ¬ T.m = T.l := fun e => lm1 e.symm
            clear hf hT hok hfl hXs hXa hRa hse
            generalize hi (drainTo S2 i).n i - lo i = HL at *
            go_wp2_with fail
            go_region
            go_wp2_with fail
            obtain ⟨e1, e2⟩ := HSE.out wr (Keep.refl _ _)
            exact ⟨⟨i + 1, by go_num, by omega, e1.keepE (Keep.drew _), (hK2.trans (TwinE.own e2)).trans (Keep.drew _)⟩, by simp [intOf]; omega⟩
        · have hlt' : ¬ (i : Int) < ((nl S2.n : Nat) : Int) := by omega
          obtain rfl : i = nl S2.n := by omega
          have hfin := tdrain_all hT2
          go_wp2
          go_ret
          exact ⟨rfl, by rw [HF.out]; exact hfin, hK1.trans hK2⟩
    · rw [hoo] at hst
      have hfin : fenceS S = stepS S := by simp [fenceS, hoo]
      have HF := Lib.hid hfin
      have hE : ans true true = 7 := rfl
      rw [hE]
      clear hfin ho hoo hE
      go_enter Try.func38, Try.ntmps38
      go_wp2_with fail
      (with_reducible refine hst.mono ?_)
      rintro e w1 ⟨rfl, hT1, hK1⟩
      have hen : Calls Try.prog 60 #[.int .i64 0, .bool true] w1 fun e w' => e = .returned (.int .i64 7) ∧ w1 = w' := end_any w1 0 true
      go_wp2_with fail
      (with_reducible refine hen.mono ?_)
      rintro e w' ⟨rfl, rfl⟩
      go_wp2
      go_ret
      exact ⟨rfl, by rw [HF.out]; exact hT1, hK1⟩
  · have hst := rstep_off w T D S h s0 s1 ho
    have hoff : (stepS S).off = true := by simp [stepS, ho]
    have hfin : fenceS S = stepS S := by simp [fenceS, hoff]
    have hE : ans (stepS S).off true = 7 := by rw [hoff]; rfl
    rw [hE]
    have HF := Lib.hid hfin
    clear hfin hoff hE ho
    go_enter Try.func38, Try.ntmps38
    go_wp2_with fail
    (with_reducible refine hst.mono ?_)
    rintro e w1 ⟨rfl, hT1, hK1⟩
    have hen : Calls Try.prog 60 #[.int .i64 7, .bool false] w1 fun e w' => e = .returned (.int .i64 7) ∧ w1 = w' := end_any w1 7 false
    go_wp2_with fail
    (with_reducible refine hen.mono ?_)
    rintro e w' ⟨rfl, rfl⟩
    go_wp2
    go_ret
    exact ⟨rfl, by rw [HF.out]; exact hT1, hK1⟩
end Go.Proofs.Ytejhdmpobaffcaa
