/-
  ObjectDecodes walked. No conditions but what came in.
-/
import Derived.Test.YtbmnhngkmokklaaOb8
namespace Go.Proofs.Ytbmnhngkmokklaa
open Go.RowKit Go.Flo Go.Bit
set_option maxRecDepth 100000

theorem sameVs_self {L : List Val} (h : ∀ v ∈ L, sameV v v = true) : SameVs L.length (fun i => L.getD i z0) L.length (fun i => L.getD i z0) :=
  ⟨rfl, fun i hi => by
    have : L.getD i z0 ∈ L := by simp [List.getD_eq_getElem?_getD, hi]
    exact h _ this⟩

theorem decA_kind {f : Nat → Int} {W : List Int} : ∀ {k : Nat} {L : List Val}, decA f W k = some L → ∀ v ∈ L, Kind4 v.K
  | 0, L, h => by injection h with h; subst h; simp
  | k + 1, L, h => by
    obtain ⟨L0, v, h0, h1, rfl⟩ := decA_some h
    intro u hu
    rcases List.mem_append.1 hu with hu | hu
    · exact decA_kind h0 u hu
    · rw [List.mem_singleton] at hu
      subst hu
      have := ofV_kind (f k) (seg f W k)
      rwa [h1] at this

theorem decE_same (n : Nat) (m : Nat → Nat) (f : Nat → Nat → Int) (W : List Int) : ∀ v ∈ (decE n m f W).L, sameV v v = true := by
  unfold decE
  split
  · intro v hv; simp [decNo] at hv
  · unfold decH
    split
    · unfold decK
      split
      · intro v hv; simp [decNo] at hv
      · rename_i h
        exact fun v hv => sameV_self (decA_kind h v hv)
    · intro v hv; simp [decNo] at hv

set_option maxHeartbeats 2000000 in
theorem walk_odec (w : World) (A B : Option Addr) (n cap cb : Nat) (m : Nat → Nat) (f : Nat → Nat → Int) (W : List Int) (hK : KRow w A n cap m f) (hW : Wd w B W) (hr : ∀ y ∈ W, 0 ≤ y ∧ y < 18446744073709551616) (hl : W.length ≤ cb) (hcb : cb ≤ 9223372036854775807) :
    Calls Try.prog 4 #[.slice A n cap, .slice B W.length cb] w fun e w' => e = .returned (.bool true) ∧ Keep [] w w' := by
  have hlg := light11_any w A n cap m f hK
  obtain ⟨N, hN⟩ : ∃ N, W.length = N := ⟨_, rfl⟩
  by_cases hL : Light11 n m
  case neg =>
    rw [decide_eq_false hL] at hlg
    rw [hN]
    clear hK hW hL hr hl hN
    go_enter Try.func4, Try.ntmps4
    go_wp2_with fail
    (with_reducible refine hlg.mono ?_)
    rintro e w2 ⟨rfl, k2⟩
    go_wp2_with fail
    (with_reducible refine (awake11_any _).mono ?_)
    rintro e w3 ⟨rfl, k3⟩
    go_wp2
    go_ret
    exact ⟨rfl, k2.trans k3⟩
  rw [decide_eq_true hL] at hlg
  by_cases h40 : 40 < N
  · have h40' : (40 : Int) < N := by omega
    rw [hN]
    clear hK hW hL hr hl hN
    go_enter Try.func4, Try.ntmps4
    go_wp2_with fail
    (with_reducible refine hlg.mono ?_)
    rintro e w2 ⟨rfl, k2⟩
    go_wp2_with fail
    (with_reducible refine (awake11_any _).mono ?_)
    rintro e w3 ⟨rfl, k3⟩
    go_wp2
    go_ret
    exact ⟨rfl, k2.trans k3⟩
  have h40' : ¬ (40 : Int) < N := by omega
  have h1 := fun X (hk : Keep [] w X) => dec_any X A B n cap cb m f W (hK.keep hk) (hW.keep hk) hr hl hcb
  have h2 := fun X (hk : Keep [] w X) => rdec_any X A B n cap cb m f W (hK.keep hk) (hW.keep hk) hr hl hcb
  have hs := decE_same n m f W
  rw [hN] at h1 h2 ⊢
  generalize decE n m f W = R at *
  obtain ⟨kk, L, ep, er⟩ := R
  unfold DecPost at h1 h2
  dsimp only at h1 h2 hs
  have hsv := fun X A B c c' (hA : Vals X A L.length c (fun i => L.getD i z0)) (hB : Vals X B L.length c' (fun i => L.getD i z0)) => rsvs_any X A B L.length c L.length c' _ _ hA hB
  rw [show decide (SameVs L.length (fun i => L.getD i z0) L.length (fun i => L.getD i z0)) = true from decide_eq_true (sameVs_self hs)] at hsv
  have H1 := Lib.hid h1
  have H2 := Lib.hid h2
  have H5 := Lib.hid hsv
  have e1 : (er == er) = true := by simp
  have e2 : (kk == kk) = true := by simp
  have e3 : (ep == ep) = true := by simp
  clear h1 h2 hsv hK hW hL hs hr hl hN
  generalize L.length = q at *
  go_enter Try.func4, Try.ntmps4
  go_wp2_with fail
  (with_reducible refine hlg.mono ?_)
  rintro e w2 ⟨rfl, k2⟩
  clear hlg
  have c1 := H1.out _ k2
  go_wp2_with fail
  (with_reducible refine c1.mono ?_)
  rintro e w3 ⟨A3, c3, rfl, y3, k3⟩
  clear c1
  have k03 := k2.trans k3
  have c2 := H2.out _ k03
  go_wp2_with fail
  (with_reducible refine c2.mono ?_)
  rintro e w4 ⟨A4, c4, rfl, y4, k4⟩
  clear c2
  have s1 := H5.out w4 A3 A4 c3 c4 (y3.keep k4) y4
  have K4 := Lib.hid (k03.trans k4)
  clear k2 k3 k4 k03 y3 y4
  go_wp2_with fail
  (with_reducible refine s1.mono ?_)
  rintro e w7 ⟨rfl, k7⟩
  clear s1
  go_wp2_with fail
  (with_reducible refine (awake11_any _).mono ?_)
  rintro e w9 ⟨rfl, k9⟩
  go_wp2
  go_ret
  exact ⟨rfl, (K4.out.trans k7).trans k9⟩
end Go.Proofs.Ytbmnhngkmokklaa
