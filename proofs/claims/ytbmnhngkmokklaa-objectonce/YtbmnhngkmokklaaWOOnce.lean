/-
  ObjectOnce walked. No conditions but what came in.
-/
import Derived.Test.YtbmnhngkmokklaaOb8
namespace Go.Proofs.Ytbmnhngkmokklaa
open Go.RowKit Go.Flo Go.Bit
set_option maxRecDepth 100000

/-- Words that are an object are the words of what is read of them. -/
theorem once_of (n : Nat) (m : Nat → Nat) (f : Nat → Nat → Int) (W : List Int) (hr : ∀ y ∈ W, 0 ≤ y ∧ y < 18446744073709551616) :
    decE n m f W = decNo ∨ ∃ (K : Int) (L : List Val) (ep s : Nat), decE n m f W = ⟨K, L, ep, 0⟩ ∧ ep < 18446744073709551616 ∧ s ≤ W.length ∧ encE n m f K L.length (fun j => L.getD j z0) ep = (some (W.take s), 0) := by
  match W, hr with
  | [], _ => exact Or.inl rfl
  | h :: W0, hr =>
    have hh := hr h (by simp)
    obtain ⟨x, rfl⟩ : ∃ x : Nat, h = x := ⟨h.toNat, by omega⟩
    have hx : x < 18446744073709551616 := by omega
    have hE : decE n m f ((x : Int) :: W0) = decH n m f ((x : Int) :: W0) x := by
      show decH n m f ((x : Int) :: W0) ((x : Int)).toNat = _
      rw [Int.toNat_natCast]
    rw [hE]
    unfold decH
    split
    · rename_i hc
      obtain ⟨hH, hP, hs, hle⟩ := hc
      unfold decK
      cases hA : decA (f (getN x 0 4)) ((x : Int) :: W0) (m (getN x 0 4)) with
      | none => exact Or.inl rfl
      | some L =>
        refine Or.inr ⟨_, L, getN x 9 32, getN x 4 5, rfl, by have := getN_lt x 9 32; omega, hle, ?_⟩
        have hlen := decA_len hA
        have he := enc_dec hr hA (by omega)
        unfold encE
        rw [if_pos hP, Int.toNat_natCast, if_pos hlen]
        unfold encO
        rw [he, hs]
        dsimp only
        have hg := sumF_ge (f (getN x 0 4)) (m (getN x 0 4))
        rw [is_hd x hx hH]
        congr 2
        obtain ⟨s, hs2⟩ : ∃ s, getN x 4 5 = s + 1 := ⟨getN x 4 5 - 1, by omega⟩
        rw [hs2]
        simp
    · exact Or.inl rfl

set_option maxHeartbeats 2000000 in
theorem walk_oonce (w : World) (A B : Option Addr) (n cap cb : Nat) (m : Nat → Nat) (f : Nat → Nat → Int) (W : List Int) (hK : KRow w A n cap m f) (hW : Wd w B W) (hr : ∀ y ∈ W, 0 ≤ y ∧ y < 18446744073709551616) (hl : W.length ≤ cb) (hcb : cb ≤ 9223372036854775807) :
    Calls Try.prog 7 #[.slice A n cap, .slice B W.length cb] w fun e w' => e = .returned (.bool true) ∧ Keep [] w w' := by
  have hlg := light11_any w A n cap m f hK
  obtain ⟨N, hN⟩ : ∃ N, W.length = N := ⟨_, rfl⟩
  by_cases hL : Light11 n m
  case neg =>
    rw [decide_eq_false hL] at hlg
    rw [hN]
    clear hK hW hL hr hl hN
    go_enter Try.func7, Try.ntmps7
    go_wp2_with fail
    (with_reducible refine hlg.mono ?_)
    rintro e w2 ⟨rfl, k2⟩
    go_wp2_with fail
    (with_reducible refine (awake11_any _).mono ?_)
    rintro e w3 ⟨rfl, k3⟩
    go_wp2
    go_ret
    exact ⟨rfl, k2.trans k3⟩
  rw [decide_eq_true hL] at hlg
  by_cases h40 : 40 < N
  · have h40' : (40 : Int) < N := by omega
    rw [hN]
    clear hK hW hL hr hl hN
    go_enter Try.func7, Try.ntmps7
    go_wp2_with fail
    (with_reducible refine hlg.mono ?_)
    rintro e w2 ⟨rfl, k2⟩
    go_wp2_with fail
    (with_reducible refine (awake11_any _).mono ?_)
    rintro e w3 ⟨rfl, k3⟩
    go_wp2
    go_ret
    exact ⟨rfl, k2.trans k3⟩
  have h40' : ¬ (40 : Int) < N := by omega
  have h1 := fun X (hk : Keep [] w X) => dec_any X A B n cap cb m f W (hK.keep hk) (hW.keep hk) hr hl hcb
  rcases once_of n m f W hr with hR | ⟨K, L, ep, s, hR, hep, hs, hE⟩
  · rw [hR, hN] at h1
    rw [hN]
    unfold DecPost decNo at h1
    dsimp only at h1
    rw [show ([] : List Val).length = 0 from rfl] at h1
    have H1 := Lib.hid h1
    clear h1 hK hW hL hr hl hN hR
    go_enter Try.func7, Try.ntmps7
    go_wp2_with fail
    (with_reducible refine hlg.mono ?_)
    rintro e w2 ⟨rfl, k2⟩
    clear hlg
    have c1 := H1.out _ k2
    go_wp2_with fail
    (with_reducible refine c1.mono ?_)
    rintro e w3 ⟨A3, c3, rfl, _, k3⟩
    clear c1
    go_wp2_with fail
    (with_reducible refine (awake11_any _).mono ?_)
    rintro e w9 ⟨rfl, k9⟩
    go_wp2
    go_ret
    exact ⟨rfl, (k2.trans k3).trans k9⟩
  have h2 := fun X B' c' (hk : Keep [] w X) (hv : Vals X B' L.length c' (fun j => L.getD j z0)) => enc_any X A B' n cap L.length c' ep m f K (fun j => L.getD j z0) (hK.keep hk) hv hep
  rw [hR, hN] at h1
  rw [hE] at h2
  rw [hN]
  unfold DecPost at h1
  unfold EncPost at h2
  dsimp only at h1 h2
  have hls : (W.take s).length = s := by rw [List.length_take]; omega
  simp only [Option.getD_some] at h2
  rw [hls] at h2
  have H1 := Lib.hid h1
  have H2 := Lib.hid h2
  have HW := Lib.hid (And.intro hW (And.intro hN hls))
  have hsN : s ≤ N := by omega
  have hsN' : ¬ (N : Int) < (s : Int) := by omega
  rw [hN] at hl
  clear h1 h2 hK hW hL hr hN hR hE hep hls hs
  generalize L.length = q at *
  go_enter Try.func7, Try.ntmps7
  go_wp2_with fail
  (with_reducible refine hlg.mono ?_)
  rintro e w2 ⟨rfl, k2⟩
  clear hlg
  have c1 := H1.out _ k2
  go_wp2_with fail
  (with_reducible refine c1.mono ?_)
  rintro e w3 ⟨A3, c3, rfl, y3, k3⟩
  clear c1
  have k03 := k2.trans k3
  have c2 := H2.out _ _ _ k03 y3
  go_wp2_with fail
  (with_reducible refine c2.mono ?_)
  rintro e w4 ⟨A4, c4, rfl, z1, z2, y4, k4⟩
  clear c2 y3
  have HH := Lib.hid (And.intro y4 (k03.trans k4))
  clear k2 k3 k4 k03 y4
  go_wp2_with fail
  go_loopw [60] (fun x wr => ∃ j : Nat, j ≤ s ∧ x = .int .i64 j ∧ Keep [] w4 wr) (fun x _ => s - (RowKit.intOf x).toNat)
  case atStart => exact ⟨0, by omega, rfl, Keep.refl _ _⟩
  case round =>
  obtain ⟨j, hj, rfl, hd⟩ := hrel
  by_cases hlt : j < s
  case neg =>
    obtain rfl : j = s := by omega
    go_wp2_with fail
    (with_reducible refine (awake11_any _).mono ?_)
    rintro e w9 ⟨rfl, k9⟩
    go_wp2
    go_ret
    exact ⟨rfl, (HH.out.2.trans hd).trans k9⟩
  obtain ⟨b, o, rfl, hb, hc⟩ := (HW.out.1.keep (HH.out.2.trans hd)).cells (by rw [HW.out.2.1]; omega)
  obtain ⟨b', o', rfl, hb', hc'⟩ := (HH.out.1.keep hd).cells (by rw [HW.out.2.2]; omega)
  have ca := hc j (by rw [HW.out.2.1]; omega)
  have cb' := hc' j (by rw [HW.out.2.2]; exact hlt)
  rw [show (W.take s).getD j 0 = W.getD j 0 by simp [List.getD_eq_getElem?_getD, List.getElem?_take, hlt]] at cb'
  obtain ⟨y, hy⟩ : ∃ y : Int, y = W.getD j 0 := ⟨_, rfl⟩
  rw [← hy] at ca cb'
  have e1 : (y == y) = true := by simp
  have e2 : (y != y) = false := by simp
  have e3 : (j : Int) < N := by omega
  clear hy hc hc'
  go_wp2
  go_quiet (fail)
  go_wp2
  go_roundw
  case rel => exact ⟨j + 1, by omega, by go_num, hd.trans (Keep.dr (Dr.drewN _ _))⟩
  case measure => simp [RowKit.intOf]; omega
end Go.Proofs.Ytbmnhngkmokklaa
