/-
  Is a device like the document's (scullionlaw3.like)? No conditions but what the devices are.
-/
import Derived.Test.YtjicfjnkammmcaaDo
namespace Go.Proofs.Ytjicfjnkammmcaa
open Go.RowKit Go.Flo

/-- The words that the document's device tells, read off. -/
theorem rw_form {w : World} {B n : Nat} {v : Value} {f : Nat → Int} (h : w.ownsRow B 28 1 v n (rowR n f)) : ∃ A cap, v = .slice A n cap ∧ (0 < n → ∃ g, A = some ⟨g, 0, none⟩ ∧ Row w 28 g n cap (u64 f)) := by
  obtain ⟨_, h2⟩ := id h
  rcases h2 with ⟨rfl, rfl⟩ | ⟨g, cap, cur, rfl, hg, _⟩
  · exact ⟨none, 0, rfl, fun h => absurd h (by omega)⟩
  · exact ⟨_, cap, rfl, fun _ => ⟨g, rfl, Row.of_owns h⟩⟩

def RWords2 (S : St) (w : World) (e : Ending) (w' : World) : Prop := ∃ A cap, e = .returned (.slice A S.n cap) ∧ (0 < S.n → ∃ g, A = some ⟨g, 0, none⟩ ∧ Row w' 28 g S.n cap (u64 S.sure)) ∧ Keep [] w w'

theorem rwords2 (w : World) (T : TLoc) (D : List Nat) (S : St) (h : TwinE w T D S) : Calls Try.prog 38 #[.pointer (some ⟨T.m, 0, none⟩)] w (RWords2 S w) := by
  refine (rwords_any w T D S h).mono ?_
  rintro e w' ⟨v, rfl, hr, hk⟩
  obtain ⟨A, cap, rfl, h2⟩ := rw_form hr
  exact ⟨A, cap, rfl, h2, hk⟩

theorem same2 (W : World) (n g cap cap' : Nat) (A : Option Addr) (f : Nat → Int) (hn : n ≤ 65536) (h1 : Row W 28 g n cap (u64 f)) (h2 : 0 < n → ∃ g, A = some ⟨g, 0, none⟩ ∧ Row W 28 g n cap' (u64 f)) :
    Calls Try.prog 29 #[.slice (some ⟨g, 0, none⟩) n cap, .slice A n cap'] W fun e w' => e = .returned (.bool true) ∧ Dr W w' := by
  by_cases h0 : 0 < n
  · obtain ⟨g', rfl, h3⟩ := h2 h0
    exact same_rows W 28 28 g n cap g' cap' f f hn h1 h3 (fun _ _ => rfl)
  · obtain rfl : n = 0 := by omega
    exact same_none W _ _ _ _

def LikeRel (w3 : World) (n : Nat) (x : Value) (wr : World) : Prop := ∃ i : Nat, x = .int .i64 i ∧ i ≤ n ∧ w3 = wr

set_option maxHeartbeats 8000000 in
theorem like_any (w : World) (L : Loc) (T : TLoc) (D : List Nat) (S : St) (hD : Dev w L S) (hT : TwinE w T D S) :
    Calls Try.prog 14 #[.pointer (some ⟨L.d, 0, none⟩), .pointer (some ⟨T.m, 0, none⟩)] w fun e w' => e = .returned (.bool true) ∧ Keep [] w w' := by
  have hn := hD.n
  have hcell : ∀ W, Keep [] w W → W.cell? ⟨T.m, 0, none⟩ = some (.int .i64 S.n) ∧ W.cell? ⟨T.m, 2, none⟩ = some (.int .i64 S.steps) ∧ W.cell? ⟨T.m, 4, none⟩ = some (.bool S.off) := fun W k => by
    obtain ⟨X, fz, c, h⟩ := hT.keepE k
    exact ⟨h.c0, h.c2, h.c4⟩
  have hlen : ∀ W, Keep [] w W → Calls Try.prog 24 #[.pointer (some ⟨L.d, 0, none⟩)] W fun e w' => e = .returned (.int .i64 S.n) ∧ W = w' := fun W k => len_any W L S (hD.keep k (by simp))
  have hste : ∀ W, Keep [] w W → Calls Try.prog 26 #[.pointer (some ⟨L.d, 0, none⟩)] W fun e w' => e = .returned (.int .i64 S.steps) ∧ W = w' := fun W k => steps_any W L S (hD.keep k (by simp))
  have hdow : ∀ W, Keep [] w W → Calls Try.prog 27 #[.pointer (some ⟨L.d, 0, none⟩)] W fun e w' => e = .returned (.bool S.off) ∧ W = w' := fun W k => down_any W L S (hD.keep k (by simp))
  have hwor : ∀ W, Keep [] w W → Calls Try.prog 28 #[.pointer (some ⟨L.d, 0, none⟩)] W (RowPost 28 S.n (u64 S.sure) W) := fun W k => words_any W L S (hD.keep k (by simp))
  have hrwo : ∀ W, Keep [] w W → Calls Try.prog 38 #[.pointer (some ⟨T.m, 0, none⟩)] W (RWords2 S W) := fun W k => rwords2 W T D S (hT.keepE k)
  have hld : ∀ W, Keep [] w W → ∀ x, Calls Try.prog 20 #[.pointer (some ⟨L.d, 0, none⟩), .int .i64 x] W (LoadPost S x W) := fun W k x => load_any W L S (hD.keep k (by simp)) x
  have hrl : ∀ W, Keep [] w W → ∀ x, Calls Try.prog 37 #[.pointer (some ⟨T.m, 0, none⟩), .int .i64 x] W (LoadPost S x W) := fun W k x => rload_any W T D S (hT.keepE k) x
  obtain ⟨f0, f2, f4⟩ := hcell w (Keep.refl _ _)
  have HCE := Lib.hid hcell
  have HLE := Lib.hid hlen
  have HST := Lib.hid hste
  have HDO := Lib.hid hdow
  have HWO := Lib.hid hwor
  have HRW := Lib.hid hrwo
  have HLD := Lib.hid hld
  have HRL := Lib.hid hrl
  clear hcell hlen hste hdow hwor hrwo hld hrl hD hT
  have e1 : (((S.n : Nat) : Int) != ((S.n : Nat) : Int)) = false := by simp
  have e2 : (S.steps != S.steps) = false := by simp
  have e3 : (S.off != S.off) = false := by simp
  go_enter Try.func14, Try.ntmps14
  go_wp2_with fail
  go_region_held3 (fun w' => w'.cell? ⟨T.m, 0, none⟩ = some (.int .i64 S.n) ∧ w'.cell? ⟨T.m, 2, none⟩ = some (.int .i64 S.steps) ∧ w'.cell? ⟨T.m, 4, none⟩ = some (.bool S.off)) (first | exact kf3 | exact kf2 | exact kf1 | go_keep)
    (first | (go_at_call 24; refine (HLE.out _ (by repeat (first | (with_reducible exact Keep.refl _ _) | (with_reducible refine Keep.trans ?_ (Keep.alloc _ _)) | (with_reducible refine Keep.trans ?_ (Keep.drew _)) | (refine Keep.trans ?_ (by assumption))))).mono ?_; rintro e w' ⟨rfl, rfl⟩) | (go_at_call 26; refine (HST.out _ (by repeat (first | (with_reducible exact Keep.refl _ _) | (with_reducible refine Keep.trans ?_ (Keep.alloc _ _)) | (with_reducible refine Keep.trans ?_ (Keep.drew _)) | (refine Keep.trans ?_ (by assumption))))).mono ?_; rintro e w' ⟨rfl, rfl⟩) | (go_at_call 27; refine (HDO.out _ (by repeat (first | (with_reducible exact Keep.refl _ _) | (with_reducible refine Keep.trans ?_ (Keep.alloc _ _)) | (with_reducible refine Keep.trans ?_ (Keep.drew _)) | (refine Keep.trans ?_ (by assumption))))).mono ?_; rintro e w' ⟨rfl, rfl⟩) | (go_at_call 28; refine (HWO.out _ (by repeat (first | (with_reducible exact Keep.refl _ _) | (with_reducible refine Keep.trans ?_ (Keep.alloc _ _)) | (with_reducible refine Keep.trans ?_ (Keep.drew _)) | (refine Keep.trans ?_ (by assumption))))).mono ?_; rintro e w1 ⟨g, cap, rfl, hR, hg, hk1⟩; have kf1 := HCE.out w1 (by repeat (first | (with_reducible exact Keep.refl _ _) | (with_reducible refine Keep.trans ?_ (Keep.alloc _ _)) | (with_reducible refine Keep.trans ?_ (Keep.drew _)) | (refine Keep.trans ?_ (by assumption))))) | (go_at_call 38; refine (HRW.out _ (by repeat (first | (with_reducible exact Keep.refl _ _) | (with_reducible refine Keep.trans ?_ (Keep.alloc _ _)) | (with_reducible refine Keep.trans ?_ (Keep.drew _)) | (refine Keep.trans ?_ (by assumption))))).mono ?_; rintro e w2 ⟨A2, cap2, rfl, hR2, hk2⟩; have kf2 := HCE.out w2 (by repeat (first | (with_reducible exact Keep.refl _ _) | (with_reducible refine Keep.trans ?_ (Keep.alloc _ _)) | (with_reducible refine Keep.trans ?_ (Keep.drew _)) | (refine Keep.trans ?_ (by assumption))))) | (go_at_call 29; refine (same2 w2 S.n g cap cap2 A2 S.sure hn (hR.keep hk2 (by simp)) hR2).mono ?_; rintro e w3 ⟨rfl, d3⟩; have hk3 : Keep [] w2 w3 := Keep.dr d3; have kf3 := HCE.out w3 (by repeat (first | (with_reducible exact Keep.refl _ _) | (with_reducible refine Keep.trans ?_ (Keep.alloc _ _)) | (with_reducible refine Keep.trans ?_ (Keep.drew _)) | (refine Keep.trans ?_ (by assumption))))))
  have hKw : Keep [] w w3 := by repeat (first | (with_reducible exact Keep.refl _ _) | (with_reducible refine Keep.trans ?_ (Keep.alloc _ _)) | (with_reducible refine Keep.trans ?_ (Keep.drew _)) | (refine Keep.trans ?_ (by assumption)))
  obtain ⟨g0, _, _⟩ := kf3
  clear kf1 kf2 hk1 hk2 hk3 hR hR2 d3 f0 f2 f4
  go_wp2_with fail
  go_loopw [47] (fun x wr => LikeRel w3 S.n x wr) (fun x _ => S.n - (intOf x).toNat)
  case atStart => exact ⟨0, rfl, by omega, rfl⟩
  case round =>
    obtain ⟨i, rfl, hi1, rfl⟩ := hrel
    by_cases hlt : i < S.n
    · have hlt' : (i : Int) < ((S.n : Nat) : Int) := by omega
      have h1 := HLD.out w3 hKw i
      have h2 := HRL.out w3 hKw i
      unfold LoadPost at h1 h2
      generalize loadV S (i : Int) = V at *
      generalize ans S.off (hasB S.n (i : Int)) = E at *
      have v1 : (V != V) = false := by simp
      have v2 : (E != E) = false := by simp
      go_wp2_with fail
      (with_reducible refine h1.mono ?_)
      rintro e w' ⟨rfl, rfl⟩
      go_wp2_with fail
      (with_reducible refine h2.mono ?_)
      rintro e w' ⟨rfl, rfl⟩
      clear h1 h2
      go_wp2_with fail
      exact ⟨⟨i + 1, by go_num, by omega, rfl⟩, by simp [intOf]; omega⟩
    · have hlt' : ¬ (i : Int) < ((S.n : Nat) : Int) := by omega
      have hlt'' : decide (i < S.n) = false := by simp; omega
      go_wp2
      go_ret
      exact ⟨rfl, hKw⟩
end Go.Proofs.Ytjicfjnkammmcaa
