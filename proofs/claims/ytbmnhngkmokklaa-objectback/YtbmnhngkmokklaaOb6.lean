/-
  object.Decode: what it answers of any words. No conditions but what is in memory.
-/
import Derived.Test.YtbmnhngkmokklaaOb5
namespace Go.Flo
open Go.RowKit Go.Bit

/-- What Decode answers: the kind, the fields, the epoch, the error. -/
structure DecR where
  K : Int
  L : List Val
  ep : Int
  err : Int

def decNo : DecR := ⟨0, [], 0, 8⟩

def DecPost (r : DecR) (w : World) (e : Ending) (w' : World) : Prop :=
  ∃ A c, e = .returned (.tuple #[.int .i64 r.K, .slice A r.L.length c, .int .u64 r.ep, .int .i64 r.err]) ∧ Vals w' A r.L.length c (fun i => r.L.getD i z0) ∧ Keep [] w w'

theorem DecPost.no {w w' : World} (hk : Keep [] w w') : DecPost decNo w (.returned (.tuple #[.int .i64 0, .slice none 0 0, .int .u64 0, .int .i64 8])) w' := ⟨none, 0, rfl, Vals.none _ _, hk⟩
end Go.Flo
namespace Go.Proofs.Ytbmnhngkmokklaa
open Go.RowKit Go.Flo Go.Bit
set_option maxRecDepth 100000

/-- .. of words whose kind is there. -/
def decK (K mK : Nat) (fK : Nat → Int) (W : List Int) (ep : Nat) : DecR := match decA fK W mK with | none => decNo | some L => ⟨K, L, ep, 0⟩

/-- .. of words whose first is x. -/
def decH (n : Nat) (m : Nat → Nat) (f : Nat → Nat → Int) (W : List Int) (x : Nat) : DecR :=
  if IsH x ∧ FindP n m f (getN x 0 4 : Nat) ∧ sumF (f (getN x 0 4)) (m (getN x 0 4)) = getN x 4 5 ∧ getN x 4 5 ≤ W.length then decK (getN x 0 4) (m (getN x 0 4)) (f (getN x 0 4)) W (getN x 9 32) else decNo

def decE (n : Nat) (m : Nat → Nat) (f : Nat → Nat → Int) (W : List Int) : DecR := match W with | [] => decNo | h :: _ => decH n m f W h.toNat

set_option maxHeartbeats 1000000 in
theorem dec_any (w : World) (A B : Option Addr) (n cap cb : Nat) (m : Nat → Nat) (f : Nat → Nat → Int) (W : List Int) (hK : KRow w A n cap m f) (hW : Wd w B W) (hr : ∀ y ∈ W, 0 ≤ y ∧ y < 18446744073709551616) (hl : W.length ≤ cb) (hcb : cb ≤ 9223372036854775807) :
    Calls Try.prog 15 #[.slice A n cap, .slice B W.length cb] w (DecPost (decE n m f W) w) := by
  match W, hW, hr, hl with
  | [], hW, hr, hl =>
    show Calls _ _ _ _ (DecPost decNo w)
    rw [show (([] : List Int).length) = 0 from rfl]
    clear hW hr hl hK
    go_enter Try.func15, Try.ntmps15
    go_wp2
    (try simp only [Exit.inBlock, Exit.then])
    refine bodyPost_ret (results_tmp4 rfl _ _ _) rfl ?_
    exact DecPost.no (Keep.refl _ _)
  | h :: W0, hW, hr, hl =>
  have hh := hr h (by simp)
  obtain ⟨x, rfl⟩ : ∃ x : Nat, h = x := ⟨h.toNat, by omega⟩
  have hx : x < 18446744073709551616 := by omega
  have hE : decE n m f ((x : Int) :: W0) = decH n m f ((x : Int) :: W0) x := by
    show decH n m f ((x : Int) :: W0) ((x : Int)).toNat = _
    rw [Int.toNat_natCast]
  rw [hE]
  clear hE hh
  obtain ⟨W, hWe⟩ : ∃ W, W = (x : Int) :: W0 := ⟨_, rfl⟩
  rw [← hWe] at hW hr hl ⊢
  have hN0 : 0 < W.length := by rw [hWe]; simp
  obtain ⟨b, o, rfl, hb, hc⟩ := hW.cells hN0
  have c0 : w.cell? ⟨b, o, none⟩ = some (.int .u64 (x : Nat)) := by
    have := hc 0 hN0
    rw [hWe] at this
    exact this
  clear hc hWe
  by_cases hH : IsH x
  case neg =>
    have hp := parse_no x hx hH
    unfold noneV at hp
    rw [show decH n m f W x = decNo from if_neg (fun e => hH e.1)]
    generalize W.length = N at *
    have t0 : (0 : Int) < (N : Int) := by omega
    have t1 : ((N : Int) == 0) = false := by simp; omega
    clear hW hr hK hH
    go_enter Try.func15, Try.ntmps15
    go_wp2_with fail
    (with_reducible refine (hp _).mono ?_)
    rintro e w2 ⟨rfl, d2⟩
    go_wp2
    (try simp only [Exit.inBlock, Exit.then])
    refine bodyPost_ret (results_tmp4 rfl _ _ _) rfl ?_
    exact DecPost.no (Keep.dr d2)
  have hp := parse_yes x hx hH
  have hm5 : getN x 4 5 ≤ 16 := hH.1.2
  unfold partsV at hp
  have hk16 := getN_lt x 0 4
  have hR : decH n m f W x = if FindP n m f (getN x 0 4 : Nat) ∧ sumF (f (getN x 0 4)) (m (getN x 0 4)) = getN x 4 5 ∧ getN x 4 5 ≤ W.length then decK (getN x 0 4) (m (getN x 0 4)) (f (getN x 0 4)) W (getN x 9 32) else decNo := by
    unfold decH
    by_cases h2 : FindP n m f (getN x 0 4 : Nat) ∧ sumF (f (getN x 0 4)) (m (getN x 0 4)) = getN x 4 5 ∧ getN x 4 5 ≤ W.length
    · rw [if_pos h2, if_pos ⟨hH, h2⟩]
    · rw [if_neg h2, if_neg (fun e => h2 e.2)]
  rw [hR]
  clear hR hH
  generalize getN x 0 4 = k at *
  generalize getN x 4 5 = q at *
  generalize getN x 9 32 = ep at *
  by_cases hP : FindP n m f (k : Int)
  case neg =>
    rw [if_neg (fun e => hP e.1)]
    have hf := fun W (hk : Keep [] w W) => find_no W A n cap m f k (hK.keep hk) hP
    generalize W.length = N at *
    have t0 : (0 : Int) < (N : Int) := by omega
    have t1 : ((N : Int) == 0) = false := by simp; omega
    have HF := Lib.hid hf
    clear hW hr hK hP hf
    go_enter Try.func15, Try.ntmps15
    go_wp2_with fail
    (with_reducible refine (hp _).mono ?_)
    rintro e w2 ⟨rfl, d2⟩
    have hf := HF.out _ (Keep.dr d2)
    go_wp2_with fail
    (with_reducible refine hf.mono ?_)
    rintro e w3 ⟨rfl, k3⟩
    go_wp2
    (try simp only [Exit.inBlock, Exit.then])
    refine bodyPost_ret (results_tmp4 rfl _ _ _) rfl ?_
    exact DecPost.no ((Keep.dr d2).trans (k3.trans (Keep.alloc _ _)))
  obtain ⟨p0, p1, p2, p3⟩ := hP
  rw [Int.toNat_natCast] at p3
  obtain ⟨bK, oK, rfl, hbK, hcK⟩ := hK.cells (by omega)
  obtain ⟨A', c', cj, hI⟩ := hcK k (by omega)
  have hnck := hK.nc
  have hcck := hK.cap
  have hf := fun X (hk : Keep [] w X) => find_yes X n cap k (m k) c' bK oK A' (f k) hnck hcck (by omega) (by omega) (Nat.lt_of_lt_of_le hbK hk.size) ((hk.cell (p := ⟨bK, _, none⟩) hbK (by simp)).trans cj) (hI.keep hk) p3
  have hkw := fun X (hk : Keep [] w X) => kwords_any X A' (m k) c' (f k) (hI.keep hk)
  rw [show kwds (m k) (f k) = sumF (f k) (m k) from if_pos ⟨p3.1, p3.2.1, p3.2.2.1⟩] at hkw
  have hR : (if FindP n m f (k : Int) ∧ sumF (f k) (m k) = q ∧ q ≤ W.length then decK k (m k) (f k) W ep else decNo) = if sumF (f k) (m k) = q ∧ q ≤ W.length then decK k (m k) (f k) W ep else decNo := by
    by_cases h2 : sumF (f k) (m k) = q ∧ q ≤ W.length
    · rw [if_pos h2, if_pos ⟨⟨p0, p1, p2, by rw [Int.toNat_natCast]; exact p3⟩, h2⟩]
    · rw [if_neg h2, if_neg (fun e => h2 e.2)]
  rw [hR]
  clear hR hcK cj p0 p1 p2
  generalize m k = mK at *
  generalize f k = fK at *
  by_cases c1 : sumF fK mK = q
  case neg =>
    rw [if_neg (fun e => c1 e.1)]
    generalize sumF fK mK = s at *
    generalize W.length = N at *
    have t0 : (0 : Int) < (N : Int) := by omega
    have t1 : ((N : Int) == 0) = false := by simp; omega
    have t2 : ((q : Int) == s) = false := by simp; omega
    have t3 : ((q : Int) != s) = true := by simp; omega
    have HF := Lib.hid hf
    have HKW := Lib.hid hkw
    clear hW hr hK hf hkw hI p3 c1
    go_enter Try.func15, Try.ntmps15
    go_wp2_with fail
    (with_reducible refine (hp _).mono ?_)
    rintro e w2 ⟨rfl, d2⟩
    have hf := HF.out _ (Keep.dr d2)
    go_wp2_with fail
    (with_reducible refine hf.mono ?_)
    rintro e w3 ⟨rfl, k3⟩
    have ka : Keep [] w3 (w3.alloc (.cells #[.slice A' mK c'] 47)) := Keep.alloc _ _
    have hkw := HKW.out _ ((Keep.dr d2).trans (k3.trans ka))
    go_wp2_with fail
    (with_reducible refine hkw.mono ?_)
    rintro e w4 ⟨rfl, k4⟩
    go_wp2
    (try simp only [Exit.inBlock, Exit.then])
    refine bodyPost_ret (results_tmp4 rfl _ _ _) rfl ?_
    exact DecPost.no ((Keep.dr d2).trans ((k3.trans ka).trans k4))
  subst c1
  by_cases c2 : sumF fK mK ≤ W.length
  case neg =>
    rw [if_neg (fun e => c2 e.2)]
    generalize sumF fK mK = s at *
    generalize W.length = N at *
    have t0 : (0 : Int) < (N : Int) := by omega
    have t1 : ((N : Int) == 0) = false := by simp; omega
    have t2 : ((s : Int) == s) = true := by simp
    have t3 : ((s : Int) != s) = false := by simp
    have t4 : (N : Int) < (s : Int) := by omega
    have HF := Lib.hid hf
    have HKW := Lib.hid hkw
    clear hW hr hK hf hkw hI p3 c2
    go_enter Try.func15, Try.ntmps15
    go_wp2_with fail
    (with_reducible refine (hp _).mono ?_)
    rintro e w2 ⟨rfl, d2⟩
    have hf := HF.out _ (Keep.dr d2)
    go_wp2_with fail
    (with_reducible refine hf.mono ?_)
    rintro e w3 ⟨rfl, k3⟩
    have ka : Keep [] w3 (w3.alloc (.cells #[.slice A' mK c'] 47)) := Keep.alloc _ _
    have hkw := HKW.out _ ((Keep.dr d2).trans (k3.trans ka))
    go_wp2_with fail
    (with_reducible refine hkw.mono ?_)
    rintro e w4 ⟨rfl, k4⟩
    go_wp2
    (try simp only [Exit.inBlock, Exit.then])
    refine bodyPost_ret (results_tmp4 rfl _ _ _) rfl ?_
    exact DecPost.no ((Keep.dr d2).trans ((k3.trans ka).trans k4))
  rw [if_pos ⟨rfl, c2⟩]
  have hrd := fun X (hk : Keep [] w X) => read_any X A' (some ⟨b, o, none⟩) mK c' cb fK W p3 (hI.keep hk) (hW.keep hk) hr hl hcb c2
  have t4 : ¬ (W.length : Int) < (sumF fK mK : Nat) := by omega
  have t0 : (0 : Int) < (W.length : Int) := by omega
  have t1 : ((W.length : Int) == 0) = false := by
    have : ¬ W.length = 0 := by omega
    simpa using this
  have C2 := Lib.hid c2
  clear c2
  generalize sumF fK mK = s at *
  have t2 : ((s : Int) == s) = true := by simp
  have t3 : ((s : Int) != s) = false := by simp
  unfold ReadPost at hrd
  have HF := Lib.hid hf
  have HKW := Lib.hid hkw
  unfold decK
  cases hA : decA fK W mK with
  | none =>
    rw [hA] at hrd
    simp only [Option.getD_none, List.length_nil, Option.isSome_none] at hrd
    have HRD := Lib.hid hrd
    generalize W.length = N at *
    clear hW hr hK hf hkw hI p3 hrd hA
    show Calls _ _ _ _ (DecPost decNo w)
    go_enter Try.func15, Try.ntmps15
    go_wp2_with fail
    (with_reducible refine (hp _).mono ?_)
    rintro e w2 ⟨rfl, d2⟩
    have hf := HF.out _ (Keep.dr d2)
    go_wp2_with fail
    (with_reducible refine hf.mono ?_)
    rintro e w3 ⟨rfl, k3⟩
    have ka : Keep [] w3 (w3.alloc (.cells #[.slice A' mK c'] 47)) := Keep.alloc _ _
    have hB := Blk.new w3 47 #[.slice A' mK c']
    have hkw := HKW.out _ ((Keep.dr d2).trans (k3.trans ka))
    go_wp2_with fail
    (with_reducible refine hkw.mono ?_)
    rintro e w4 ⟨rfl, k4⟩
    have cK := ((hB.keep k4 (by simp)).cell 0).trans (show _ = some (Value.slice A' mK c') from rfl)
    have hrd := HRD.out _ ((Keep.dr d2).trans ((k3.trans ka).trans k4))
    go_wp2_with fail
    (with_reducible refine hrd.mono ?_)
    rintro e w5 ⟨A5, c5, rfl, _, k5⟩
    go_wp2
    (try simp only [Exit.inBlock, Exit.then])
    refine bodyPost_ret (results_tmp4 rfl _ _ _) rfl ?_
    exact DecPost.no (((Keep.dr d2).trans ((k3.trans ka).trans k4)).trans k5)
  | some L =>
    rw [hA] at hrd
    simp only [Option.getD_some, Option.isSome_some] at hrd
    have HRD := Lib.hid hrd
    show Calls _ _ _ _ (DecPost ⟨k, L, ep, 0⟩ w)
    generalize W.length = N at *
    clear hW hr hK hf hkw hI p3 hrd hA
    go_enter Try.func15, Try.ntmps15
    go_wp2_with fail
    (with_reducible refine (hp _).mono ?_)
    rintro e w2 ⟨rfl, d2⟩
    have hf := HF.out _ (Keep.dr d2)
    go_wp2_with fail
    (with_reducible refine hf.mono ?_)
    rintro e w3 ⟨rfl, k3⟩
    have ka : Keep [] w3 (w3.alloc (.cells #[.slice A' mK c'] 47)) := Keep.alloc _ _
    have hB := Blk.new w3 47 #[.slice A' mK c']
    have hkw := HKW.out _ ((Keep.dr d2).trans (k3.trans ka))
    go_wp2_with fail
    (with_reducible refine hkw.mono ?_)
    rintro e w4 ⟨rfl, k4⟩
    have cK := ((hB.keep k4 (by simp)).cell 0).trans (show _ = some (Value.slice A' mK c') from rfl)
    have hrd := HRD.out _ ((Keep.dr d2).trans ((k3.trans ka).trans k4))
    go_wp2_with fail
    (with_reducible refine hrd.mono ?_)
    rintro e w5 ⟨A5, c5, rfl, hV, k5⟩
    have HV := Lib.hid (And.intro hV (((Keep.dr d2).trans ((k3.trans ka).trans k4)).trans k5))
    clear hV k5
    go_wp2
    (try simp only [Exit.inBlock, Exit.then])
    refine bodyPost_ret (results_tmp4 rfl _ _ _) rfl ?_
    exact ⟨A5, c5, rfl, HV.out⟩
end Go.Proofs.Ytbmnhngkmokklaa
