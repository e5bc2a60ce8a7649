/-
  BlockLeast walked. No conditions but what came in.
-/
import Derived.Test.YtfihaaciaobolaaTb6
import Derived.Test.YtfihaaciaobolaaR61
import Derived.LoopN
namespace Go.Proofs.Ytfihaaciaobolaa
open Go.RowKit Go.Flo Go.Bit Go.Bmp
set_option maxRecDepth 100000

def LeoRel (w2 : World) (L : TLoc) (C : Cf) (U : Nat → Bool) (len : Nat) (x : Value) (wr : World) : Prop :=
  ∃ (j : Nat) (T : Nat → Bool), j ≤ len ∧ x = .int .i64 j ∧ Tbl wr L C U T ∧ Keep [] w2 wr

/-- What is looked at so far. -/
def LeaRel (w9 : World) (C : Cf) (T : Nat → Bool) (a : Nat) (X : Int) (x y : Value) (wr : World) : Prop :=
  Dr w9 wr ∧ ((∃ b : Nat, y = .int .i64 b ∧ b ≤ C.all ∧ x = .int .i64 (-1) ∧ ∀ j, j < b → a ≤ j → T j ≠ false) ∨ ∃ b i : Nat, y = .int .i64 b ∧ x = .int .i64 i ∧ X = i ∧ b ≤ C.all)

set_option maxHeartbeats 4000000 in
theorem walk_least (w : World) (a0 a1 a2 a3 : Int) (A : Option Addr) (len cap : Nat) (f : Nat → Nat) (hW : Wrd w A len cap f) (A2 : Option Addr) (len2 cap2 : Nat) (f2 : Nat → Int) (hI : Ints w A2 len2 cap2 f2) :
    Calls Try.prog 7 #[.agg #[.int .i64 a0, .int .i64 a1, .int .i64 a2, .int .i64 a3], .slice A len cap, .slice A2 len2 cap2] w fun e w' => e = .returned (.bool true) ∧ Keep [] w w' := by
  have kb : Keep [] w (w.alloc (.cells #[.int .i64 a0, .int .i64 a1, .int .i64 a2, .int .i64 a3] 22)) := Keep.alloc _ _
  have hbx := Blk.new w 22 #[.int .i64 a0, .int .i64 a1, .int .i64 a2, .int .i64 a3]
  have hcf := config_any (w.alloc (.cells #[.int .i64 a0, .int .i64 a1, .int .i64 a2, .int .i64 a3] 22)) a0 a1 a2 a3
  have ok := cfC_ok a0 a1 a2 a3
  have hall := cfC_all a0 a1 a2 a3
  go_enter Try.func7, Try.ntmps7
  go_wp2_with fail
  (with_reducible refine hcf.mono ?_)
  rintro e w1 ⟨g, rfl, hK, k1⟩
  have hly := lay_any w1 a0 a1 a2 a3 _ hK
  generalize hC : cfC a0 a1 a2 a3 = C at *
  clear hcf hK hbx
  go_wp2_with fail
  (with_reducible refine hly.mono ?_)
  rintro e w2 ⟨l, rfl, hL, k2⟩
  have k02 := (kb.trans k1).trans k2
  have hof := of_any w2 1000 A len cap f (hW.keep k02)
  rw [show clampN 1000 = 1000 by decide] at hof
  clear hly kb k1 k2
  go_wp2_with fail
  (with_reducible refine hof.mono ?_)
  rintro e w3 ⟨LM, rfl, hM, _, _, k3⟩
  have htn := tnew_map (hL.keep k3) ok LM 1000 _ hM
  clear hof
  go_wp2_with fail
  (with_reducible refine htn.mono ?_)
  rintro e w4 ⟨L, rfl, hT, ho, k4⟩
  rw [show cutB C.all (ofB 1000 len f) = usB C len f from rfl] at hT
  generalize usB C len f = U at *
  have hs23 := k3.size
  have k24 := k3.trans k4
  have hsz : ∀ k ∈ L.own, w2.heap.size ≤ k := fun k hk => Nat.le_trans hs23 (ho k hk)
  have HO := Lib.hid hsz
  have HL := Lib.hid hL
  have K02 := Lib.hid k02
  clear htn hM ho k3 k4 hL k02 hsz hW hs23
  have hn1 := hI.nc
  have hn2 := hI.cap
  by_cases h60 : 60 < len2
  · have h60' : (60 : Int) < len2 := by omega
    have ha := awake7_any w4
    go_wp2_with fail
    (with_reducible refine ha.mono ?_)
    rintro e w15 ⟨rfl, k15⟩
    go_wp2
    go_ret
    exact ⟨rfl, K02.out.trans (k24.trans k15)⟩
  have h60' : ¬ (60 : Int) < len2 := by omega
  have HT := Lib.hid hT
  have K24 := Lib.hid k24
  have HI := Lib.hid hI
  clear hT k24 hI
  go_wp2_with fail
  go_loopw [45] (fun x wr => LeoRel w2 L C U len2 x wr) (fun x _ => len2 - (intOf x).toNat)
  case atStart => exact ⟨0, U, by omega, rfl, HT.out, K24.out⟩
  case round =>
    obtain ⟨j, T, hj, rfl, hTr, hKr⟩ := hrel
    by_cases hlt : j < len2
    case neg =>
      have hge : ¬ (j : Int) < len2 := by omega
      have ha := awake7_any wr
      clear hTr
      go_wp2_with fail
      (with_reducible refine ha.mono ?_)
      rintro e w15 ⟨rfl, k15⟩
      go_wp2
      go_ret
      exact ⟨rfl, K02.out.trans (hKr.trans k15)⟩
    obtain ⟨b0, o0, hA2, _, hcs⟩ := (HI.out.keep (K02.out.trans hKr)).cells (by omega)
    subst hA2
    have hc0 := hcs j hlt
    have hlt' : (j : Int) < len2 := by omega
    have hm := szW_mod (f2 j)
    have hb := szW_le (f2 j)
    obtain ⟨X, hX⟩ : ∃ X, IntKind.u64.wrap (f2 j) = X := ⟨_, rfl⟩
    rw [hX] at hm
    generalize szW (f2 j) = n at *
    obtain ⟨n', rfl⟩ : ∃ n', n = n' + 1 := ⟨n - 1, by omega⟩
    rw [show n' + 1 - 1 = n' from rfl] at hm
    have hfa := fst_spec T C.all false (C.all - fo C (lc ((n' : Int) + 1))) (fo C (lc ((n' : Int) + 1))) rfl
    have hsz := fun b hb => cls_size C b hb ((n' : Int) + 1) (by omega)
    have hrs := fun W (hW : Tbl W L C U T) => reserve_any hW ((n' : Int) + 1) (by omega) (by omega)
    generalize hXX : fst T (fo C (lc ((n' : Int) + 1))) C.all false = XX at *
    generalize fo C (lc ((n' : Int) + 1)) = a at *
    have HS := Lib.hid hsz
    have HA := Lib.hid hfa
    have HR := Lib.hid hrs
    have HTr := Lib.hid hTr
    have HKr := Lib.hid hKr
    clear hcs hXX hsz hfa hrs hTr hKr
    go_wp2_with fail
    clear hc0 hm hX
    generalize wr = wo at *
    go_loopw [12, 13] (fun x y wr => LeaRel wo C T a XX x y wr) (fun _ y _ => C.all - (intOf y).toNat)
    case atStart => exact ⟨Dr.refl _, .inl ⟨0, rfl, by omega, rfl, fun j hj => by omega⟩⟩
    case round =>
      obtain ⟨hd, hrel⟩ := hrel
      have hTc := HTr.out.dr hd
      have hLc := HL.out.keep (HKr.out.trans (Keep.dr hd))
      have hbl := blocks_l hLc
      have HTc := Lib.hid hTc
      have HLc := Lib.hid hLc
      rcases hrel with ⟨b, rfl, hball, rfl, hno⟩ | ⟨b, i, rfl, rfl, hXi, hball⟩
      · by_cases hbl2 : b < C.all
        · have hb' : (b : Int) < C.all := by omega
          have hcl := class_yes hLc b hbl2
          have hsb := HS.out b hbl2
          have hszc := rsize_any (C.cls b) (C.cls_lt b)
          generalize C.cls b = kk at *
          have HN := Lib.hid hno
          clear hTc hLc hno
          by_cases hab : a ≤ b
          · have hge : (n' : Int) + 1 ≤ ((2 * 2 ^ kk : Nat) : Int) := hsb.2 hab
            generalize 2 * 2 ^ kk = z at *
            have hus := used_any HTc.out b
            rw [gb_nat] at hus
            cases hub : U b
            · rw [hub] at hus
              have hrv := reserved_any HTc.out b
              rw [show rb U T (b : Int) = T b by unfold rb; rw [gb_nat, gb_nat, hub]; simp] at hrv
              have HRV : ∀ W, Dr wr W → Calls Try.prog 26 #[.pointer (some ⟨L.t, 0, none⟩), .int .i64 b] W fun e w' => e = .returned (.bool (T b)) ∧ Dr W w' := fun W d => by
                have := reserved_any (HTc.out.dr d) b
                rwa [show rb U T (b : Int) = T b by unfold rb; rw [gb_nat, gb_nat, hub]; simp] at this
              have HV := Lib.hid HRV
              clear hrv HRV
              cases htb : T b
              · have hXb : XX = b := by
                  rcases HA.out with ⟨_, e2⟩ | ⟨i, e1, e2, e3, e4, e5⟩
                  · exact absurd htb (e2 b hab hbl2)
                  · rcases Nat.lt_trichotomy i b with h | h | h
                    · exact absurd e4 (HN.out i h e2)
                    · rw [e1, h]
                    · exact absurd htb (e5 b hab h)
                go_wp2_with fail
                (with_reducible refine hbl.mono ?_)
                rintro e w' ⟨rfl, rfl⟩
                go_wp2_with fail
                (with_reducible refine hcl.mono ?_)
                rintro e w' ⟨rfl, rfl⟩
                go_wp2_with fail
                (with_reducible refine (hszc _).mono ?_)
                rintro e w' ⟨rfl, rfl⟩
                go_wp2_with fail
                (with_reducible refine hus.mono ?_)
                rintro e w' ⟨rfl, d1⟩
                have hrv := HV.out w' d1
                rw [htb] at hrv
                go_wp2_with fail
                (with_reducible refine hrv.mono ?_)
                rintro e w'' ⟨rfl, d2⟩
                clear hrv hus
                go_wp2_with fail
                go_roundw
                case rel => exact ⟨(hd.trans d1).trans d2, .inr ⟨b + 1, b, by go_num, rfl, hXb, by omega⟩⟩
                case measure => simp [intOf]; omega
              · go_wp2_with fail
                (with_reducible refine hbl.mono ?_)
                rintro e w' ⟨rfl, rfl⟩
                go_wp2_with fail
                (with_reducible refine hcl.mono ?_)
                rintro e w' ⟨rfl, rfl⟩
                go_wp2_with fail
                (with_reducible refine (hszc _).mono ?_)
                rintro e w' ⟨rfl, rfl⟩
                go_wp2_with fail
                (with_reducible refine hus.mono ?_)
                rintro e w' ⟨rfl, d1⟩
                have hrv := HV.out w' d1
                rw [htb] at hrv
                go_wp2_with fail
                (with_reducible refine hrv.mono ?_)
                rintro e w'' ⟨rfl, d2⟩
                clear hrv hus
                go_wp2_with fail
                go_roundw
                case rel => exact ⟨(hd.trans d1).trans d2, .inl ⟨b + 1, by go_num, by omega, rfl, fun j hj haj => by
                  rcases Nat.lt_or_ge j b with h | h
                  · exact HN.out j h haj
                  · obtain rfl : j = b := by omega
                    rw [htb]; simp⟩⟩
                case measure => simp [intOf]; omega
            · rw [hub] at hus
              have htb := HTc.out.sub b hub
              go_wp2_with fail
              (with_reducible refine hbl.mono ?_)
              rintro e w' ⟨rfl, rfl⟩
              go_wp2_with fail
              (with_reducible refine hcl.mono ?_)
              rintro e w' ⟨rfl, rfl⟩
              go_wp2_with fail
              (with_reducible refine (hszc _).mono ?_)
              rintro e w' ⟨rfl, rfl⟩
              go_wp2_with fail
              (with_reducible refine hus.mono ?_)
              rintro e w' ⟨rfl, d1⟩
              clear hus
              go_wp2_with fail
              go_roundw
              case rel => exact ⟨hd.trans d1, .inl ⟨b + 1, by go_num, by omega, rfl, fun j hj haj => by
                rcases Nat.lt_or_ge j b with h | h
                · exact HN.out j h haj
                · obtain rfl : j = b := by omega
                  rw [htb]; simp⟩⟩
              case measure => simp [intOf]; omega
          · have hge : ¬ (n' : Int) + 1 ≤ ((2 * 2 ^ kk : Nat) : Int) := fun h => hab (hsb.1 h)
            generalize 2 * 2 ^ kk = z at *
            clear hsb
            go_wp2_with fail
            (with_reducible refine hbl.mono ?_)
            rintro e w' ⟨rfl, rfl⟩
            go_wp2_with fail
            (with_reducible refine hcl.mono ?_)
            rintro e w' ⟨rfl, rfl⟩
            go_wp2_with fail
            (with_reducible refine (hszc _).mono ?_)
            rintro e w' ⟨rfl, rfl⟩
            go_wp2_with fail
            go_roundw
            case rel => exact ⟨hd, .inl ⟨b + 1, by go_num, by omega, rfl, fun j hj haj => by
              rcases Nat.lt_or_ge j b with h | h
              · exact HN.out j h haj
              · omega⟩⟩
            case measure => simp [intOf]; omega
        · have hb' : ¬ (b : Int) < C.all := by omega
          have hXn : XX = -1 := by
            rcases HA.out with ⟨e1, _⟩ | ⟨i, e1, e2, e3, e4, e5⟩
            · exact e1
            · exact absurd e4 (hno i (by omega) e2)
          have hr := HR.out wr hTc
          rw [hXn] at hr
          clear hTc hLc hno hXn
          go_wp2_with fail
          (with_reducible refine hbl.mono ?_)
          rintro e w' ⟨rfl, rfl⟩
          go_wp2_with fail
          (with_reducible refine hr.mono ?_)
          rintro e w14 (⟨i, hi, _⟩ | ⟨_, rfl, d14⟩)
          case inl => omega
          have HF := Lib.hid (And.intro (HTc.out.dr d14) ((HKr.out.trans (Keep.dr hd)).trans (Keep.dr d14)))
          clear hr
          go_wp2_with fail
          exact ⟨⟨j + 1, T, by omega, by go_num, HF.out.1, HF.out.2⟩, by simp [intOf]; omega⟩
      · have hr := HR.out wr hTc
        rw [hXi] at hr
        have hi0 : ¬ (i : Int) < 0 := by omega
        clear hTc hLc hXi
        by_cases hbl2 : b < C.all
        · have hb' : (b : Int) < C.all := by omega
          go_wp2_with fail
          (with_reducible refine hbl.mono ?_)
          rintro e w' ⟨rfl, rfl⟩
          go_wp2_with fail
          (with_reducible refine hr.mono ?_)
          rintro e w14 (⟨i', hi, hil, hTi, rfl, hT14, k14⟩ | ⟨hno, _⟩)
          case inr => omega
          obtain rfl : i = i' := by omega
          have HF := Lib.hid (And.intro hT14 ((HKr.out.trans (Keep.dr hd)).since k14 HO.out))
          clear hr hi hT14 k14
          go_wp2_with fail
          exact ⟨⟨j + 1, _, by omega, by go_num, HF.out.1, HF.out.2⟩, by simp [intOf]; omega⟩
        · have hb' : ¬ (b : Int) < C.all := by omega
          go_wp2_with fail
          (with_reducible refine hbl.mono ?_)
          rintro e w' ⟨rfl, rfl⟩
          go_wp2_with fail
          (with_reducible refine hr.mono ?_)
          rintro e w14 (⟨i', hi, hil, hTi, rfl, hT14, k14⟩ | ⟨hno, _⟩)
          case inr => omega
          obtain rfl : i = i' := by omega
          have HF := Lib.hid (And.intro hT14 ((HKr.out.trans (Keep.dr hd)).since k14 HO.out))
          clear hr hi hT14 k14
          go_wp2_with fail
          exact ⟨⟨j + 1, _, by omega, by go_num, HF.out.1, HF.out.2⟩, by simp [intOf]; omega⟩
end Go.Proofs.Ytfihaaciaobolaa
