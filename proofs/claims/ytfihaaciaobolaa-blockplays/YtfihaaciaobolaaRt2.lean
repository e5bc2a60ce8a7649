/-
  The document's twin of block: Reserve, Free; scullionlaw7.same. No conditions but what is in memory.
-/
import Derived.Test.YtfihaaciaobolaaRt1
import Derived.Deep.QuietTactic
namespace Go.Proofs.Ytfihaaciaobolaa
open Go.RowKit Go.Flo Go.Bit Go.Bmp
set_option maxRecDepth 100000

theorem dr_cell7 {w w' : World} {a : Addr} {v : Value} (d : Dr w w') (h : w.cell? a = some v) : w'.cell? a = some v := by
  obtain ⟨n, rfl⟩ := d
  exact h

theorem kp_take {U T : Nat → Bool} {i : Nat} (h : U i = false) : kp U (upd T i true) = upd (kp U T) i true := by
  funext j
  unfold kp upd
  by_cases e : j = i
  · subst e; simp [h]
  · simp [e]

theorem kp_back {U T : Nat → Bool} {i : Nat} : kp U (upd T i false) = upd (kp U T) i false := by
  funext j
  unfold kp upd
  by_cases e : j = i
  · subst e; simp
  · simp [e]

/-- What the twin's Reserve leaves. -/
def RResPost (R : RLoc) (C : Cf) (U T : Nat → Bool) (X : Int) (w : World) (e : Ending) (w' : World) : Prop :=
  (∃ i : Nat, X = i ∧ e = .returned (.tuple #[.int .i64 i, .int .i64 0]) ∧ RTb w' R C U (kp U (upd T i true)) ∧ Keep R.own w w') ∨ (X = -1 ∧ e = .returned (.tuple #[.int .i64 0, .int .i64 5]) ∧ w = w')

set_option maxHeartbeats 2000000 in
theorem rreserve_any {w : World} {R : RLoc} {C : Cf} {U T : Nat → Bool} (h : RTb w R C U (kp U T)) (hs : ∀ i, U i = true → T i = true) (hall : C.all ≤ 1000) (x : Int) (h1 : 1 ≤ x) (h16 : x ≤ 16) :
    Calls Try.prog 17 #[.pointer (some ⟨R.t, 0, none⟩), .int .i64 x] w (RResPost R C U T (fst T (fo C (lc x)) C.all false) w) := by
  have c0 := h.c0
  have c1 := h.c1
  have c2 := h.c2
  have hfa := fst_spec T C.all false (C.all - fo C (lc x)) (fo C (lc x)) rfl
  have hsz := fun b hb => cls_size C b hb x h16
  generalize hXX : fst T (fo C (lc x)) C.all false = XX at *
  generalize fo C (lc x) = a at *
  have HFA := Lib.hid hfa
  have HSZ := Lib.hid hsz
  have HT := Lib.hid h
  have HS := Lib.hid hs
  clear h hs hfa hsz hXX
  go_enter Try.func17, Try.ntmps17
  go_wp2_with fail
  go_loopw [18] (fun x wr => (∃ b : Nat, b ≤ C.all ∧ x = .int .i64 b ∧ ∀ j, j < b → a ≤ j → T j ≠ false) ∧ w = wr) (fun x _ => C.all - (intOf x).toNat)
  case atStart => exact ⟨⟨0, by omega, rfl, fun j hj => by omega⟩, rfl⟩
  case round =>
    obtain ⟨⟨b, hb, rfl, hno⟩, rfl⟩ := hrel
    have HN := Lib.hid hno
    clear hno
    by_cases hlt : b < C.all
    · have hlt' : (b : Int) < C.all := by omega
      obtain ⟨A, cap, hly⟩ := HT.out.lay
      have hcl := rclass_yes hly b hlt
      have hrs := rsize_any (C.cls b) (C.cls_lt b) w
      have hsb := HSZ.out b hlt
      have cu := HT.out.ur.cell hlt
      have ck := HT.out.kr.cell hlt
      have fk := HT.out.kr.frozen b
      unfold bv at cu ck
      generalize C.cls b = kk at *
      clear hly
      by_cases hab : a ≤ b
      · have hge : x ≤ ((2 * 2 ^ kk : Nat) : Int) := hsb.2 hab
        generalize 2 * 2 ^ kk = z at *
        cases htb : T b
        · have hub : U b = false := by
            cases hu : U b
            · rfl
            · rw [HS.out b hu] at htb; cases htb
          have hkb : kp U T b = false := by unfold kp; rw [htb]; rfl
          have hXb : XX = b := by
            rcases HFA.out with ⟨_, e2⟩ | ⟨i, e1, e2, e3, e4, e5⟩
            · exact absurd htb (e2 b hab hlt)
            · rcases Nat.lt_trichotomy i b with h | h | h
              · exact absurd e4 (HN.out i h e2)
              · rw [e1, h]
              · exact absurd htb (e5 b hab h)
          rw [hub] at cu
          rw [hkb] at ck
          obtain ⟨hT2, hk2⟩ := HT.out.setK b true
          rw [← kp_take hub] at hT2
          have HF := Lib.hid (And.intro hT2 (And.intro hk2 hXb))
          clear hT2 hk2 hXb hub hkb htb hsb
          go_wp2_with fail
          (with_reducible refine hcl.mono ?_)
          rintro e w' ⟨rfl, rfl⟩
          go_wp2_with fail
          (with_reducible refine hrs.mono ?_)
          rintro e w' ⟨rfl, rfl⟩
          clear hcl hrs
          go_wp2_with fail
          go_ret2
          exact .inl ⟨b, HF.out.2.2, rfl, HF.out.1, HF.out.2.1⟩
        · have HNX := Lib.hid (fun j (hj : j < b + 1) (haj : a ≤ j) => (by
            rcases Nat.lt_or_ge j b with h | h
            · exact HN.out j h haj
            · obtain rfl : j = b := by omega
              rw [htb]; simp : T j ≠ false))
          cases hub : U b
          · have hkb : kp U T b = true := by unfold kp; rw [htb, hub]; rfl
            rw [hub] at cu
            rw [hkb] at ck
            clear hub hkb htb hsb
            go_wp2_with fail
            (with_reducible refine hcl.mono ?_)
            rintro e w' ⟨rfl, rfl⟩
            go_wp2_with fail
            (with_reducible refine hrs.mono ?_)
            rintro e w' ⟨rfl, rfl⟩
            clear hcl hrs
            go_wp2_with fail
            go_roundw
            case rel => exact ⟨⟨b + 1, by omega, by go_num, HNX.out⟩, by first | rfl | trivial⟩
            case measure => simp [intOf]; omega
          · rw [hub] at cu
            clear hub htb hsb
            go_wp2_with fail
            (with_reducible refine hcl.mono ?_)
            rintro e w' ⟨rfl, rfl⟩
            go_wp2_with fail
            (with_reducible refine hrs.mono ?_)
            rintro e w' ⟨rfl, rfl⟩
            clear hcl hrs
            go_wp2_with fail
            go_roundw
            case rel => exact ⟨⟨b + 1, by omega, by go_num, HNX.out⟩, by first | rfl | trivial⟩
            case measure => simp [intOf]; omega
      · have hge : ¬ x ≤ ((2 * 2 ^ kk : Nat) : Int) := fun h => hab (hsb.1 h)
        have HNX := Lib.hid (fun j (hj : j < b + 1) (haj : a ≤ j) => (by
            rcases Nat.lt_or_ge j b with h | h
            · exact HN.out j h haj
            · omega : T j ≠ false))
        generalize 2 * 2 ^ kk = z at *
        clear hsb
        go_wp2_with fail
        (with_reducible refine hcl.mono ?_)
        rintro e w' ⟨rfl, rfl⟩
        go_wp2_with fail
        (with_reducible refine hrs.mono ?_)
        rintro e w' ⟨rfl, rfl⟩
        clear hcl hrs
        go_wp2_with fail
        go_roundw
        case rel => exact ⟨⟨b + 1, by omega, by go_num, HNX.out⟩, by first | rfl | trivial⟩
        case measure => simp [intOf]; omega
    · obtain rfl : b = C.all := by omega
      have hge : ¬ ((C.all : Nat) : Int) < (C.all : Nat) := by omega
      have hX : XX = -1 := by
        rcases HFA.out with ⟨e1, _⟩ | ⟨i, e1, e2, e3, e4, e5⟩
        · exact e1
        · exact absurd e4 (HN.out i e3 e2)
      have HX := Lib.hid hX
      clear hX
      go_wp2_with fail
      go_ret2
      exact .inr ⟨HX.out, rfl, rfl⟩

theorem rreserve_arg (w : World) (a : Option Addr) (x : Int) (hx : x < 1 ∨ 16 < x) :
    Calls Try.prog 17 #[.pointer a, .int .i64 x] w fun e w' => e = .returned (.tuple #[.int .i64 0, .int .i64 1]) ∧ w = w' := by
  by_cases h1 : x < 1
  · go_enter Try.func17, Try.ntmps17
    go_wp2
    go_ret2
    exact ⟨rfl, rfl⟩
  · have h16 : 16 < x := by omega
    go_enter Try.func17, Try.ntmps17
    go_wp2
    go_ret2
    exact ⟨rfl, rfl⟩

/-- Free ones of a class, counted. -/
def cq (C : Cf) (T : Nat → Bool) (k i : Nat) : Bool := decide (C.cls i = k) && !T i

theorem cls_at (C : Cf) (k i : Nat) (hk : k ≤ 3) : (fo C k ≤ i ∧ i < fo C (k + 1)) → C.cls i = k := by
  have hm := C.mono
  unfold Cf.cls
  match k, hk with
  | 0, _ =>
    rintro ⟨_, h2⟩
    rw [if_pos (show i < C.f1 from h2)]
  | 1, _ =>
    rintro ⟨h1, h2⟩
    have e1 : C.f1 ≤ i := h1
    have e2 : i < C.f2 := h2
    rw [if_neg (by omega), if_pos e2]
  | 2, _ =>
    rintro ⟨h1, h2⟩
    have e1 : C.f2 ≤ i := h1
    have e2 : i < C.f3 := h2
    rw [if_neg (by omega), if_neg (by omega), if_pos e2]
  | 3, _ =>
    rintro ⟨h1, _⟩
    have e1 : C.f3 ≤ i := h1
    rw [if_neg (by omega), if_neg (by omega), if_neg (by omega)]

theorem cnt_cq (C : Cf) (T : Nat → Bool) (k : Nat) (hk : k ≤ 3) : cnt (cq C T k) C.all = fr C T k := by
  have hn := fo_next C k
  have hl := fo_le C (k + 1)
  have hoff : ∀ i, i < C.all → ¬ (fo C k ≤ i ∧ i < fo C (k + 1)) → cq C T k i = false := fun i hi h => by
    unfold cq
    have hne : C.cls i ≠ k := fun e => h (by
      have := cls_fo C i hi
      rwa [e] at this)
    simp [hne]
  have e1 : cnt (cq C T k) (fo C k) = 0 := by
    have := cnt_flat (B := cq C T k) (p := 0) (fo C k) (fun j _ h2 => hoff j (by omega) (by omega))
    rw [Nat.zero_add] at this
    rw [this]
    rfl
  have e2 : cnt (cq C T k) C.all = cnt (cq C T k) (fo C (k + 1)) := by
    have := cnt_flat (B := cq C T k) (p := fo C (k + 1)) (C.all - fo C (k + 1)) (fun j h1 h2 => hoff j (by omega) (by omega))
    rwa [show fo C (k + 1) + (C.all - fo C (k + 1)) = C.all by omega] at this
  have e3 : ∀ d, fo C k + d ≤ fo C (k + 1) → cnt (cq C T k) (fo C k + d) = cnt (cq C T k) (fo C k) + (cnt (nt T) (fo C k + d) - cnt (nt T) (fo C k)) := by
    intro d
    induction d with
    | zero => intro _; simp
    | succ d ih =>
      intro hd
      have h1 := ih (by omega)
      have h2 : cq C T k (fo C k + d) = nt T (fo C k + d) := by
        unfold cq nt
        rw [cls_at C k _ hk ⟨by omega, by omega⟩]
        simp
      have h3 := cnt_mono (nt T) (fo C k) d
      show cnt (cq C T k) (fo C k + d) + (cq C T k (fo C k + d)).toNat = _ + ((cnt (nt T) (fo C k + d) + (nt T (fo C k + d)).toNat) - _)
      rw [h1, h2]
      omega
  have e4 := e3 (fo C (k + 1) - fo C k) (by omega)
  rw [show fo C k + (fo C (k + 1) - fo C k) = fo C (k + 1) by omega, e1, Nat.zero_add] at e4
  rw [e2, e4]
  rfl

set_option maxHeartbeats 2000000 in
theorem rfree_any {w : World} {R : RLoc} {C : Cf} {U T : Nat → Bool} (h : RTb w R C U (kp U T)) (hs : ∀ i, U i = true → T i = true) (hall : C.all ≤ 1000) (k : Nat) (hk : k ≤ 3) :
    Calls Try.prog 24 #[.pointer (some ⟨R.t, 0, none⟩), .int .i64 k] w fun e w' => e = .returned (.int .i64 (fr C T k : Nat)) ∧ w = w' := by
  have c0 := h.c0
  have c1 := h.c1
  have c2 := h.c2
  rw [← cnt_cq C T k hk]
  have HT := Lib.hid h
  have HS := Lib.hid hs
  clear h hs
  go_enter Try.func24, Try.ntmps24
  go_wp2_with fail
  go_loopw [12, 5] (fun x y wr => (∃ b : Nat, b ≤ C.all ∧ x = .int .i64 b ∧ y = .int .i64 (cnt (cq C T k) b : Nat)) ∧ w = wr) (fun x _ _ => C.all - (intOf x).toNat)
  case atStart => exact ⟨⟨0, by omega, rfl, rfl⟩, rfl⟩
  case round =>
    obtain ⟨⟨b, hb, rfl, rfl⟩, rfl⟩ := hrel
    have hcb := cnt_le (cq C T k) b
    by_cases hlt : b < C.all
    · have hlt' : (b : Int) < C.all := by omega
      obtain ⟨A, cap, hly⟩ := HT.out.lay
      have hcl := rclass_yes hly b hlt
      have cu := HT.out.ur.cell hlt
      have ck := HT.out.kr.cell hlt
      unfold bv at cu ck
      have hnx : cnt (cq C T k) (b + 1) = cnt (cq C T k) b + (cq C T k b).toNat := rfl
      clear hly
      by_cases hck : C.cls b = k
      · rw [hck] at hcl
        have hkk : ((k : Int) == (k : Int)) = true := by simp
        cases htb : T b
        · have hub : U b = false := by
            cases hu : U b
            · rfl
            · rw [HS.out b hu] at htb; cases htb
          have hkb : kp U T b = false := by unfold kp; rw [htb]; rfl
          have hq : cnt (cq C T k) (b + 1) = cnt (cq C T k) b + 1 := by rw [hnx]; unfold cq; rw [hck, htb]; simp
          rw [hub] at cu
          rw [hkb] at ck
          have HQ := Lib.hid hq
          clear hq hnx hub hkb htb hck
          go_wp2_with fail
          (with_reducible refine hcl.mono ?_)
          rintro e w' ⟨rfl, rfl⟩
          clear hcl
          go_wp2_with fail
          go_roundw
          case rel => exact ⟨⟨b + 1, by omega, by go_num, by rw [HQ.out]; go_num⟩, by first | rfl | trivial⟩
          case measure => simp [intOf]; omega
        · have hq : cnt (cq C T k) (b + 1) = cnt (cq C T k) b := by rw [hnx]; unfold cq; rw [hck, htb]; simp
          have HQ := Lib.hid hq
          clear hq hnx hck
          cases hub : U b
          · have hkb : kp U T b = true := by unfold kp; rw [htb, hub]; rfl
            rw [hub] at cu
            rw [hkb] at ck
            clear hub hkb htb
            go_wp2_with fail
            (with_reducible refine hcl.mono ?_)
            rintro e w' ⟨rfl, rfl⟩
            clear hcl
            go_wp2_with fail
            go_roundw
            case rel => exact ⟨⟨b + 1, by omega, by go_num, by rw [HQ.out]⟩, by first | rfl | trivial⟩
            case measure => simp [intOf]; omega
          · rw [hub] at cu
            clear hub htb
            go_wp2_with fail
            (with_reducible refine hcl.mono ?_)
            rintro e w' ⟨rfl, rfl⟩
            clear hcl
            go_wp2_with fail
            go_roundw
            case rel => exact ⟨⟨b + 1, by omega, by go_num, by rw [HQ.out]⟩, by first | rfl | trivial⟩
            case measure => simp [intOf]; omega
      · have hq : cnt (cq C T k) (b + 1) = cnt (cq C T k) b := by rw [hnx]; unfold cq; simp [hck]
        have HQ := Lib.hid hq
        have hkk : (((C.cls b : Nat) : Int) == (k : Int)) = false := by simp; omega
        generalize C.cls b = kk at *
        clear hq hnx hck
        go_wp2_with fail
        (with_reducible refine hcl.mono ?_)
        rintro e w' ⟨rfl, rfl⟩
        clear hcl
        go_wp2_with fail
        go_roundw
        case rel => exact ⟨⟨b + 1, by omega, by go_num, by rw [HQ.out]⟩, by first | rfl | trivial⟩
        case measure => simp [intOf]; omega
    · obtain rfl : b = C.all := by omega
      have hge : ¬ ((C.all : Nat) : Int) < (C.all : Nat) := by omega
      go_wp2_with fail
      go_ret
      exact ⟨rfl, rfl⟩

set_option maxHeartbeats 1000000 in
theorem same_ents {w : World} {A A' : Option Addr} {n cap cap' : Nat} {E : Nat → Ent} (ha : Ents w [] A n cap E) (hb : Ents w [] A' n cap' E) :
    Calls Try.prog 21 #[.slice A n cap, .slice A' n cap'] w fun e w' => e = .returned (.bool true) ∧ Dr w w' := by
  have HA := Lib.hid ha
  have HB := Lib.hid hb
  have h1 := ha.nc
  have h2 := ha.cap
  have h3 := hb.nc
  have h4 := hb.cap
  clear ha hb
  go_enter Try.func21, Try.ntmps21
  go_wp2_with fail
  go_loopw [13] (fun x wr => (∃ j : Nat, j ≤ n ∧ x = .int .i64 j) ∧ Dr w wr) (fun x _ => n - (intOf x).toNat)
  case atStart => exact ⟨⟨0, by omega, rfl⟩, Dr.refl _⟩
  case round =>
    obtain ⟨⟨j, hj, rfl⟩, hd⟩ := hrel
    by_cases hlt : j < n
    · have hlt' : (j : Int) < n := by omega
      obtain ⟨b, o, rfl, _, _, hcs⟩ := HA.out.cells (by omega)
      obtain ⟨b', o', rfl, _, _, hcs'⟩ := HB.out.cells (by omega)
      obtain ⟨cx, cy⟩ := hcs j hlt
      obtain ⟨dx, dy⟩ := hcs' j hlt
      generalize (E j).a = ea at *
      generalize (E j).v = ev at *
      have cx := dr_cell7 hd cx
      have cy := dr_cell7 hd cy
      have dx := dr_cell7 hd dx
      have dy := dr_cell7 hd dy
      clear hcs hcs'
      go_wp2_with fail
      go_quiet (fail)
      go_wp2_with fail
      go_roundw
      case rel => exact ⟨⟨j + 1, by omega, by go_num⟩, hd.trans (Dr.drewN _ _)⟩
      case measure => simp [intOf]; omega
    · obtain rfl : j = n := by omega
      have hge : ¬ (j : Int) < j := by omega
      go_wp2_with fail
      go_ret
      exact ⟨rfl, hd⟩
end Go.Proofs.Ytfihaaciaobolaa
