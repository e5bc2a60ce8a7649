/-
  HandlePlays walked. No conditions but what came in.
-/
import Derived.Test.YtejepiobdkbgpaaRn2
import Derived.Test.YtejepiobdkbgpaaHmp
import Derived.Test.YtejepiobdkbgpaaWH1
import Derived.Test.YtejepiobdkbgpaaArg13
import Derived.LoopN
import Derived.Deep.DeepCutAuto
import Derived.Deep.RegionHeld3
namespace Go.Proofs.Ytejepiobdkbgpaa
open Go.RowKit Go.Flo
set_option maxRecDepth 100000

theorem rtab_info : (Try.prog.info? 29).map (fun i => (i.zero, i.size)) = some (some (.agg rtabZ), 192) := by kernel_rfl
theorem rtabZ_ne : ¬ rtabZ = #[] := fun h => by have := rtabZ_size; rw [h] at this; cases this

structure OrdP (w : World) (g r B : Nat) : Prop where
  wg : w.heap.size ≤ g
  gr : g < r
  rB : r < B

/-- The memory of HandlePlays: both tables, the handles that were told. -/
structure MemP (w : World) (g r B : Nat) (S : Nat → Slt) (T : List Int) (v : Value) (wr : World) : Prop where
  tab : Tab wr g S
  rtab : RTab wr r S
  row : wr.ownsRow B 3 1 v T.length (T.map i64v)
  kp : Keep [] w wr
  le : B ≤ wr.heap.size

section
variable {w wr w' : World} {g r B : Nat} {S S' : Nat → Slt} {T T' : List Int} {v v' : Value}
theorem MemP.keep0 (M : MemP w g r B S T v wr) (hk : Keep [] wr w') : MemP w g r B S T v w' :=
  ⟨M.tab.keep hk (by simp), M.rtab.keep hk (by simp), ownsRow_keep M.row hk (by simp), M.kp.trans hk, Nat.le_trans M.le hk.size⟩
theorem MemP.both (M : MemP w g r B S T v wr) (O : OrdP w g r B) {w1 w1' w2 : World} (k0 : Keep [] wr w1) (k1 : Keep [g] w1 w1') (t1 : Tab w1' g S') {w1'' : World} (k1' : Keep [] w1' w1'') (k2 : Keep [r] w1'' w2) (t2 : RTab w2 r S') : MemP w g r B S' T v w2 := by
  have := O.wg; have := O.gr; have := O.rB
  exact ⟨(t1.keep k1' (by simp)).keep k2 (by simp; omega), t2, ownsRow_keep (ownsRow_keep (ownsRow_keep (ownsRow_keep M.row k0 (by simp)) k1 (by simp; omega)) k1' (by simp)) k2 (by simp; omega),
    keep_since ((keep_since (M.kp.trans k0) k1 (by simp; omega)).trans k1') k2 (by simp; omega), Nat.le_trans M.le (Nat.le_trans k0.size (Nat.le_trans k1.size (Nat.le_trans k1'.size k2.size)))⟩
theorem MemP.withRow (M : MemP w g r B S T v wr) (O : OrdP w g r B) (hr : w'.ownsRow B 3 1 v' T'.length (T'.map i64v)) (hg : wr.grownBy w' v.ownBlock) : MemP w g r B S T' v' w' := by
  obtain ⟨own, hk, ho⟩ := grown_own M.row hg
  have := O.wg; have := O.gr; have := O.rB
  exact ⟨M.tab.keep hk (fun hm => by have := ho _ hm; omega), M.rtab.keep hk (fun hm => by have := ho _ hm; omega), hr, keep_since M.kp hk (fun k hm => by have := ho _ hm; omega), Nat.le_trans M.le hk.size⟩
end

def PlRel13 (w : World) (g r B len : Nat) (y x : Value) (wr : World) : Prop :=
  ∃ (i : Nat) (S : Nat → Slt) (T : List Int), i ≤ len ∧ i ≤ 200 ∧ x = .int .i64 i ∧ (∀ k, (S k).a ≤ i) ∧ (∀ z ∈ T, -9223372036854775808 ≤ z ∧ z ≤ 9223372036854775807) ∧ MemP w g r B S T y wr ∧ T.length ≤ i

theorem plays_start {w w1 : World} {g : Nat} (t1 : Tab w1 g noS) (hg : w.heap.size ≤ g) (k1 : Keep [] w w1) :
    OrdP w g w1.heap.size (w1.heap.size + 1) ∧ MemP w g w1.heap.size (w1.heap.size + 1) noS [] (.slice none 0 0) (w1.alloc (.cells rtabZ 29)) := by
  have ka : Keep [] w1 (w1.alloc (.cells rtabZ 29)) := Keep.alloc _ _
  exact ⟨⟨hg, t1.lt, by omega⟩, ⟨t1.keep ka (by simp), rtab_zero w1, ⟨rfl, Or.inl ⟨rfl, rfl⟩⟩, k1.trans ka, by simp⟩⟩

set_option maxHeartbeats 4000000 in
theorem walk_hplays (w : World) (A : Option Addr) (len cap : Nat) (hI : IsCalls w A len cap) : Calls Try.prog 3 #[.slice A len cap] w fun e w' => e = .returned (.bool true) ∧ Keep [] w w' := by
  have hn1 := hI.1
  have hn2 := hI.2.1
  have HI := Lib.hid hI
  clear hI
  have hn := new_any w
  have hz := (zero_of_info rtab_info).1
  have hne := rtabZ_ne
  go_enter Try.func3, Try.ntmps3
  go_wp2_with fail
  (with_reducible refine hn.mono ?_)
  rintro e w1 ⟨g, rfl, t1, hg, k1⟩
  have H0 := Lib.hid (plays_start t1 hg k1)
  clear hn t1 k1 hg
  go_wp2_with fail
  generalize w1.alloc (.cells rtabZ 29) = W0 at *
  generalize w1.heap.size + 1 = B at *
  generalize w1.heap.size = r at *
  have O := Lib.hid H0.out.1
  clear hz hne
  go_loopw [5, 6] (fun y x wr => PlRel13 w g r B len y x wr) (fun _ x _ => 200 - (intOf x).toNat)
  case atStart => exact ⟨0, _, _, by omega, by omega, rfl, fun _ => Nat.le_refl _, fun z hz => (by cases hz), H0.out.2, by simp⟩
  case round =>
    clear H0
    obtain ⟨i, S, T, hi, hi200, rfl, hag, hTb, M, hTi⟩ := hrel
    by_cases hlt : i < len
    case neg =>
      · have hlt' : ¬ (i : Int) < len := by omega
        have ha := rall_any M.rtab
        have HM := Lib.hid M
        generalize wr = wo at *
        clear M
        go_wp2_with fail
        (with_reducible refine ha.mono ?_)
        rintro e w2 ⟨Aa, ca, rfl, hLa, k2⟩
        have M2 := HM.out.keep0 k2
        have hl := hlen_any M2.tab
        have HLa := Lib.hid hLa
        have HM2 := Lib.hid M2
        obtain ⟨al, hal⟩ : ∃ al, (allL S 64).length = al := ⟨_, rfl⟩
        rw [hal] at hl
        rw [hal]
        have HAL := Lib.hid hal
        clear ha hLa k2 M2 HM hal
        go_wp2_with fail
        (with_reducible refine hl.mono ?_)
        rintro e w3 ⟨rfl, k3⟩
        have M3 := HM2.out.keep0 k3
        have ha2 := all_any M3.tab
        have HLb := Lib.hid (HLa.out.keep k3)
        have HM3 := Lib.hid M3
        clear hl k3 M3 HM2 HLa
        go_wp2_with fail
        (with_reducible refine ha2.mono ?_)
        rintro e w4 ⟨Ab, cb, rfl, hLb, k4⟩
        have hsi := sameInts_any w4 Ab Aa _ cb _ ca _ _ hLb (HLb.out.keep k4)
        have HM4 := Lib.hid (HM3.out.keep0 k4)
        rw [decide_eq_true (show SameI (allL S 64).length (fun j => (allL S 64).getD j 0) (allL S 64).length (fun j => (allL S 64).getD j 0) from ⟨rfl, fun _ _ => rfl⟩)] at hsi
        rw [HAL.out] at hsi ⊢
        clear ha2 hLb k4 HLb HM3
        go_wp2_with fail
        (with_reducible refine hsi.mono ?_)
        rintro e w5 ⟨rfl, d5⟩
        have ha3 := awake13_any w5
        have HK5 := Lib.hid (HM4.out.kp.trans (Keep.dr d5))
        clear hsi d5 HM4
        go_wp2_with fail
        (with_reducible refine ha3.mono ?_)
        rintro e w6 ⟨rfl, k6⟩
        go_wp2_with fail
        go_ret
        exact ⟨rfl, HK5.out.trans k6⟩
    have hlt' : (i : Int) < len := by omega
    by_cases h200 : i < 200
    case neg =>
      · have h200' : ¬ (i : Int) < 200 := by omega
        have ha := rall_any M.rtab
        have HM := Lib.hid M
        generalize wr = wo at *
        clear M
        go_wp2_with fail
        (with_reducible refine ha.mono ?_)
        rintro e w2 ⟨Aa, ca, rfl, hLa, k2⟩
        have M2 := HM.out.keep0 k2
        have hl := hlen_any M2.tab
        have HLa := Lib.hid hLa
        have HM2 := Lib.hid M2
        obtain ⟨al, hal⟩ : ∃ al, (allL S 64).length = al := ⟨_, rfl⟩
        rw [hal] at hl
        rw [hal]
        have HAL := Lib.hid hal
        clear ha hLa k2 M2 HM hal
        go_wp2_with fail
        (with_reducible refine hl.mono ?_)
        rintro e w3 ⟨rfl, k3⟩
        have M3 := HM2.out.keep0 k3
        have ha2 := all_any M3.tab
        have HLb := Lib.hid (HLa.out.keep k3)
        have HM3 := Lib.hid M3
        clear hl k3 M3 HM2 HLa
        go_wp2_with fail
        (with_reducible refine ha2.mono ?_)
        rintro e w4 ⟨Ab, cb, rfl, hLb, k4⟩
        have hsi := sameInts_any w4 Ab Aa _ cb _ ca _ _ hLb (HLb.out.keep k4)
        have HM4 := Lib.hid (HM3.out.keep0 k4)
        rw [decide_eq_true (show SameI (allL S 64).length (fun j => (allL S 64).getD j 0) (allL S 64).length (fun j => (allL S 64).getD j 0) from ⟨rfl, fun _ _ => rfl⟩)] at hsi
        rw [HAL.out] at hsi ⊢
        clear ha2 hLb k4 HLb HM3
        go_wp2_with fail
        (with_reducible refine hsi.mono ?_)
        rintro e w5 ⟨rfl, d5⟩
        have ha3 := awake13_any w5
        have HK5 := Lib.hid (HM4.out.kp.trans (Keep.dr d5))
        clear hsi d5 HM4
        go_wp2_with fail
        (with_reducible refine ha3.mono ?_)
        rintro e w6 ⟨rfl, k6⟩
        go_wp2_with fail
        go_ret
        exact ⟨rfl, HK5.out.trans k6⟩
    have h200' : (i : Int) < 200 := by omega
    obtain ⟨b, o, hA, _, hcs⟩ := HI.out.2.2 (by omega)
    cases hA
    obtain ⟨d, h, xo, m, hca⟩ := hcs i hlt
    have hh0 := hca.h0
    have hh1 := hca.h1
    have hca := hca.keep M.kp
    have c0 := hca.c0
    have c1 := hca.c1
    have c2 := hca.c2
    have c3 := hca.c3
    have MV := M.keep0 (Keep.alloc wr (.cells #[.int .i64 d, .int .i64 h, .int .i64 xo, .bool m] 32))
    have hbv := Blk.new wr 32 #[.int .i64 d, .int .i64 h, .int .i64 xo, .bool m]
    have hBle := M.le
    clear M hca hcs
    obtain ⟨v0, hv0⟩ : ∃ v0, wr.heap.size = v0 := ⟨_, rfl⟩
    generalize hwx : wr.alloc (.cells #[.int .i64 d, .int .i64 h, .int .i64 xo, .bool m] 32) = wx at *
    rw [hv0] at hbv hBle
    have HWX := Lib.hid (And.intro hwx hv0)
    have x0 : wx.cell? ⟨v0, 0, none⟩ = some (.int .i64 d) := hbv.cell 0
    have x1 : wx.cell? ⟨v0, 1, none⟩ = some (.int .i64 h) := hbv.cell 1
    have x2 : wx.cell? ⟨v0, 2, none⟩ = some (.int .i64 xo) := hbv.cell 2
    have x3 : wx.cell? ⟨v0, 3, none⟩ = some (.bool m) := hbv.cell 3
    have HBV := Lib.hid hbv
    clear hwx hv0 hbv
    go_upto_region 10 with fail
    rw [HWX.out.1, HWX.out.2]
    have MV := Lib.hid MV
    have HTB := Lib.hid hTb
    have HAG := Lib.hid hag
    clear c0 c1 c2 c3 hTb hag
    go_cut [45] (fun s wz => s = .bool (m && decide (0 < T.length)) ∧ wz = wx)
    case first =>
      cases m
      · go_wp2_with fail
        go_meet
        exact ⟨rfl, rfl⟩
      · obtain ⟨At, ct, rfl, hL⟩ := owns_intl MV.out.row
        clear hL
        by_cases ht0 : 0 < T.length
        · have hti : (0 : Int) < (T.length : Int) := by omega
          go_wp2_with fail
          go_meet
          exact ⟨by simp [ht0], rfl⟩
        · have hti : ¬ (0 : Int) < (T.length : Int) := by omega
          go_wp2_with fail
          go_meet
          exact ⟨by simp [ht0], rfl⟩
    case rest =>
    obtain ⟨rfl, rfl⟩ := hcut
    go_upto_if 45 with fail
    go_cut [8] (fun s wz => (∃ hh : Int, s = .int .i64 hh ∧ -9223372036854775808 ≤ hh ∧ hh ≤ 9223372036854775807) ∧ wz = wc)
    case first =>
      cases hb : (m && decide (0 < T.length)) with
      | false =>
        go_wp2_with fail
        go_meet
        exact ⟨⟨h, rfl, hh0, hh1⟩, rfl⟩
      | true =>
        have ht0 : 0 < T.length := by
          rw [Bool.and_eq_true] at hb
          simpa using hb.2
        obtain ⟨At, ct, rfl, hL⟩ := owns_intl MV.out.row
        obtain ⟨u, P, e1, e2, e3, e4, e5, e6⟩ := mod_num h (T.length : Int) (by omega) (by omega)
        have e7 : IntKind.u64.wrap (T.length : Int) = T.length := by rw [IntKind.wrap_u64]; omega
        obtain ⟨bt, ot, hAt, hbt, hct⟩ := hL.cells (by omega)
        cases hAt
        have ctp := hct P (by omega)
        have hmem : T.getD P 0 ∈ T := by
          rw [List.getD_eq_getElem?_getD, List.getElem?_eq_getElem (by omega)]
          exact List.getElem_mem _
        have hHH := HTB.out _ hmem
        have htz : ¬ (T.length : Int) = 0 := by omega
        clear hL hct hmem hbt
        go_wp2_with fail
        go_meet
        exact ⟨⟨_, rfl, hHH.1, hHH.2⟩, rfl⟩
    case rest =>
    obtain ⟨⟨hh, rfl, hb0, hb1⟩, rfl⟩ := hcut
    generalize wc = wx at *
    have hv0 := HBV.out.lt
    have hgr := O.out.gr
    have hrB := O.out.rB
    have hwg := O.out.wg
    have hB0 : B ≤ v0 := hBle
    by_cases hd0 : d = 0
    · subst hd0
      obtain ⟨n, hn⟩ := lf_of S
      have hagn := HAG.out n
      by_cases hn64 : n < 64
      · obtain ⟨H, hH⟩ : ∃ H : Int, H = (S n).a * 64 + n := ⟨_, rfl⟩
        have hp := put_at MV.out.tab hn hn64 (by omega) xo H hH
        have hHr : 0 ≤ H ∧ H ≤ 20000 := by omega
        have HN := Lib.hid (And.intro hn hH)
        have hne : (H != H) = false := by simp
        clear hn hH
        go_wp2_with fail
        (with_reducible refine hp.mono ?_)
        rintro e w2 ⟨rfl, t2, k2⟩
        have hrt := MV.out.rtab.keep k2 (by simp; omega)
        have hrp := rput_at hrt HN.out.1 hn64 (by omega) xo H HN.out.2
        have z2 : w2.cell? ⟨v0, 2, none⟩ = some (.int .i64 xo) := (HBV.out.keep k2 (by simp; omega)).cell 2
        have HT2 := Lib.hid (And.intro t2 k2)
        clear hp hrt t2 k2 x0 x1 x2 x3
        go_wp2_with fail
        (with_reducible refine hrp.mono ?_)
        rintro e w3 ⟨rfl, t3, k3⟩
        have M3 := MV.out.both O.out (Keep.refl _ _) HT2.out.2 HT2.out.1 (Keep.refl _ _) k3 t3
        have hle3 := M3.le
        have M3 := M3.keep0 (Keep.alloc w3 (.cells #[.int .i64 H] 3))
        have hN1 := one_new6 w3 (.int .i64 H) 3
        have HM3 := Lib.hid (And.intro M3 hN1)
        obtain ⟨ii, hii, hz0, hz1, hz2⟩ := info_of intparts
        clear M3 hN1 hrp t3 k3 z2 HT2 MV HBV HN
        go_wp2_with (at_builtin; refine wpList_append_own_at _ rfl (.tmp 95) (.tmp 97) 30 rfl B 3 ii (.int .i64 0) 1 8 Try.underlying30 hii hz0 hz1 hz2 rfl (by omega) _ T.length (T.map i64v) rfl HM3.out.1.row ⟨w3.heap.size, 0, none⟩ 1 1 [.int .i64 H] rfl rfl HM3.out.2 ?c3 ?c4 ?c5 ?c6 ?_)
        case c3 => first | rfl | (intro z hz; simp at hz; subst hz; rfl)
        case c4 => unfold maxLen; omega
        case c5 => omega
        case c6 => first | omega | (simp; omega)
        intro v' w4 hown hgrow _ _
        have M4 := HM3.out.1.withRow (v' := v') (T' := T ++ [H]) O.out (by rw [List.map_append, List.length_append]; exact hown) hgrow
        have HM4 := Lib.hid M4
        clear hown hgrow M4 HM3
        go_wp2_with fail
        have HAG2 := Lib.hid (show ∀ k, (putS S n xo k).a ≤ i + 1 from fun k => by
          have h1 := HAG.out k
          unfold putS
          by_cases hk : k = n
          · subst hk; rw [if_pos rfl]; show (S k).a ≤ i + 1; omega
          · rw [if_neg hk]; omega)
        exact ⟨⟨i + 1, _, _, by omega, by omega, by go_num, HAG2.out, fun z hz => (by
          rcases List.mem_append.1 hz with hz | hz
          · exact HTB.out z hz
          · rw [List.mem_singleton] at hz; omega), HM4.out, by rw [List.length_append, List.length_singleton]; omega⟩, by simp [intOf]; omega⟩
      · obtain rfl : n = 64 := by have := hn.1; omega
        have hp := put_full MV.out.tab hn.2.1 (by omega) xo
        have hrp := rput_full MV.out.rtab hn.2.1 (by omega) xo
        clear hn
        go_wp2_with fail
        (with_reducible refine hp.mono ?_)
        rintro e w3 ⟨rfl, rfl⟩
        clear hp
        go_wp2_with fail
        (with_reducible refine hrp.mono ?_)
        rintro e w4 ⟨rfl, rfl⟩
        clear hrp
        have M3 := MV.out
        generalize wx = w3 at *
        have hle3 := M3.le
        have M3 := M3.keep0 (Keep.alloc w3 (.cells #[.int .i64 0] 3))
        have hN1 := one_new6 w3 (.int .i64 0) 3
        have HM3 := Lib.hid (And.intro M3 hN1)
        obtain ⟨ii, hii, hz0, hz1, hz2⟩ := info_of intparts
        clear M3 hN1 MV HBV x0 x1 x2 x3
        go_wp2_with (at_builtin; refine wpList_append_own_at _ rfl (.tmp 95) (.tmp 97) 30 rfl B 3 ii (.int .i64 0) 1 8 Try.underlying30 hii hz0 hz1 hz2 rfl (by omega) _ T.length (T.map i64v) rfl HM3.out.1.row ⟨w3.heap.size, 0, none⟩ 1 1 [.int .i64 0] rfl rfl HM3.out.2 ?c3 ?c4 ?c5 ?c6 ?_)
        case c3 => first | rfl | (intro z hz; simp at hz; subst hz; rfl)
        case c4 => unfold maxLen; omega
        case c5 => omega
        case c6 => first | omega | (simp; omega)
        intro v' w4 hown hgrow _ _
        have M4 := HM3.out.1.withRow (v' := v') (T' := T ++ [0]) O.out (by rw [List.map_append, List.length_append]; exact hown) hgrow
        have HM4 := Lib.hid M4
        clear hown hgrow M4 HM3
        go_wp2_with fail
        exact ⟨⟨i + 1, _, _, by omega, by omega, by go_num, fun k => Nat.le_succ_of_le (HAG.out k), fun z hz => (by
          rcases List.mem_append.1 hz with hz | hz
          · exact HTB.out z hz
          · rw [List.mem_singleton] at hz; omega), HM4.out, by rw [List.length_append, List.length_singleton]; omega⟩, by simp [intOf]; omega⟩
    have hd0b : (d == 0) = false := by simp [hd0]
    by_cases hd1 : d = 1
    · subst hd1
      by_cases hhit : ∃ k, Hit S hh k
      · obtain ⟨k, hk⟩ := hhit
        have hp := get_yes MV.out.tab hk hb1
        have hrp := rget_yes MV.out.rtab hk hb1
        generalize (S k).o = y at *
        have hne : (y != y) = false := by simp
        clear hk
        go_wp2_with fail
        (with_reducible refine hp.mono ?_)
        rintro e w3 ⟨rfl, rfl⟩
        clear hp
        go_wp2_with fail
        (with_reducible refine hrp.mono ?_)
        rintro e w4 ⟨rfl, rfl⟩
        clear hrp
        go_wp2_with fail
        exact ⟨⟨i + 1, _, _, by omega, by omega, by go_num, fun k => Nat.le_succ_of_le (HAG.out k), HTB.out, MV.out, by omega⟩, by simp [intOf]; omega⟩
      · have hp := get_no MV.out.tab (fun k hk => hhit ⟨k, hk⟩) hb1
        have hrp := rget_no MV.out.rtab (fun k hk => hhit ⟨k, hk⟩) hb1
        clear hhit
        go_wp2_with fail
        (with_reducible refine hp.mono ?_)
        rintro e w3 ⟨rfl, rfl⟩
        clear hp
        go_wp2_with fail
        (with_reducible refine hrp.mono ?_)
        rintro e w4 ⟨rfl, rfl⟩
        clear hrp
        go_wp2_with fail
        exact ⟨⟨i + 1, _, _, by omega, by omega, by go_num, fun k => Nat.le_succ_of_le (HAG.out k), HTB.out, MV.out, by omega⟩, by simp [intOf]; omega⟩
    have hd1b : (d == 1) = false := by simp [hd1]
    by_cases hd2 : d = 2
    · subst hd2
      by_cases hhit : ∃ k, Hit S hh k
      · obtain ⟨k, hk⟩ := hhit
        have hp := drop_yes MV.out.tab hk hb1
        have HK := Lib.hid hk
        clear hk
        go_wp2_with fail
        (with_reducible refine hp.mono ?_)
        rintro e w2 ⟨rfl, t2, k2⟩
        have hrp := rdrop_yes (MV.out.rtab.keep k2 (by simp; omega)) HK.out hb1
        have HT2 := Lib.hid (And.intro t2 k2)
        clear hp t2 k2 x0 x1 x2 x3
        go_wp2_with fail
        (with_reducible refine hrp.mono ?_)
        rintro e w3 ⟨rfl, t3, k3⟩
        have HM3 := Lib.hid (MV.out.both O.out (Keep.refl _ _) HT2.out.2 HT2.out.1 (Keep.refl _ _) k3 t3)
        clear hrp t3 k3 HT2 MV
        go_wp2_with fail
        have HAG2 := Lib.hid (show ∀ j, (dropS S k j).a ≤ i + 1 from fun j => by
          have h1 := HAG.out j
          unfold dropS
          by_cases hj : j = k
          · subst hj; rw [if_pos rfl]; show (S j).a + 1 ≤ i + 1; omega
          · rw [if_neg hj]; omega)
        exact ⟨⟨i + 1, _, _, by omega, by omega, by go_num, HAG2.out, HTB.out, HM3.out, by omega⟩, by simp [intOf]; omega⟩
      · have hp := drop_no MV.out.tab (fun k hk => hhit ⟨k, hk⟩) hb1
        have hrp := rdrop_no MV.out.rtab (fun k hk => hhit ⟨k, hk⟩) hb1
        clear hhit
        go_wp2_with fail
        (with_reducible refine hp.mono ?_)
        rintro e w3 ⟨rfl, rfl⟩
        clear hp
        go_wp2_with fail
        (with_reducible refine hrp.mono ?_)
        rintro e w4 ⟨rfl, rfl⟩
        clear hrp
        go_wp2_with fail
        exact ⟨⟨i + 1, _, _, by omega, by omega, by go_num, fun k => Nat.le_succ_of_le (HAG.out k), HTB.out, MV.out, by omega⟩, by simp [intOf]; omega⟩
    have hd2b : (d == 2) = false := by simp [hd2]
    have HDC := Lib.hid (show ∀ W, Keep [] wx W → Calls Try.prog 16 #[.pointer (some ⟨g, 0, none⟩), .int .i64 xo, .int .i64 h] W _ from fun W kW => move_any (MV.out.tab.keep kW (by simp)) xo h)
    have HTC := Lib.hid (show ∀ W, Keep [g] wx W → Calls Try.prog 17 #[.pointer (some ⟨r, 0, none⟩), .int .i64 xo, .int .i64 h] W _ from fun W kW => rmove_any (MV.out.rtab.keep kW (by simp; omega)) xo h)
    have HAG2 := Lib.hid (show ∀ j, (mvS S xo h 64 j).a ≤ i + 1 from fun j => by
      have h1 := HAG.out j
      unfold mvS
      split
      · show (S j).a ≤ i + 1; omega
      · omega)
    generalize mvN S xo 64 = V at *
    generalize hS' : mvS S xo h 64 = S' at *
    clear hS'
    have hne : ((V : Int) != (V : Int)) = false := by simp
    go_upto_region 13 with fail
    go_region_held3 (fun w' => w'.cell? ⟨v0, 1, none⟩ = some (.int .i64 h) ∧ w'.cell? ⟨v0, 2, none⟩ = some (.int .i64 xo)) (first | exact ⟨ll1, ll2⟩ | exact ⟨kk1, kk2⟩ | exact ⟨x1, x2⟩ | go_keep)
      (first | (go_at_call 16; refine (HDC.out _ (by repeat (first | (with_reducible exact Keep.refl _ _) | (with_reducible refine Keep.trans ?_ (Keep.drew _)) | (with_reducible refine Keep.trans ?_ (Keep.dr (Dr.drewN _ _)))))).mono ?_; rintro e w2 ⟨rfl, hD1, hK1⟩; have kx1 : Keep [g] wx w2 := (by refine Keep.trans ?_ hK1; repeat (first | (with_reducible exact Keep.refl _ _) | (with_reducible refine Keep.trans ?_ (Keep.drew _)) | (with_reducible refine Keep.trans ?_ (Keep.dr (Dr.drewN _ _))))); have kk1 : w2.cell? ⟨v0, 1, none⟩ = some (.int .i64 h) := (HBV.out.keep kx1 (by simp; omega)).cell 1; have kk2 : w2.cell? ⟨v0, 2, none⟩ = some (.int .i64 xo) := (HBV.out.keep kx1 (by simp; omega)).cell 2) | (go_at_call 17; refine (HTC.out _ (by repeat (first | (with_reducible exact kx1) | (with_reducible refine Keep.trans ?_ (Keep.drew _)) | (with_reducible refine Keep.trans ?_ (Keep.dr (Dr.drewN _ _)))))).mono ?_; rintro e w3 ⟨rfl, hT2, hK2⟩; have kx2 := (HBV.out.keep kx1 (by simp; omega)); have ll1 : w3.cell? ⟨v0, 1, none⟩ = some (.int .i64 h) := ((HBV.out.keep kx1 (by simp; omega)).keep hK2 (by simp; omega)).cell 1; have ll2 : w3.cell? ⟨v0, 2, none⟩ = some (.int .i64 xo) := ((HBV.out.keep kx1 (by simp; omega)).keep hK2 (by simp; omega)).cell 2))
    all_goals
      go_wp2_with fail
      have M3 := MV.out.both O.out (by repeat (first | (with_reducible exact Keep.refl _ _) | (with_reducible refine Keep.trans ?_ (Keep.drew _)) | (with_reducible refine Keep.trans ?_ (Keep.dr (Dr.drewN _ _))))) hK1 hD1 (by repeat (first | (with_reducible exact Keep.refl _ _) | (with_reducible refine Keep.trans ?_ (Keep.drew _)) | (with_reducible refine Keep.trans ?_ (Keep.dr (Dr.drewN _ _))))) hK2 hT2
      exact ⟨⟨i + 1, _, _, by omega, by omega, by go_num, HAG2.out, HTB.out, M3, by omega⟩, by simp [intOf]; omega⟩
end Go.Proofs.Ytejepiobdkbgpaa
