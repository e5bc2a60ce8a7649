/-
  object.lay: an object's words one behind another. No conditions but what is in memory.
-/
import Derived.Test.YtbmnhngkmokklaaOb1
import Derived.Deep.DeepCutAuto
import Derived.Deep.RegionWith
namespace Go.Flo
open Go.RowKit Go.Bit

def u64v (x : Int) : Value := .int .u64 x

/-- Words, or none: what is told. -/
def LayPost (o : Option (List Int)) (w : World) (e : Ending) (w' : World) : Prop :=
  ∃ A c, e = .returned (.tuple #[.slice A (o.getD []).length c, .bool o.isSome]) ∧ (o.getD []).length ≤ c ∧ c ≤ 9223372036854775807 ∧ Wd w' A (o.getD []) ∧ Keep [] w w'

theorem owns_wd {w : World} {B : Nat} {ty : TypeId} {v : Value} {l : List Int} (h : w.ownsRow B ty 1 v l.length (l.map u64v)) : ∃ A c, v = .slice A l.length c ∧ l.length ≤ c ∧ c ≤ 9223372036854775807 ∧ Wd w A l := by
  have e : l.map u64v = (List.range l.length).map fun i => u64v (l.getD i 0) := by
    apply List.ext_getElem
    · simp
    · intro i h1 h2
      simp at h1
      simp [List.getD_eq_getElem?_getD, h1]
  rw [e] at h
  rcases h.2 with ⟨rfl, h0⟩ | ⟨g, cap, cur, rfl, hg, _⟩
  · have hn : l.length = 0 := by first | exact h0 | exact h0.1 | exact h0.2
    have hl : l = [] := List.length_eq_zero_iff.1 hn
    subst hl
    exact ⟨none, 0, rfl, by simp, by omega, Wd.nil _ _⟩
  · have hr := Row.of_owns h
    have hm := hr.cap_max
    unfold maxLen at hm
    have hn := hr.cap_le
    exact ⟨some ⟨g, 0, none⟩, cap, rfl, hn, by omega, by omega, fun _ => ⟨g, 0, rfl, hr.lt, fun j hj => by rw [Nat.zero_add]; exact hr.cell hj⟩⟩

theorem owns_one {w : World} {g B : Nat} {ty : TypeId} {x : Int} (h : Blk w g ty #[u64v x]) (hB : B ≤ g) : w.ownsRow B ty 1 (.slice (some ⟨g, 0, none⟩) 1 1) 1 [u64v x] := by
  have hr : Row w ty g 1 1 (fun _ => u64v x) := ⟨_, h, rfl, by omega, by unfold maxLen; omega, fun i hi => by
    obtain rfl : i = 0 := by omega
    rfl⟩
  exact hr.toOwns B hB

theorem Wd.len0 {w : World} {A : Option Addr} {l : List Int} (h : Wd w A l) {n : Nat} (hA : A = none) (hn : l.length = n) : n = 0 := by
  subst hn hA
  rcases Nat.eq_zero_or_pos l.length with h0 | h0
  · exact h0
  · obtain ⟨b, o, e, _⟩ := h.cells h0
    cases e

theorem Wd.news {w : World} {A : Option Addr} {l : List Int} (h : Wd w A l) : ∀ ad, A = some ad → ∀ j u, (l.map u64v)[j]? = some u → w.cell? (ad.add j) = some u := by
  intro ad e j u hu
  have hj : j < l.length := by
    have := (List.getElem?_eq_some_iff.1 hu).1
    simpa using this
  obtain ⟨b, o, e2, hb, hc⟩ := h.cells (by omega)
  rw [e] at e2
  injection e2 with e2
  subst e2
  have := hc j hj
  rw [Go.Proofs.Ytbmnhngkmokklaa.addr_add0, this]
  simp [List.getElem?_map, List.getElem?_eq_getElem hj] at hu
  rw [← hu]
  simp [List.getD_eq_getElem?_getD, hj, u64v]
end Go.Flo
namespace Go.Proofs.Ytbmnhngkmokklaa
open Go.RowKit Go.Flo Go.Bit
set_option maxRecDepth 100000

theorem encA_stop {fK : Nat → Int} {F : Nat → Val} {j m : Nat} (h : j < m) (hn : encA fK F (j + 1) = none) : encA fK F m = none := by
  induction m with
  | zero => omega
  | succ m ih =>
    rcases Nat.lt_succ_iff_lt_or_eq.1 h with h | rfl
    · simp only [encA]; rw [ih h]; rfl
    · exact hn

theorem words_le (k : Int) (v : Val) : ((wordsV k v).getD []).length ≤ 2 := by
  cases h : wordsV k v with
  | none => simp
  | some x => have := (words_len h).1; unfold fw at this; simp; split at this <;> omega

theorem u64parts : (Try.prog.info? 24).map (fun i => (i.zero, i.size, i.bytes)) = some (some (.int .u64 0), 1, 8) := by kernel_rfl

/-- What holds at the label of lay. -/
def LayJ (w1 : World) (B0 mK : Nat) (fK : Nat → Int) (F : Nat → Val) (H : Int) (a0 a1 a2 a3 a5 : Value) (a' : Act) (w' : World) : Prop :=
  ∃ (j : Nat) (l : List Int) (v : Value) (u4 u6 u7 u12 u13 u14 u15 u16 u17 u18 u19 u20 u21 u22 u23 u24 u25 u26 u27 u28 u29 u30 u31 u32 u33 u34 u35 u36 u37 u38 u39 u40 u41 u42 u43 u44 : Value),
    a' = { tmps := #[a0, a1, a2, a3, u4, a5, u6, u7, .slice none 0 0, .bool false, v, .int .i64 j, u12, u13, u14, u15, u16, u17, u18, u19, u20, u21, u22, u23, u24, u25, u26, u27, u28, u29, u30, u31, u32, u33, u34, u35, u36, u37, u38, u39, u40, u41, u42, u43, u44], defers := [] }
    ∧ j ≤ mK ∧ encA fK F j = some l ∧ w'.ownsRow B0 24 1 v (l.length + 1) ((H :: l).map u64v) ∧ Keep [] w1 w'

set_option maxHeartbeats 2000000 in
theorem lay_any (w : World) (A B : Option Addr) (mK c cb K t : Nat) (fK : Nat → Int) (F : Nat → Val) (hK : K < 16) (ht : t < 18446744073709551616) (hM : MayK mK fK) (h : Ints w A mK c fK) (hV : Vals w B mK cb F) :
    Calls Try.prog 21 #[.int .i64 K, .agg #[.slice A mK c], .slice B mK cb, .int .u64 t] w (LayPost ((encA fK F mK).map fun l => (hd K (sumF fK mK) t : Int) :: l) w) := by
  have k1 : Keep [] w (w.alloc (.cells #[.slice A mK c] 47)) := Keep.alloc _ _
  have HB := Lib.hid (Blk.new w 47 #[.slice A mK c])
  have hk := kwords_any (w.alloc (.cells #[.slice A mK c] 47)) A mK c fK (h.keep k1)
  rw [show kwds mK fK = sumF fK mK from if_pos ⟨hM.1, hM.2.1, hM.2.2.1⟩] at hk
  have hg := sumF_ge fK mK
  have hmk := fun W => make_yes K (sumF fK mK) t hK (by omega) hM.2.2.2 ht W
  have HI := Lib.hid (h.keep k1)
  have HV := Lib.hid (hV.keep k1)
  have hnc := h.nc
  have hcc := h.cap
  have hvc := hV.nc
  have hvm := hV.cap
  have hm15 := hM.2.1
  have HP := Lib.hid (show ∀ o, (encA fK F mK).map (fun l => (hd K (sumF fK mK) t : Int) :: l) = o → ∀ e w', LayPost o w e w' → LayPost ((encA fK F mK).map fun l => (hd K (sumF fK mK) t : Int) :: l) w e w' from fun o ho e w' h => ho ▸ h)
  obtain ⟨Q, hQ⟩ : ∃ Q, Q = LayPost ((encA fK F mK).map fun l => (hd K (sumF fK mK) t : Int) :: l) w := ⟨_, rfl⟩
  rw [← hQ]
  have HQ := Lib.hid hQ
  clear hQ
  obtain ⟨w1, hw1⟩ : ∃ w1, w1 = (w.alloc (.cells #[.slice A mK c] 47)) := ⟨_, rfl⟩
  have hs1 : w1.heap.size = w.heap.size + 1 := by rw [hw1]; simp
  rw [← hw1] at HB HI HV hk k1
  obtain ⟨H, hH⟩ : ∃ H : Int, H = (hd K (sumF fK mK) t : Nat) := ⟨_, rfl⟩
  rw [← hH] at hmk HQ
  clear hH
  generalize sumF fK mK = s at *
  clear h hV hM hg HP
  go_enter Try.func21, Try.ntmps21
  go_wp2_with fail
  refine wp_scope_round 0 (LayJ w1 w1.heap.size mK fK F H (.int .i64 K) (.agg #[.slice A mK c]) (.slice B mK cb) (.int .u64 t) (.pointer (some ⟨w.heap.size, 0, none⟩))) (fun a' _ => mK - slotNat 11 a') rfl ?_ ?_
  · rintro a' w' ⟨j, l, v, u4, u6, u7, u12, u13, u14, u15, u16, u17, u18, u19, u20, u21, u22, u23, u24, u25, u26, u27, u28, u29, u30, u31, u32, u33, u34, u35, u36, u37, u38, u39, u40, u41, u42, u43, u44, rfl, hj, hl, hown, hK1⟩
    by_cases hlt : j < mK
    case neg =>
      obtain rfl : j = mK := by omega
      have HH := Lib.hid (And.intro hl (And.intro hown hK1))
      clear hl hown hK1
      go_wp2_with fail
      rw [HQ.out, HH.out.1]
      obtain ⟨A2, c2, rfl, e1, e2, e3⟩ := owns_wd (l := H :: l) HH.out.2.1
      exact ⟨A2, c2, rfl, e1, e2, e3, k1.trans HH.out.2.2⟩
    obtain ⟨bA, oA, rfl, hbA, hcA⟩ := HI.out.cells (by omega)
    obtain ⟨bB, oB, rfl, hbB, hcB⟩ := HV.out.cells (by omega)
    have cA := (hK1.cell (p := ⟨bA, _, none⟩) hbA (by simp)).trans (hcA j hlt)
    obtain ⟨q0, q1, q2, q3, q4⟩ := hcB j hlt
    have c0 := (hK1.cell (p := ⟨bB, _, none⟩) hbB (by simp)).trans q0
    have c1 := (hK1.cell (p := ⟨bB, _, none⟩) hbB (by simp)).trans q1
    have c2 := (hK1.cell (p := ⟨bB, _, none⟩) hbB (by simp)).trans q2
    have c3 := (hK1.cell (p := ⟨bB, _, none⟩) hbB (by simp)).trans q3
    have c4 := (hK1.cell (p := ⟨bB, _, none⟩) hbB (by simp)).trans q4
    have cK := ((HB.out.keep hK1 (by simp)).cell 0).trans (show _ = some (Value.slice (some ⟨bA, oA, none⟩) mK c) from rfl)
    have hvw : ∀ W, Calls Try.prog 35 #[.int .i64 (fK j), .agg #[.int .i64 (F j).K, .int .i64 (F j).n, .int .u64 (F j).p, .int .u64 (F j).q, .int .i64 (F j).r]] W (WPost (wordsV (fK j) (F j)) W) := fun W => vwords_any _ _ _ _ _ _ W
    have hnext : encA fK F (j + 1) = (wordsV (fK j) (F j)).map fun x => l ++ x := by simp only [encA]; rw [hl]; rfl
    have hstop : encA fK F (j + 1) = none → encA fK F mK = none := fun hn => encA_stop hlt hn
    have hlb : l.length ≤ 30 := by
      have := encA_len hl
      have := sumF_le fK j
      omega
    obtain ⟨x, hx⟩ : ∃ x, wordsV (fK j) (F j) = x := ⟨_, rfl⟩
    have hxl : (x.getD []).length ≤ 2 := by
      rw [← hx]; exact words_le _ _
    rw [hx] at hvw hnext
    have HN := Lib.hid (And.intro hnext (And.intro (fun (e : x = none) => hstop (by rw [hnext, e]; rfl)) (And.intro hown hK1)))
    clear hx hnext hstop hown hcA hcB hl q0 q1 q2 q3 q4
    generalize fK j = fj at *
    generalize (F j).K = v0 at *
    generalize (F j).n = v1 at *
    generalize (F j).p = v2 at *
    generalize (F j).q = v3 at *
    generalize (F j).r = v4 at *
    unfold WPost at hvw
    obtain ⟨n, hn⟩ : ∃ n, (x.getD []).length = n := ⟨_, rfl⟩
    obtain ⟨i1, hi1⟩ : ∃ i1, x.isSome = i1 := ⟨_, rfl⟩
    rw [hn] at hxl
    have hvw' : ∀ W, Calls Try.prog 35 #[.int .i64 fj, .agg #[.int .i64 v0, .int .i64 v1, .int .u64 v2, .int .u64 v3, .int .i64 v4]] W (fun e w' => ∃ A, e = .returned (.tuple #[.slice A n n, .bool i1]) ∧ Wd w' A (x.getD []) ∧ Keep [] W w') := by
      intro W
      have := hvw W
      rwa [hn, hi1] at this
    have HH := Lib.hid (And.intro hn hi1)
    clear hvw hn hi1
    go_upto_region 5 with fail
    go_cut [12, 13] (fun s12 s13 wx => ∃ A, s12 = .slice A n n ∧ s13 = .bool i1 ∧ Wd wx A (x.getD []) ∧ Keep [] w' wx)
    case first =>
      go_wp2_with fail
      go_region_with (go_at_call 35; refine (hvw' _).mono ?_; rintro e w4 ⟨A4, rfl, hW4, k4⟩)
      all_goals
        go_wp2_with fail
        go_meet
        exact ⟨A4, rfl, rfl, (by first | exact hW4 | exact hW4.keep (Keep.drew _)), (by repeat (first | exact k4 | (with_reducible refine Keep.trans ?_ (Keep.drew _)) | (with_reducible refine Keep.trans (Keep.drew _) ?_)))⟩
    case rest =>
    obtain ⟨A4, rfl, rfl, hW4, k4⟩ := hcut
    obtain ⟨hnext, hstop, hown, hK1⟩ := HN.out
    obtain ⟨hn, hi1⟩ := HH.out
    cases i1 with
    | false =>
      have hx : x = none := by cases x; rfl; simp at hi1
      have HD := Lib.hid (And.intro (hstop hx) (k1.trans (hK1.trans k4)))
      clear hnext hstop hown hn hi1 hW4 k4 hx cA c0 c1 c2 c3 c4 cK hvw' HH HN
      go_wp2_with fail
      rw [HQ.out, HD.out.1]
      exact ⟨none, 0, rfl, by simp, by omega, Wd.nil _ _, HD.out.2⟩
    | true =>
      obtain ⟨y, rfl⟩ : ∃ y, x = some y := by cases x; simp at hi1; exact ⟨_, rfl⟩
      simp only [Option.getD_some] at hn hW4
      have HO := Lib.hid (owns_kept hown k4)
      have HW := Lib.hid hW4
      have HE := Lib.hid (And.intro hnext (And.intro hn (hK1.trans k4)))
      have hsz : w1.heap.size ≤ wc.heap.size := (hK1.trans k4).size
      clear hnext hstop hown hn hi1 hW4 k4 cA c0 c1 c2 c3 c4 cK hvw' HH HN hK1
      obtain ⟨ii, hii, hz0, hz1, hz2⟩ := info_of u64parts
      go_wp2_with (at_builtin; refine wpList_append_src rfl (.tmp 40) (.tmp 41) 29 rfl w1.heap.size 24 ii (.int .u64 0) 1 8 Try.underlying29 hii hz0 hz1 hz2 rfl (by omega) v (l.length + 1) ((H :: l).map u64v) rfl HO.out A4 n n (y.map u64v) rfl ?c1 ?c2 HW.out.news ?c3 ?c4 ?c5 hsz ?_)
      case c1 => simp [HE.out.2.1]
      case c2 => intro e; exact HW.out.len0 e HE.out.2.1
      case c3 => intro u hu; simp at hu; obtain ⟨z, _, rfl⟩ := hu; rfl
      case c4 => unfold maxLen; omega
      case c5 => omega
      intro v' w'' hown2 hgrow
      have hk2 := grown_keep HE.out.2.2 (Nat.le_refl _) HO.out hgrow
      have e1 : (H :: (l ++ y)).map u64v = u64v H :: (l.map u64v ++ y.map u64v) := by simp
      have e2 : (l ++ y).length + 1 = l.length + 1 + n := by rw [List.length_append, HE.out.2.1]; omega
      have hown3 : w''.ownsRow w1.heap.size 24 1 v' ((l ++ y).length + 1) ((H :: (l ++ y)).map u64v) := by rw [hs1, e1, e2]; exact hown2
      have HF := Lib.hid (And.intro hown3 (And.intro hk2 HE.out.1))
      clear hown2 hown3 hk2 hgrow e1 e2
      go_wp2_with fail
      go_step3
      apply jump_goto
      refine ⟨⟨j + 1, l ++ y, v', _, _, _, _, _, _, _, _, _, _, _, _, _, _, _, _, _, _, _, _, _, _, _, _, _, _, _, _, _, _, _, _, _, _, _, _, by go_num, by omega, HF.out.2.2, HF.out.1, HF.out.2.1⟩, ?_⟩
      simp [slotNat]
      omega
  · intro hfirst
    subst hw1
    go_wp2_with fail
    (with_reducible refine hk.mono ?_)
    rintro e w2 ⟨rfl, k2⟩
    go_wp2_with fail
    (with_reducible refine (hmk _).mono ?_)
    rintro e w3 ⟨rfl, d3⟩
    have HKK := Lib.hid (k2.trans (Keep.dr (own := []) d3))
    have HS := Lib.hid hs1
    have HB3 := Lib.hid (Blk.new w3 24 #[u64v H])
    clear hs1 k2 d3
    go_wp2_with fail
    go_step3
    rename_i hK
    exact hK _ _ (hfirst _ _ ⟨0, [], _, _, _, _, _, _, _, _, _, _, _, _, _, _, _, _, _, _, _, _, _, _, _, _, _, _, _, _, _, _, _, _, _, _, _, _, _, rfl, by omega, rfl, owns_one HB3.out HKK.out.size, HKK.out.trans (Keep.alloc _ _)⟩)
end Go.Proofs.Ytbmnhngkmokklaa
