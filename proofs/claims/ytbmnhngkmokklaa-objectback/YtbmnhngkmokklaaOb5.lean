/-
  object.end, object.read: an object's fields, one behind another. No conditions but what is in memory.
-/
import Derived.Test.YtbmnhngkmokklaaOb4
import Derived.Deep.RegionHeld3
namespace Go.Flo
open Go.RowKit Go.Bit

/-- A value's cells. -/
def cellsV (v : Val) : List Value := [.int .i64 v.K, .int .i64 v.n, .int .u64 v.p, .int .u64 v.q, .int .i64 v.r]
def rowV (L : List Val) : List Value := L.flatMap cellsV

theorem rowV_len (L : List Val) : (rowV L).length = L.length * 5 := by
  induction L with
  | nil => rfl
  | cons a L ih => unfold rowV at ih ⊢; rw [List.flatMap_cons, List.length_append, ih]; simp [cellsV]; omega
theorem rowV_get : ∀ (L : List Val) (j k : Nat), j < L.length → k < 5 → (rowV L)[j * 5 + k]? = (cellsV (L.getD j z0))[k]?
  | [], j, k, h, _ => by simp at h
  | a :: L, 0, k, _, hk => by
    unfold rowV
    rw [List.flatMap_cons, List.getElem?_append_left (by simp [cellsV]; omega)]
    simp
  | a :: L, j + 1, k, h, hk => by
    have := rowV_get L j k (by simpa using h) hk
    unfold rowV at this ⊢
    rw [List.flatMap_cons, List.getElem?_append_right (by simp [cellsV]; omega)]
    simp only [show (cellsV a).length = 5 from rfl]
    rw [show (j + 1) * 5 + k - 5 = j * 5 + k by omega, this]
    simp
theorem rowV_snoc (L : List Val) (v : Val) : rowV (L ++ [v]) = rowV L ++ cellsV v := by simp [rowV]

theorem owns_vals {w : World} {B : Nat} {ty : TypeId} {v : Value} {L : List Val} (h : w.ownsRow B ty 5 v L.length (rowV L)) : ∃ A c, v = .slice A L.length c ∧ Vals w A L.length c (fun i => L.getD i z0) := by
  rcases h.2 with ⟨rfl, h0⟩ | ⟨g, cap, cur, rfl, hg, hh, hn, hm, hs, ht⟩
  · have hn : L.length = 0 := by first | exact h0 | exact h0.1 | exact h0.2
    have hl : L = [] := List.length_eq_zero_iff.1 hn
    subst hl
    exact ⟨none, 0, rfl, Vals.none _ _⟩
  · unfold maxLen at hm
    refine ⟨some ⟨g, 0, none⟩, cap, rfl, hn, by omega, fun h0 => ⟨g, 0, rfl, Blk.lt (cs := cur) hh, fun j hj => ?_⟩⟩
    have key : ∀ k, k < 5 → w.cell? ⟨g, 0 + j * 5 + k, none⟩ = (cellsV (L.getD j z0))[k]? := fun k hk => by
      rw [Nat.zero_add, Blk.cell (cs := cur) hh, ← rowV_get L j k hj hk, ← ht, List.getElem?_take, if_pos (by omega)]
      simp
    exact ⟨key 0 (by omega), key 1 (by omega), key 2 (by omega), key 3 (by omega), key 4 (by omega)⟩

/-- Values, or none: what is told. -/
def ReadPost (o : Option (List Val)) (w : World) (e : Ending) (w' : World) : Prop :=
  ∃ A c, e = .returned (.tuple #[.slice A (o.getD []).length c, .bool o.isSome]) ∧ Vals w' A (o.getD []).length c (fun i => (o.getD []).getD i z0) ∧ Keep [] w w'

theorem Wd.part {w : World} {b o : Nat} {W : List Int} (h : Wd w (some ⟨b, o, none⟩) W) (s q : Nat) (hs : s + q ≤ W.length) : Wd w (some ⟨b, o + s, none⟩) ((W.drop s).take q) :=
  ⟨by have := h.len; rw [List.length_take, List.length_drop]; omega, fun h0 => by
    rw [List.length_take, List.length_drop] at h0
    obtain ⟨b', o', e, hb, hc⟩ := h.cells (by omega)
    injection e with e
    injection e with e1 e2
    subst e1 e2
    refine ⟨b, o + s, rfl, hb, fun j hj => ?_⟩
    rw [List.length_take, List.length_drop] at hj
    rw [Nat.add_assoc, hc (s + j) (by omega)]
    have h1 : j < q := by omega
    simp [List.getD_eq_getElem?_getD, List.getElem?_take, List.getElem?_drop, h1]⟩

theorem Blk.set5 {w : World} {g : Nat} {t : TypeId} {z0 z1 z2 z3 z4 : Value} (h : Blk w g t #[z0, z1, z2, z3, z4]) (a b c d e : Value) :
    Blk (((((w.setCell ⟨g, 0, none⟩ a).setCell ⟨g, 1, none⟩ b).setCell ⟨g, 2, none⟩ c).setCell ⟨g, 3, none⟩ d).setCell ⟨g, 4, none⟩ e) g t #[a, b, c, d, e] :=
  ((((h.set_ 0 a).set_ 1 b).set_ 2 c).set_ 3 d).set_ 4 e

theorem five_new (w : World) (x0 x1 x2 x3 x4 : Int) (t : TypeId) : ∀ j u, (cellsV ⟨x0, x1, x2, x3, x4⟩)[j]? = some u → (w.alloc (.cells #[.int .i64 x0, .int .i64 x1, .int .u64 x2, .int .u64 x3, .int .i64 x4] t)).cell? ((⟨w.heap.size, 0, none⟩ : Addr).add j) = some u := by
  intro j u hu
  rw [Go.Proofs.Ytbmnhngkmokklaa.addr_add0, Nat.zero_add, (Blk.new w t #[.int .i64 x0, .int .i64 x1, .int .u64 x2, .int .u64 x3, .int .i64 x4]).cell, ← hu]
  simp [cellsV]

/-- A block that has come since. -/
def BlkG (w1 w : World) (g : Nat) (t : TypeId) (cs : Array Value) : Prop := Blk w g t cs ∧ w1.heap.size ≤ g
theorem BlkG.new {w1 X w' : World} {t : TypeId} {cs : Array Value} (hk : Keep [] w1 X) (k : Keep [] (X.alloc (.cells cs t)) w') : BlkG w1 w' X.heap.size t cs := ⟨(Blk.new X t cs).keep k (by simp), hk.size⟩
theorem BlkG.newd {w1 X w' : World} {t : TypeId} {cs : Array Value} (hk : Keep [] w1 X) (k : Keep [] (X.alloc (.cells cs t)).drew w') : BlkG w1 w' X.heap.size t cs := ⟨(Blk.new X t cs).keep ((Keep.drew (own := []) _).trans k) (by simp), hk.size⟩
theorem BlkG.keep {w1 X w' : World} {g : Nat} {t : TypeId} {cs : Array Value} (h : BlkG w1 X g t cs) (k : Keep [] X w') : BlkG w1 w' g t cs := ⟨h.1.keep k (by simp), h.2⟩
theorem BlkG.keepd {w1 X w' : World} {g : Nat} {t : TypeId} {cs : Array Value} (h : BlkG w1 X g t cs) (k : Keep [] X.drew w') : BlkG w1 w' g t cs := h.keep ((Keep.drew (own := []) _).trans k)
end Go.Flo
namespace Go.Proofs.Ytbmnhngkmokklaa
open Go.RowKit Go.Flo Go.Bit
set_option maxRecDepth 100000

theorem decA_stop {fK : Nat → Int} {W : List Int} {j m : Nat} (h : j < m) (hn : decA fK W (j + 1) = none) : decA fK W m = none := by
  induction m with
  | zero => omega
  | succ m ih =>
    rcases Nat.lt_succ_iff_lt_or_eq.1 h with h | rfl
    · simp only [decA]; rw [ih h]; rfl
    · exact hn

theorem sumF_mono (f : Nat → Int) {a b : Nat} (h : a ≤ b) : sumF f a ≤ sumF f b := by
  induction b with
  | zero => rw [show a = 0 by omega]; exact Nat.le_refl _
  | succ b ih =>
    rcases Nat.lt_or_ge a (b + 1) with h | h
    · exact Nat.le_trans (ih (by omega)) (Nat.le_add_right _ _)
    · rw [show a = b + 1 by omega]; exact Nat.le_refl _

theorem end_any (w : World) (A : Option Addr) (mK c j : Nat) (fK : Nat → Int) (h : Ints w A mK c fK) (hM : MayK mK fK) (hj : j < mK) :
    Calls Try.prog 43 #[.agg #[.slice A mK c], .int .i64 j] w fun e w' => e = .returned (.int .i64 (sumF fK (j + 1) : Nat)) ∧ Keep [] w w' := by
  have k1 : Keep [] w (w.alloc (.cells #[.slice A mK c] 47)) := Keep.alloc _ _
  obtain ⟨b, o, rfl, hb, hc⟩ := h.cells (by omega)
  have hw := kwords_any _ _ (j + 1) c fK (ints_take (h.keep k1) (show j + 1 ≤ mK by omega))
  rw [show kwds (j + 1) fK = sumF fK (j + 1) from if_pos ⟨by omega, by have := hM.2.1; omega, fun i hi => hM.2.2.1 i (by omega)⟩] at hw
  have hnc := h.nc
  have hcc := h.cap
  have hm15 := hM.2.1
  generalize sumF fK (j + 1) = s at *
  clear h hM hc
  go_enter Try.func43, Try.ntmps43
  go_wp2_with fail
  (with_reducible refine hw.mono ?_)
  rintro e w3 ⟨rfl, k3⟩
  go_wp2
  go_ret
  exact ⟨rfl, k1.trans k3⟩

theorem valpart5 : (Try.prog.info? 26).map (fun i => (i.zero, i.size, i.bytes)) = some (some (.agg #[.int .i64 0, .int .i64 0, .int .u64 0, .int .u64 0, .int .i64 0]), 5, 40) := by kernel_rfl

/-- What holds at the label of read. -/
def ReadJ (w1 : World) (B0 mK : Nat) (fK : Nat → Int) (W : List Int) (a0 a1 a2 : Value) (a' : Act) (w' : World) : Prop :=
  ∃ (j : Nat) (L : List Val) (v : Value) (u3 u8 u9 u10 u11 u12 u13 u14 u15 u16 u17 u18 u19 u20 u21 u22 u23 u24 u25 u26 u27 u28 u29 u30 u31 u32 u33 u34 u35 u36 u37 u38 u39 u40 : Value),
    a' = { tmps := #[a0, a1, a2, u3, .slice none 0 0, .bool false, v, .int .i64 j, u8, u9, u10, u11, u12, u13, u14, u15, u16, u17, u18, u19, u20, u21, u22, u23, u24, u25, u26, u27, u28, u29, u30, u31, u32, u33, u34, u35, u36, u37, u38, u39, u40], defers := [] }
    ∧ j ≤ mK ∧ decA fK W j = some L ∧ w'.ownsRow B0 26 5 v L.length (rowV L) ∧ Keep [] w1 w'

set_option maxHeartbeats 2000000 in
theorem read_any (w : World) (A B : Option Addr) (mK c cb : Nat) (fK : Nat → Int) (W : List Int) (hM : MayK mK fK) (h : Ints w A mK c fK) (hW : Wd w B W) (hr : ∀ y ∈ W, 0 ≤ y ∧ y < 18446744073709551616) (hl : W.length ≤ cb) (hcb : cb ≤ 9223372036854775807) (hfit : sumF fK mK ≤ W.length) :
    Calls Try.prog 29 #[.agg #[.slice A mK c], .slice B W.length cb] w (ReadPost (decA fK W mK) w) := by
  have k1 : Keep [] w (w.alloc (.cells #[.slice A mK c] 47)) := Keep.alloc _ _
  have HB := Lib.hid (Blk.new w 47 #[.slice A mK c])
  have HI := Lib.hid (h.keep k1)
  have HW := Lib.hid (hW.keep k1)
  have hnc := h.nc
  have hcc := h.cap
  have hm15 := hM.2.1
  have HM := Lib.hid hM
  have HR := Lib.hid hr
  have HFT := Lib.hid hfit
  obtain ⟨Q, hQ⟩ : ∃ Q, Q = ReadPost (decA fK W mK) w := ⟨_, rfl⟩
  rw [← hQ]
  have HQ := Lib.hid hQ
  obtain ⟨w1, hw1⟩ : ∃ w1, w1 = (w.alloc (.cells #[.slice A mK c] 47)) := ⟨_, rfl⟩
  rw [← hw1] at HB HI HW k1
  have hfN := hfit
  obtain ⟨N, hN⟩ : ∃ N, W.length = N := ⟨_, rfl⟩
  rw [hN] at hl ⊢ hfN
  have HN := Lib.hid hN
  have hs1 : w1.heap.size = w.heap.size + 1 := by rw [hw1]; simp
  have HS1 := Lib.hid hs1
  clear hQ h hW hM hr hfit hN hfN hs1
  go_enter Try.func29, Try.ntmps29
  go_wp2_with fail
  refine wp_scope_round 0 (ReadJ w1 w1.heap.size mK fK W (.agg #[.slice A mK c]) (.slice B N cb) (.pointer (some ⟨w.heap.size, 0, none⟩))) (fun a' _ => mK - slotNat 7 a') rfl ?_ ?_
  · rintro a' wl ⟨j, L, v, u3, u8, u9, u10, u11, u12, u13, u14, u15, u16, u17, u18, u19, u20, u21, u22, u23, u24, u25, u26, u27, u28, u29, u30, u31, u32, u33, u34, u35, u36, u37, u38, u39, u40, rfl, hj, hd, hown, hK1⟩
    have cK := ((HB.out.keep hK1 (by simp)).cell 0).trans (show _ = some (Value.slice A mK c) from rfl)
    by_cases hlt : j < mK
    case neg =>
      obtain rfl : j = mK := by omega
      have HH := Lib.hid (And.intro hd (And.intro hown hK1))
      clear hd hown hK1
      go_wp2_with fail
      rw [HQ.out, HH.out.1]
      obtain ⟨A2, c2, rfl, e1⟩ := owns_vals HH.out.2.1
      exact ⟨A2, c2, rfl, e1, k1.trans HH.out.2.2⟩
    obtain ⟨bA, oA, rfl, hbA, hcA⟩ := HI.out.cells (by omega)
    have cA := (hK1.cell (p := ⟨bA, _, none⟩) hbA (by simp)).trans (hcA j hlt)
    have hNl : sumF fK (j + 1) ≤ W.length := Nat.le_trans (sumF_mono fK (by omega)) HFT.out
    have hsucc : sumF fK (j + 1) = sumF fK j + fw (fK j) := rfl
    have hg := sumF_ge fK j
    have hsl := sumF_le fK j
    obtain ⟨bB, oB, rfl, hbB, _⟩ := HW.out.cells (by omega)
    have hof : ∀ X, Keep [] wl X → Calls Try.prog 37 #[.agg #[.slice (some ⟨bA, oA, none⟩) mK c], .int .i64 j] X fun e w' => e = .returned (.int .i64 (sumF fK j : Nat)) ∧ Keep [] X w' := by
      intro X hX
      have := koffset_any X _ mK c fK j (HI.out.keep (hK1.trans hX))
      rw [show kwds mK fK = sumF fK mK from if_pos ⟨HM.out.1, HM.out.2.1, HM.out.2.2.1⟩] at this
      have h2 := sumF_ge fK mK
      rwa [show offZ (sumF fK mK) mK fK (j : Int) = ((sumF fK j : Nat) : Int) by unfold offZ; rw [if_neg (by omega), Int.toNat_natCast]] at this
    have hen : ∀ X, Keep [] wl X → Calls Try.prog 43 #[.agg #[.slice (some ⟨bA, oA, none⟩) mK c], .int .i64 j] X fun e w' => e = .returned (.int .i64 (sumF fK j + fw (fK j) : Nat)) ∧ Keep [] X w' := by
      intro X hX
      have := end_any X _ mK c j fK (HI.out.keep (hK1.trans hX)) HM.out hlt
      rwa [hsucc] at this
    have hq : fw (fK j) ≤ 2 ∧ 1 ≤ fw (fK j) := by unfold fw; split <;> omega
    have hvo : ∀ X, Keep [] wl X → Calls Try.prog 42 #[.int .i64 (fK j), .slice (some ⟨bB, oB + sumF fK j, none⟩) (fw (fK j)) (cb - sumF fK j)] X (OPost (ofV (fK j) (seg fK W j)) X) := by
      intro X hX
      have hsg : (seg fK W j).length = fw (fK j) := by unfold seg; rw [List.length_take, List.length_drop]; omega
      have := vof_any (fK j) (some ⟨bB, oB + sumF fK j, none⟩) (cb - sumF fK j) (seg fK W j) (fun y hy => HR.out y (List.mem_of_mem_drop (List.mem_of_mem_take hy))) (by rw [hsg]; have := HN.out; omega) (by omega) X ((HW.out.part (sumF fK j) (fw (fK j)) (by omega)).keep (hK1.trans hX))
      rwa [hsg] at this
    have hnext : decA fK W (j + 1) = (ofV (fK j) (seg fK W j)).map fun x => L ++ [x] := by simp only [decA]; rw [hd]; rfl
    have hstop : decA fK W (j + 1) = none → decA fK W mK = none := fun hn => decA_stop hlt hn
    have hLl : L.length = j := decA_len hd
    have hN2 : sumF fK j + fw (fK j) ≤ N := by rw [← HN.out, ← hsucc]; exact hNl
    have hsN : sumF fK j < N := by omega
    have hscb : ¬ cb = sumF fK j := by omega
    unfold OPost at hvo
    obtain ⟨x, hx⟩ : ∃ x, ofV (fK j) (seg fK W j) = x := ⟨_, rfl⟩
    rw [hx] at hvo hnext
    have HX := Lib.hid (And.intro hnext (And.intro (fun (e : x = none) => hstop (by rw [hnext, e]; rfl)) (And.intro hown (And.intro hK1 hLl))))
    clear hx hnext hstop hown hcA hd hNl hsucc hLl
    generalize sumF fK j = s at *
    generalize fw (fK j) = q at *
    obtain ⟨t, ht⟩ : ∃ t, t = s + q := ⟨_, rfl⟩
    rw [← ht] at hen hN2
    rw [show q = t - s by omega] at hvo
    have i0 : (0 : Int) ≤ (s : Int) := by omega
    have i1 : (s : Int) ≤ (t : Int) := by omega
    have i2 : (t : Int) ≤ (cb : Int) := by omega
    have i3 : s ≤ t := by omega
    have i4 : t ≤ cb := by omega
    have i5 : (t : Int) ≤ (N : Int) := by omega
    clear ht hq
    generalize fK j = fj at *
    obtain ⟨ok, hi1⟩ : ∃ ok, x.isSome = ok := ⟨_, rfl⟩
    obtain ⟨Z, hZ⟩ : ∃ Z, x.getD z0 = Z := ⟨_, rfl⟩
    rw [hi1, hZ] at hvo
    have HH := Lib.hid (And.intro hi1 hZ)
    clear hi1 hZ
    obtain ⟨x0, x1, x2, x3, x4⟩ := Z
    dsimp only at hvo
    have HQW := Lib.hid (fun X (hk : Keep [] wl X) => (And.intro (((HB.out.keep (hK1.trans hk) (by simp)).cell 0).trans (show _ = some (Value.slice (some ⟨bA, oA, none⟩) mK c) from rfl)) ((hk.cell (p := ⟨bA, oA + j, none⟩) (Nat.lt_of_lt_of_le hbA hK1.size) (by simp)).trans cA)))
    have HOF := Lib.hid hof
    have HEN := Lib.hid hen
    have HVO := Lib.hid hvo
    have KK := Keep.refl [] wl
    clear hof hen hvo
    go_upto_region 5 with fail
    go_cut [8, 9] (fun s8 s9 wx => ∃ g, s8 = .pointer (some ⟨g, 0, none⟩) ∧ s9 = .bool ok ∧ Blk wx g 26 #[.int .i64 x0, .int .i64 x1, .int .u64 x2, .int .u64 x3, .int .i64 x4] ∧ Keep [] wl wx)
    case first =>
      go_wp2_with fail
      go_region_held3 (fun w' => w'.cell? ⟨w.heap.size, 0, none⟩ = some (.slice (some ⟨bA, oA, none⟩) mK c) ∧ w'.cell? ⟨bA, oA + j, none⟩ = some (.int .i64 fj)) (first | with_reducible exact ⟨cK, cA⟩ | with_reducible exact qW | with_reducible exact qZ | with_reducible exact HQW.out _ (KK.trans (Keep.alloc _ _)) | with_reducible exact HQW.out _ (KK.trans (Keep.drew _)) | with_reducible exact HQW.out _ ((KK.trans (Keep.alloc _ _)).trans (Keep.drew _)) | (trace_state; fail)) (first
        | (go_at_call 43; (with_reducible refine Calls.mono (HEN.out _ ?hk) ?_); (case hk => with_reducible first | exact KK | exact Keep.trans KK (Keep.drew _) | exact Keep.trans KK (Keep.alloc _ _) | exact Keep.trans (Keep.trans KK (Keep.alloc _ _)) (Keep.drew _)); rintro e w' ⟨rfl, k⟩; have KN : Keep [] wl w' := Keep.trans (by with_reducible first | exact KK | exact Keep.trans KK (Keep.drew _) | exact Keep.trans KK (Keep.alloc _ _) | exact Keep.trans (Keep.trans KK (Keep.alloc _ _)) (Keep.drew _)) k; have qW := HQW.out _ KN; (first | (with_reducible have hZ := BlkG.new KK k) | (with_reducible have hZ := BlkG.newd KK k) | (have hZ := hZ.keep k) | (have hZ := hZ.keepd k) | skip); have KK := KN)
        | (go_at_call 42; (with_reducible refine Calls.mono (HVO.out _ ?hk) ?_); (case hk => with_reducible first | exact KK | exact Keep.trans KK (Keep.drew _) | exact Keep.trans KK (Keep.alloc _ _) | exact Keep.trans (Keep.trans KK (Keep.alloc _ _)) (Keep.drew _)); rintro e w' ⟨rfl, k⟩; have KN : Keep [] wl w' := Keep.trans (by with_reducible first | exact KK | exact Keep.trans KK (Keep.drew _) | exact Keep.trans KK (Keep.alloc _ _) | exact Keep.trans (Keep.trans KK (Keep.alloc _ _)) (Keep.drew _)) k; have qW := HQW.out _ KN; (first | (with_reducible have hZ := BlkG.new KK k) | (with_reducible have hZ := BlkG.newd KK k) | (have hZ := hZ.keep k) | (have hZ := hZ.keepd k) | skip); have KK := KN; (try (have y0 := (hZ.1.cell 0).trans (show _ = some (Value.int .i64 0) from rfl); have y1 := (hZ.1.cell 1).trans (show _ = some (Value.int .i64 0) from rfl); have y2 := (hZ.1.cell 2).trans (show _ = some (Value.int .u64 0) from rfl); have y3 := (hZ.1.cell 3).trans (show _ = some (Value.int .u64 0) from rfl); have y4 := (hZ.1.cell 4).trans (show _ = some (Value.int .i64 0) from rfl); have f0 := hZ.1.frozen 0; have f1 := hZ.1.frozen 1; have f2 := hZ.1.frozen 2; have f3 := hZ.1.frozen 3; have f4 := hZ.1.frozen 4; have hE := And.intro (hZ.1.set5 (.int .i64 x0) (.int .i64 x1) (.int .u64 x2) (.int .u64 x3) (.int .i64 x4)) (((((KK.cellV (i := 0) (u := .int .i64 x0) hZ.2).cellV (i := 1) (u := .int .i64 x1) hZ.2).cellV (i := 2) (u := .int .u64 x2) hZ.2).cellV (i := 3) (u := .int .u64 x3) hZ.2).cellV (i := 4) (u := .int .i64 x4) hZ.2); have qZ := HQW.out _ (((((KK.cellV (i := 0) (u := .int .i64 x0) hZ.2).cellV (i := 1) (u := .int .i64 x1) hZ.2).cellV (i := 2) (u := .int .u64 x2) hZ.2).cellV (i := 3) (u := .int .u64 x3) hZ.2).cellV (i := 4) (u := .int .i64 x4) hZ.2))))
        | (go_at_call 37; (with_reducible refine Calls.mono (HOF.out _ ?hk) ?_); (case hk => with_reducible first | exact KK | exact Keep.trans KK (Keep.drew _) | exact Keep.trans KK (Keep.alloc _ _) | exact Keep.trans (Keep.trans KK (Keep.alloc _ _)) (Keep.drew _)); rintro e w' ⟨rfl, k⟩; have KN : Keep [] wl w' := Keep.trans (by with_reducible first | exact KK | exact Keep.trans KK (Keep.drew _) | exact Keep.trans KK (Keep.alloc _ _) | exact Keep.trans (Keep.trans KK (Keep.alloc _ _)) (Keep.drew _)) k; have qW := HQW.out _ KN; (first | (with_reducible have hZ := BlkG.new KK k) | (with_reducible have hZ := BlkG.newd KK k) | (have hZ := hZ.keep k) | (have hZ := hZ.keepd k) | skip); have KK := KN))
      all_goals
        go_wp2_with fail
        go_meet
        first
          | with_reducible exact ⟨_, rfl, rfl, hE.1, hE.2⟩
          | exact ⟨_, rfl, rfl, Blk.new _ _ _, KK.trans (Keep.alloc _ _)⟩
    case rest =>
    obtain ⟨g, rfl, rfl, hBg, hK2⟩ := hcut
    obtain ⟨hnext, hstop, hown, _, hLl⟩ := HX.out
    obtain ⟨hi, hZ⟩ := HH.out
    cases ok with
    | false =>
      have hx : x = none := by cases x; rfl; simp at hi
      have HD := Lib.hid (And.intro (hstop hx) (k1.trans (hK1.trans hK2)))
      clear hnext hstop hown hLl hi hZ hx hBg hK2 hK1 KK cK cA HQW HOF HEN HVO HX HH
      go_wp2_with fail
      rw [HQ.out, HD.out.1]
      exact ⟨none, 0, rfl, Vals.none _ _, HD.out.2⟩
    | true =>
      obtain ⟨y, rfl⟩ : ∃ y, x = some y := by cases x; simp at hi; exact ⟨_, rfl⟩
      simp only [Option.getD_some] at hZ
      subst hZ
      have ka : Keep [] wc (wc.alloc (.cells #[.int .i64 x0, .int .i64 x1, .int .u64 x2, .int .u64 x3, .int .i64 x4] 26)) := Keep.alloc _ _
      have HO := Lib.hid (owns_kept hown (hK2.trans ka))
      have HE := Lib.hid (And.intro hnext (And.intro hLl (hK1.trans (hK2.trans ka))))
      have HNW := Lib.hid (five_new wc x0 x1 x2 x3 x4 26)
      have hsz : w1.heap.size ≤ wc.heap.size := (hK1.trans hK2).size
      have d0 := (hBg.cell 0).trans (show _ = some (Value.int .i64 x0) from rfl)
      have d1 := (hBg.cell 1).trans (show _ = some (Value.int .i64 x1) from rfl)
      have d2 := (hBg.cell 2).trans (show _ = some (Value.int .u64 x2) from rfl)
      have d3 := (hBg.cell 3).trans (show _ = some (Value.int .u64 x3) from rfl)
      have d4 := (hBg.cell 4).trans (show _ = some (Value.int .i64 x4) from rfl)
      clear hnext hstop hown hi hBg hK2 hK1 KK cK cA HQW HOF HEN HVO HX HH ka
      obtain ⟨ii, hii, hz0, hz1, hz2⟩ := info_of valpart5
      go_wp2_with (at_builtin; refine wpList_append_own_at _ rfl (.tmp 35) (.tmp 37) 23 rfl w1.heap.size 26 ii (.agg #[.int .i64 0, .int .i64 0, .int .u64 0, .int .u64 0, .int .i64 0]) 5 40 Try.underlying23 hii hz0 hz1 hz2 rfl (by omega) v L.length (rowV L) rfl HO.out ⟨wc.heap.size, 0, none⟩ 1 1 (cellsV ⟨x0, x1, x2, x3, x4⟩) rfl ?c1 HNW.out ?c3 ?c4 ?c5 ?c6 ?_)
      case c1 => rfl
      case c3 => intro z hz; simp [cellsV] at hz; rcases hz with rfl | rfl | rfl | rfl | rfl <;> rfl
      case c4 => have := HE.out.2.1; unfold maxLen; omega
      case c5 => have := HE.out.2.1; omega
      case c6 => simp; omega
      intro v' w'' hown2 hgrow _ _
      have hk2 := grown_keep HE.out.2.2 (Nat.le_refl _) HO.out hgrow
      rw [← rowV_snoc] at hown2
      have hown3 : w''.ownsRow w1.heap.size 26 5 v' (L ++ [(⟨x0, x1, x2, x3, x4⟩ : Val)]).length (rowV (L ++ [(⟨x0, x1, x2, x3, x4⟩ : Val)])) := by
        rw [HS1.out, List.length_append, HE.out.2.1]
        exact hown2
      have HF := Lib.hid (And.intro hown3 (And.intro hk2 HE.out.1))
      clear hown2 hown3 hk2 hgrow
      go_wp2_with fail
      go_step3
      apply jump_goto
      refine ⟨⟨j + 1, L ++ [(⟨x0, x1, x2, x3, x4⟩ : Val)], v', _, _, _, _, _, _, _, _, _, _, _, _, _, _, _, _, _, _, _, _, _, _, _, _, _, _, _, _, _, _, _, _, _, _, by go_num, by omega, HF.out.2.2, HF.out.1, HF.out.2.1⟩, ?_⟩
      simp [slotNat]
      omega
  · intro hfirst
    subst hw1
    go_wp2_with fail
    go_step3
    rename_i hK
    exact hK _ _ (hfirst _ _ ⟨0, [], _, _, _, _, _, _, _, _, _, _, _, _, _, _, _, _, _, _, _, _, _, _, _, _, _, _, _, _, _, _, _, _, _, _, _, rfl, by omega, rfl, ⟨by simp [rowV], Or.inl ⟨rfl, rfl⟩⟩, Keep.refl _ _⟩)
end Go.Proofs.Ytbmnhngkmokklaa
