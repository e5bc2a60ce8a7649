/-
  A call to both devices (scullionlaw3.do). No conditions but what the devices are, and that few steps are counted.
-/
import Derived.Test.YtjicfjnkammmcaaRef5
import Derived.Test.YtjicfjnkammmcaaRef6
import Derived.Deep.RegionHeld3
namespace Go.Proofs.Ytjicfjnkammmcaa
open Go.RowKit Go.Flo
set_option linter.unusedVariables false

/-- What a call makes of a device. -/
def doS (S : St) (c : CallV) : St :=
  if c.d = 0 then storeS S c.t c.u else if c.d = 1 then flushS S c.t else if c.d = 2 then fenceS S else if c.d = 3 then evictS S c.t else if c.d = 4 then fuseS S c.t else if c.d = 5 then crashS S c.p else S

def DoPost (L : Loc) (T : TLoc) (D : List Nat) (S' : St) (w : World) (e : Ending) (w' : World) : Prop := e = .returned (.bool true) ∧ Dev w' L S' ∧ TwinE w' T D S' ∧ Keep (L.own ++ T.own) w w'

theorem TwinE.apart {w : World} {T : TLoc} {D : List Nat} {S : St} (h : TwinE w T D S) : ∀ k ∈ T.own, k ∉ D := by
  obtain ⟨X, fz, c, h⟩ := h
  intro k hk
  simp only [TLoc.own, List.mem_cons, List.not_mem_nil, or_false] at hk
  rcases hk with rfl | rfl
  · exact h.mD
  · exact h.lD
theorem TwinE.keepD {w w' : World} {T : TLoc} {D : List Nat} {S : St} {own : List Nat} (h : TwinE w T D S) (hk : Keep own w w') (ho : ∀ k ∈ own, k ∈ D) : TwinE w' T D S := by
  obtain ⟨X, fz, c, h⟩ := h
  exact ⟨X, fz, c, h.keep hk ho⟩
theorem TwinE.mlt {w : World} {T : TLoc} {D : List Nat} {S : St} (h : TwinE w T D S) : T.m < w.heap.size := by
  obtain ⟨X, fz, c, h⟩ := h
  exact h.blk.lt
theorem Pk.weaken {w : World} {own own' : List Nat} {A : Option Addr} {m c : Nat} {p : Nat → Int} (h : Pk w own A m c p) (ho : ∀ k ∈ own', k ∈ own) : Pk w own' A m c p :=
  ⟨h.mc, h.cap, h.lack, fun hm => by
    obtain ⟨ad, e, h1, h2, h3⟩ := h.cells hm
    exact ⟨ad, e, fun hi => h1 (ho _ hi), h2, h3⟩⟩
theorem Pk.keepO {w w' : World} {own own' : List Nat} {A : Option Addr} {m c : Nat} {p : Nat → Int} (h : Pk w own A m c p) (hk : Keep own' w w') (ho : ∀ k ∈ own', k ∈ own) : Pk w' own A m c p := h.keep (hk.mono (fun k _ hm => ho k hm))

/-- Both have been turned, one behind the other. -/
theorem both {w W w1 w2 : World} {L : Loc} {T : TLoc} {D : List Nat} {S' : St} (hLD : ∀ k ∈ L.own, k ∈ D) (hk : Keep [] w W) (hD : Dev w1 L S') (hK1 : Keep L.own W w1) (hT : TwinE w2 T D S') (hK2 : Keep T.own w1 w2) : Dev w2 L S' ∧ TwinE w2 T D S' ∧ Keep (L.own ++ T.own) w w2 :=
  ⟨hD.keep hK2 (fun k hk' hm => hT.apart k hk' (hLD k hm)), hT, (hk.of_nil.trans (hK1.mono (fun k _ hm => List.mem_append_left _ hm))).trans (hK2.mono (fun k _ hm => List.mem_append_right _ hm))⟩

theorem box_cell {w W : World} {cs : Array Value} {t : TypeId} (hW : W.heap = (w.alloc (.cells cs t)).heap) {k : Nat} {v : Value} (hv : cs[k]? = some v) : W.cell? ⟨w.heap.size, k, none⟩ = some v := by
  have h : Blk W w.heap.size t cs := by
    unfold Blk
    rw [hW]
    exact heap_alloc_new w _
  exact (h.cell k).trans hv

/-- The box of the call is kept. -/
theorem box_keep {w W W' : World} {own : List Nat} (hk : Keep own W W') (hs : w.heap.size < W.heap.size) (hB : w.heap.size ∉ own) {k : Nat} {v : Value} (hv : W.cell? ⟨w.heap.size, k, none⟩ = some v) : W'.cell? ⟨w.heap.size, k, none⟩ = some v :=
  (hk.cell (p := ⟨w.heap.size, k, none⟩) hs hB).trans hv

set_option maxHeartbeats 4000000 in
theorem do_0 (w : World) (L : Loc) (T : TLoc) (D : List Nat) (hLD : ∀ k ∈ L.own, k ∈ D) (S : St) (hD : Dev w L S) (hT : TwinE w T D S) (hTo : ∀ k ∈ T.own, k < w.heap.size) (c : CallV) (s0 : 0 ≤ S.steps) (s1 : S.steps < 1000000) (hd : c.d = 0) :
    Calls Try.prog 13 #[.pointer (some ⟨L.d, 0, none⟩), .pointer (some ⟨T.m, 0, none⟩), .agg #[.int .i64 c.d, .int .i64 c.t, .int .u64 c.u, .slice c.pa c.pl c.pc]] w (DoPost L T D (storeS S c.t c.u) w) := by
  rw [hd]
  have hdc : ∀ W, Keep [] w W → Calls Try.prog 21 #[.pointer (some ⟨L.d, 0, none⟩), .int .i64 c.t, .int .u64 c.u] W (Did L (storeS S c.t c.u) W (.int .i64 (ans (stepS S).off (hasB S.n c.t)))) := fun W k => store_any W L S (hD.keep k (by simp)) c.t c.u s0 s1
  have htc : ∀ W, Keep L.own w W → Calls Try.prog 32 #[.pointer (some ⟨T.m, 0, none⟩), .int .i64 c.t, .int .u64 c.u] W (TDid T D (storeS S c.t c.u) W (.int .i64 (ans (stepS S).off (hasB S.n c.t)))) := fun W k => rstore_any W T D S (hT.keepD k hLD) c.t c.u s0 s1
  have hB : w.heap.size ∉ L.own := fun hm => by have := hD.lt _ hm; omega
  have hTB : w.heap.size ∉ T.own := fun hm => by have := hTo _ hm; omega
  have HDC := Lib.hid hdc
  have HTC := Lib.hid htc
  have HB := Lib.hid hB
  have HTB := Lib.hid hTB
  clear hdc htc hB hD hT s0 s1 hd hTB hTo
  generalize storeS S c.t c.u = S' at *
  generalize ans (stepS S).off (hasB S.n c.t) = V at *
  go_enter Try.func13, Try.ntmps13
  go_wp2_with fail
  go_region_held3 (fun w' => w'.cell? ⟨w.heap.size, 1, none⟩ = some (.int .i64 c.t) ∧ w'.cell? ⟨w.heap.size, 2, none⟩ = some (.int .u64 c.u)) (first | exact ⟨ll1, ll2⟩ | exact ⟨kk1, kk2⟩ | go_keep)
    (first | (go_at_call 21; refine (HDC.out _ (by repeat (first | (with_reducible exact Keep.refl _ _) | (with_reducible refine Keep.trans ?_ (Keep.alloc _ _)) | (with_reducible refine Keep.trans ?_ (Keep.drew _)) | (refine Keep.trans ?_ (by assumption))))).mono ?_; rintro e w1 ⟨rfl, hD1, hK1⟩; have kk1 := box_keep hK1 (by simp) HB.out (box_cell (w := w) (cs := #[.int .i64 0, .int .i64 c.t, .int .u64 c.u, .slice c.pa c.pl c.pc]) (t := 31) rfl (k := 1) rfl); have kk2 := box_keep hK1 (by simp) HB.out (box_cell (w := w) (cs := #[.int .i64 0, .int .i64 c.t, .int .u64 c.u, .slice c.pa c.pl c.pc]) (t := 31) rfl (k := 2) rfl)) | (go_at_call 32; refine (HTC.out _ (by repeat (first | (with_reducible exact Keep.refl _ _) | (with_reducible refine Keep.trans ?_ (Keep.alloc _ _)) | (with_reducible refine Keep.trans ?_ (Keep.drew _)) | (refine Keep.trans ?_ (by assumption))))).mono ?_; rintro e w2 ⟨rfl, hT2, hK2⟩; have ll1 := box_keep hK2 (Nat.lt_of_lt_of_le (by simp) hK1.size) HTB.out kk1; have ll2 := box_keep hK2 (Nat.lt_of_lt_of_le (by simp) hK1.size) HTB.out kk2))
  all_goals
    go_wp2
    go_ret
    obtain ⟨e1, e2, e3⟩ := both (w := w) hLD (by repeat (first | (with_reducible exact Keep.refl _ _) | (with_reducible refine Keep.trans ?_ (Keep.alloc _ _)) | (with_reducible refine Keep.trans ?_ (Keep.drew _)) | (refine Keep.trans ?_ (by assumption)))) hD1 hK1 hT2 hK2
    exact ⟨by simp, e1, e2, e3⟩

set_option maxHeartbeats 4000000 in
theorem do_1 (w : World) (L : Loc) (T : TLoc) (D : List Nat) (hLD : ∀ k ∈ L.own, k ∈ D) (S : St) (hD : Dev w L S) (hT : TwinE w T D S) (hTo : ∀ k ∈ T.own, k < w.heap.size) (c : CallV) (s0 : 0 ≤ S.steps) (s1 : S.steps < 1000000) (hd : c.d = 1) :
    Calls Try.prog 13 #[.pointer (some ⟨L.d, 0, none⟩), .pointer (some ⟨T.m, 0, none⟩), .agg #[.int .i64 c.d, .int .i64 c.t, .int .u64 c.u, .slice c.pa c.pl c.pc]] w (DoPost L T D (flushS S c.t) w) := by
  rw [hd]
  have hdc : ∀ W, Keep [] w W → Calls Try.prog 22 #[.pointer (some ⟨L.d, 0, none⟩), .int .i64 c.t] W (Did L (flushS S c.t) W (.int .i64 (ans (stepS S).off (hasB S.n c.t)))) := fun W k => flush_any W L S (hD.keep k (by simp)) c.t s0 s1
  have htc : ∀ W, Keep L.own w W → Calls Try.prog 33 #[.pointer (some ⟨T.m, 0, none⟩), .int .i64 c.t] W (TDid T D (flushS S c.t) W (.int .i64 (ans (stepS S).off (hasB S.n c.t)))) := fun W k => rflush_any W T D S (hT.keepD k hLD) c.t s0 s1
  have hB : w.heap.size ∉ L.own := fun hm => by have := hD.lt _ hm; omega
  have hTB : w.heap.size ∉ T.own := fun hm => by have := hTo _ hm; omega
  have HDC := Lib.hid hdc
  have HTC := Lib.hid htc
  have HB := Lib.hid hB
  have HTB := Lib.hid hTB
  clear hdc htc hB hD hT s0 s1 hd hTB hTo
  generalize flushS S c.t = S' at *
  generalize ans (stepS S).off (hasB S.n c.t) = V at *
  go_enter Try.func13, Try.ntmps13
  go_wp2_with fail
  go_region_held3 (fun w' => w'.cell? ⟨w.heap.size, 1, none⟩ = some (.int .i64 c.t)) (first | exact ll1 | exact kk1 | go_keep)
    (first | (go_at_call 22; refine (HDC.out _ (by repeat (first | (with_reducible exact Keep.refl _ _) | (with_reducible refine Keep.trans ?_ (Keep.alloc _ _)) | (with_reducible refine Keep.trans ?_ (Keep.drew _)) | (refine Keep.trans ?_ (by assumption))))).mono ?_; rintro e w1 ⟨rfl, hD1, hK1⟩; have kk1 := box_keep hK1 (by simp) HB.out (box_cell (w := w) (cs := #[.int .i64 1, .int .i64 c.t, .int .u64 c.u, .slice c.pa c.pl c.pc]) (t := 31) rfl (k := 1) rfl)) | (go_at_call 33; refine (HTC.out _ (by repeat (first | (with_reducible exact Keep.refl _ _) | (with_reducible refine Keep.trans ?_ (Keep.alloc _ _)) | (with_reducible refine Keep.trans ?_ (Keep.drew _)) | (refine Keep.trans ?_ (by assumption))))).mono ?_; rintro e w2 ⟨rfl, hT2, hK2⟩; have ll1 := box_keep hK2 (Nat.lt_of_lt_of_le (by simp) hK1.size) HTB.out kk1))
  all_goals
    go_wp2
    go_ret
    obtain ⟨e1, e2, e3⟩ := both (w := w) hLD (by repeat (first | (with_reducible exact Keep.refl _ _) | (with_reducible refine Keep.trans ?_ (Keep.alloc _ _)) | (with_reducible refine Keep.trans ?_ (Keep.drew _)) | (refine Keep.trans ?_ (by assumption)))) hD1 hK1 hT2 hK2
    exact ⟨by simp, e1, e2, e3⟩

set_option maxHeartbeats 4000000 in
theorem do_3 (w : World) (L : Loc) (T : TLoc) (D : List Nat) (hLD : ∀ k ∈ L.own, k ∈ D) (S : St) (hD : Dev w L S) (hT : TwinE w T D S) (hTo : ∀ k ∈ T.own, k < w.heap.size) (c : CallV) (s0 : 0 ≤ S.steps) (s1 : S.steps < 1000000) (hd : c.d = 3) :
    Calls Try.prog 13 #[.pointer (some ⟨L.d, 0, none⟩), .pointer (some ⟨T.m, 0, none⟩), .agg #[.int .i64 c.d, .int .i64 c.t, .int .u64 c.u, .slice c.pa c.pl c.pc]] w (DoPost L T D (evictS S c.t) w) := by
  rw [hd]
  have hdc : ∀ W, Keep [] w W → Calls Try.prog 25 #[.pointer (some ⟨L.d, 0, none⟩), .int .i64 c.t] W (Did L (evictS S c.t) W (.bool (lineB S c.t && dirtyB S c.t.toNat))) := fun W k => evict_any W L S (hD.keep k (by simp)) c.t
  have htc : ∀ W, Keep L.own w W → Calls Try.prog 35 #[.pointer (some ⟨T.m, 0, none⟩), .int .i64 c.t] W (TDid T D (evictS S c.t) W (.bool (lineB S c.t && dirtyB S c.t.toNat))) := fun W k => revict_any W T D S (hT.keepD k hLD) c.t
  have hB : w.heap.size ∉ L.own := fun hm => by have := hD.lt _ hm; omega
  have hTB : w.heap.size ∉ T.own := fun hm => by have := hTo _ hm; omega
  have HDC := Lib.hid hdc
  have HTC := Lib.hid htc
  have HB := Lib.hid hB
  have HTB := Lib.hid hTB
  clear hdc htc hB hD hT s0 s1 hd hTB hTo
  generalize evictS S c.t = S' at *
  generalize (lineB S c.t && dirtyB S c.t.toNat) = V at *
  go_enter Try.func13, Try.ntmps13
  go_wp2_with fail
  go_region_held3 (fun w' => w'.cell? ⟨w.heap.size, 1, none⟩ = some (.int .i64 c.t)) (first | exact ll1 | exact kk1 | go_keep)
    (first | (go_at_call 25; refine (HDC.out _ (by repeat (first | (with_reducible exact Keep.refl _ _) | (with_reducible refine Keep.trans ?_ (Keep.alloc _ _)) | (with_reducible refine Keep.trans ?_ (Keep.drew _)) | (refine Keep.trans ?_ (by assumption))))).mono ?_; rintro e w1 ⟨rfl, hD1, hK1⟩; have kk1 := box_keep hK1 (by simp) HB.out (box_cell (w := w) (cs := #[.int .i64 3, .int .i64 c.t, .int .u64 c.u, .slice c.pa c.pl c.pc]) (t := 31) rfl (k := 1) rfl)) | (go_at_call 35; refine (HTC.out _ (by repeat (first | (with_reducible exact Keep.refl _ _) | (with_reducible refine Keep.trans ?_ (Keep.alloc _ _)) | (with_reducible refine Keep.trans ?_ (Keep.drew _)) | (refine Keep.trans ?_ (by assumption))))).mono ?_; rintro e w2 ⟨rfl, hT2, hK2⟩; have ll1 := box_keep hK2 (Nat.lt_of_lt_of_le (by simp) hK1.size) HTB.out kk1))
  all_goals
    go_wp2
    go_ret
    obtain ⟨e1, e2, e3⟩ := both (w := w) hLD (by repeat (first | (with_reducible exact Keep.refl _ _) | (with_reducible refine Keep.trans ?_ (Keep.alloc _ _)) | (with_reducible refine Keep.trans ?_ (Keep.drew _)) | (refine Keep.trans ?_ (by assumption)))) hD1 hK1 hT2 hK2
    exact ⟨by simp, e1, e2, e3⟩

set_option maxHeartbeats 4000000 in
theorem do_2 (w : World) (L : Loc) (T : TLoc) (D : List Nat) (hLD : ∀ k ∈ L.own, k ∈ D) (S : St) (hD : Dev w L S) (hT : TwinE w T D S) (hTo : ∀ k ∈ T.own, k < w.heap.size) (c : CallV) (s0 : 0 ≤ S.steps) (s1 : S.steps < 1000000) (hd : c.d = 2) :
    Calls Try.prog 13 #[.pointer (some ⟨L.d, 0, none⟩), .pointer (some ⟨T.m, 0, none⟩), .agg #[.int .i64 c.d, .int .i64 c.t, .int .u64 c.u, .slice c.pa c.pl c.pc]] w (DoPost L T D (fenceS S) w) := by
  rw [hd]
  have k0 : Keep [] w (w.alloc (.cells #[.int .i64 2, .int .i64 c.t, .int .u64 c.u, .slice c.pa c.pl c.pc] 31)) := Keep.alloc _ _
  have hB : w.heap.size ∉ L.own := fun hm => by have := hD.lt _ hm; omega
  have h1 := fence_any (w.alloc (.cells #[.int .i64 2, .int .i64 c.t, .int .u64 c.u, .slice c.pa c.pl c.pc] 31)) L S (hD.keep k0 (by simp)) s0 s1
  have htc : ∀ W, Keep L.own w W → Calls Try.prog 34 #[.pointer (some ⟨T.m, 0, none⟩)] W (TDid T D (fenceS S) W (.int .i64 (ans (stepS S).off true))) := fun W k => rfence_any W T D S (hT.keepD k hLD) s0 s1
  have HTC := Lib.hid htc
  clear htc hD hT hTo hd s0 s1
  generalize fenceS S = S' at *
  generalize ans (stepS S).off true = V at *
  go_enter Try.func13, Try.ntmps13
  go_wp2_with fail
  (with_reducible refine h1.mono ?_)
  rintro e w1 ⟨rfl, hD1, hK1⟩
  have h2 := HTC.out w1 (k0.of_nil.trans hK1)
  clear h1
  go_wp2_with fail
  (with_reducible refine h2.mono ?_)
  rintro e w2 ⟨rfl, hT2, hK2⟩
  clear h2
  go_wp2
  go_ret
  obtain ⟨e1, e2, e3⟩ := both hLD k0 hD1 hK1 hT2 hK2
  exact ⟨by simp, e1, e2, e3⟩

set_option maxHeartbeats 4000000 in
theorem do_4 (w : World) (L : Loc) (T : TLoc) (D : List Nat) (hLD : ∀ k ∈ L.own, k ∈ D) (S : St) (hD : Dev w L S) (hT : TwinE w T D S) (hTo : ∀ k ∈ T.own, k < w.heap.size) (c : CallV) (ht0 : -9223372036854775808 ≤ c.t) (ht1 : c.t ≤ 9223372036854775807) (hd : c.d = 4) :
    Calls Try.prog 13 #[.pointer (some ⟨L.d, 0, none⟩), .pointer (some ⟨T.m, 0, none⟩), .agg #[.int .i64 c.d, .int .i64 c.t, .int .u64 c.u, .slice c.pa c.pl c.pc]] w (DoPost L T D (fuseS S c.t) w) := by
  rw [hd]
  have k0 : Keep [] w (w.alloc (.cells #[.int .i64 4, .int .i64 c.t, .int .u64 c.u, .slice c.pa c.pl c.pc] 31)) := Keep.alloc _ _
  have hB : w.heap.size ∉ L.own := fun hm => by have := hD.lt _ hm; omega
  have h1 := fuse_any (w.alloc (.cells #[.int .i64 4, .int .i64 c.t, .int .u64 c.u, .slice c.pa c.pl c.pc] 31)) L S (hD.keep k0 (by simp)) c.t ht1
  have hB1 := box_cell (w := w) (W := (w.alloc (.cells #[.int .i64 4, .int .i64 c.t, .int .u64 c.u, .slice c.pa c.pl c.pc] 31))) rfl (k := 1) (v := .int .i64 c.t) rfl
  have hT0 := hT
  have HT := Lib.hid hT0
  have HB := Lib.hid hB
  have hml := hT.mlt
  clear hT hD hTo hd hT0
  go_enter Try.func13, Try.ntmps13
  go_wp2_with fail
  (with_reducible refine h1.mono ?_)
  rintro e w1 ⟨rfl, hD1, hK1⟩
  have hK01 : Keep L.own w w1 := k0.of_nil.trans hK1
  obtain ⟨X, fz, cc, hTw⟩ := HT.out.keepD hK01 hLD
  have c1 := box_keep hK1 (by simp) HB.out hB1
  have m3 := hTw.c3
  have mz := hTw.z
  have fin : ∀ x : Int, x = max c.t 0 → Dev (w1.setCell ⟨T.m, 3, none⟩ (.int .i64 x)) L (fuseS S c.t) ∧ TwinE (w1.setCell ⟨T.m, 3, none⟩ (.int .i64 x)) T D (fuseS S c.t) ∧ Keep (L.own ++ T.own) w (w1.setCell ⟨T.m, 3, none⟩ (.int .i64 x)) := by
    intro x hx
    have hk : Keep T.own w1 (w1.setCell ⟨T.m, 3, none⟩ (.int .i64 x)) := Keep.setCell _ _ (by simp [TLoc.own]) _
    exact both hLD k0 hD1 hK1 ⟨X, x, cc, hTw.set3 x (max c.t 0) (by omega) (by omega) (fun _ => hx)⟩ hk
  have FIN := Lib.hid fin
  clear h1 fin hTw hB1
  by_cases hs : 0 < c.t
  · have hs' : (0 : Int) ≤ c.t := by omega
    go_wp2
    go_ret
    obtain ⟨e1, e2, e3⟩ := FIN.out c.t (by omega)
    exact ⟨rfl, e1, e2, e3⟩
  · have hs' : c.t ≤ 0 := by omega
    by_cases hz : c.t = 0
    · rw [hz] at c1
      obtain ⟨e1, e2, e3⟩ := FIN.out 0 (by omega)
      have E := Lib.hid (And.intro e1 (And.intro e2 e3))
      clear e1 e2 e3 hz
      go_wp2
      go_ret
      exact ⟨rfl, E.out.1, E.out.2.1, E.out.2.2⟩
    · have hlt : c.t < 0 := by omega
      clear hz
      go_wp2
      go_ret
      obtain ⟨e1, e2, e3⟩ := FIN.out 0 (by omega)
      exact ⟨rfl, e1, e2, e3⟩

set_option maxHeartbeats 4000000 in
theorem do_5 (w : World) (L : Loc) (T : TLoc) (D : List Nat) (hLD : ∀ k ∈ L.own, k ∈ D) (S : St) (hD : Dev w L S) (hT : TwinE w T D S) (hTo : ∀ k ∈ T.own, k < w.heap.size) (c : CallV) (hp : Pk w (L.own ++ T.own) c.pa c.pl c.pc c.p) (hpb : ∀ j, 0 ≤ c.p j ∧ c.p j < 256) (hd : c.d = 5) :
    Calls Try.prog 13 #[.pointer (some ⟨L.d, 0, none⟩), .pointer (some ⟨T.m, 0, none⟩), .agg #[.int .i64 c.d, .int .i64 c.t, .int .u64 c.u, .slice c.pa c.pl c.pc]] w (DoPost L T D (crashS S c.p) w) := by
  rw [hd]
  have k0 : Keep [] w (w.alloc (.cells #[.int .i64 5, .int .i64 c.t, .int .u64 c.u, .slice c.pa c.pl c.pc] 31)) := Keep.alloc _ _
  have hB : w.heap.size ∉ L.own := fun hm => by have := hD.lt _ hm; omega
  have h1 := crash_any (w.alloc (.cells #[.int .i64 5, .int .i64 c.t, .int .u64 c.u, .slice c.pa c.pl c.pc] 31)) L S (hD.keep k0 (by simp)) c.pa c.pl c.pc c.p ((hp.keepO k0 (by simp)).weaken (fun k hk => List.mem_append_left _ hk))
  have hB1 := box_cell (w := w) (W := (w.alloc (.cells #[.int .i64 5, .int .i64 c.t, .int .u64 c.u, .slice c.pa c.pl c.pc] 31))) rfl (k := 3) (v := .slice c.pa c.pl c.pc) rfl
  have htc : ∀ W, Keep L.own w W → Calls Try.prog 36 #[.pointer (some ⟨T.m, 0, none⟩), .slice c.pa c.pl c.pc] W (TDid T D (crashS S c.p) W (.tuple #[])) := fun W k => rcrash_any W T D S (hT.keepD k hLD) c.pa c.pl c.pc c.p ((hp.keepO k (fun k hk => List.mem_append_left _ hk)).weaken (fun k hk => List.mem_append_right _ hk)) hpb
  have HTC := Lib.hid htc
  have HB := Lib.hid hB
  clear htc hD hT hTo hd hp hpb
  generalize crashS S c.p = S' at *
  go_enter Try.func13, Try.ntmps13
  go_wp2_with fail
  (with_reducible refine h1.mono ?_)
  rintro e w1 ⟨rfl, hD1, hK1⟩
  have h2 := HTC.out w1 (k0.of_nil.trans hK1)
  have c1 := box_keep hK1 (by simp) HB.out hB1
  clear h1
  go_wp2_with fail
  (with_reducible refine h2.mono ?_)
  rintro e w2 ⟨rfl, hT2, hK2⟩
  clear h2
  go_wp2
  go_ret
  obtain ⟨e1, e2, e3⟩ := both hLD k0 hD1 hK1 hT2 hK2
  exact ⟨rfl, e1, e2, e3⟩

set_option maxHeartbeats 4000000 in
theorem do_load (w : World) (L : Loc) (T : TLoc) (D : List Nat) (hLD : ∀ k ∈ L.own, k ∈ D) (S : St) (hD : Dev w L S) (hT : TwinE w T D S) (c : CallV) (d0 : ¬ c.d = 0) (d1 : ¬ c.d = 1) (d2 : ¬ c.d = 2) (d3 : ¬ c.d = 3) (d4 : ¬ c.d = 4) (d5 : ¬ c.d = 5) :
    Calls Try.prog 13 #[.pointer (some ⟨L.d, 0, none⟩), .pointer (some ⟨T.m, 0, none⟩), .agg #[.int .i64 c.d, .int .i64 c.t, .int .u64 c.u, .slice c.pa c.pl c.pc]] w (DoPost L T D S w) := by
  have k0 : Keep [] w (w.alloc (.cells #[.int .i64 c.d, .int .i64 c.t, .int .u64 c.u, .slice c.pa c.pl c.pc] 31)) := Keep.alloc _ _
  have hD1 := hD.keep k0 (by simp)
  have hT1 := hT.keepE k0
  have h1 := load_any (w.alloc (.cells #[.int .i64 c.d, .int .i64 c.t, .int .u64 c.u, .slice c.pa c.pl c.pc] 31)) L S hD1 c.t
  have h2 := rload_any (w.alloc (.cells #[.int .i64 c.d, .int .i64 c.t, .int .u64 c.u, .slice c.pa c.pl c.pc] 31)) T D S hT1 c.t
  unfold LoadPost at h1 h2
  generalize loadV S c.t = V at *
  generalize ans S.off (hasB S.n c.t) = E at *
  have b0 : (c.d == 0) = false := beq_eq_false_iff_ne.2 d0
  have b1 : (c.d == 1) = false := beq_eq_false_iff_ne.2 d1
  have b2 : (c.d == 2) = false := beq_eq_false_iff_ne.2 d2
  have b3 : (c.d == 3) = false := beq_eq_false_iff_ne.2 d3
  have b4 : (c.d == 4) = false := beq_eq_false_iff_ne.2 d4
  have b5 : (c.d == 5) = false := beq_eq_false_iff_ne.2 d5
  have v1 : (V == V) = true := by simp
  have v2 : (E == E) = true := by simp
  clear d0 d1 d2 d3 d4 d5 hD hT
  go_enter Try.func13, Try.ntmps13
  go_wp2_with fail
  (with_reducible refine h1.mono ?_)
  rintro e w' ⟨rfl, rfl⟩
  go_wp2_with fail
  (with_reducible refine h2.mono ?_)
  rintro e w' ⟨rfl, rfl⟩
  go_wp2
  go_ret
  exact ⟨by simp, hD1, hT1, k0.of_nil⟩

/-- A call to both: each answer is the same, and both are turned alike. -/
theorem do_any (w : World) (L : Loc) (T : TLoc) (D : List Nat) (hLD : ∀ k ∈ L.own, k ∈ D) (S : St) (hD : Dev w L S) (hT : TwinE w T D S) (hTo : ∀ k ∈ T.own, k < w.heap.size) (c : CallV) (s0 : 0 ≤ S.steps) (s1 : S.steps < 1000000) (ht0 : -9223372036854775808 ≤ c.t) (ht1 : c.t ≤ 9223372036854775807)
    (hp : Pk w (L.own ++ T.own) c.pa c.pl c.pc c.p) (hpb : ∀ j, 0 ≤ c.p j ∧ c.p j < 256) :
    Calls Try.prog 13 #[.pointer (some ⟨L.d, 0, none⟩), .pointer (some ⟨T.m, 0, none⟩), .agg #[.int .i64 c.d, .int .i64 c.t, .int .u64 c.u, .slice c.pa c.pl c.pc]] w (DoPost L T D (doS S c) w) := by
  unfold doS
  by_cases d0 : c.d = 0
  · rw [if_pos d0]
    exact do_0 w L T D hLD S hD hT hTo c s0 s1 d0
  rw [if_neg d0]
  by_cases d1 : c.d = 1
  · rw [if_pos d1]
    exact do_1 w L T D hLD S hD hT hTo c s0 s1 d1
  rw [if_neg d1]
  by_cases d2 : c.d = 2
  · rw [if_pos d2]
    exact do_2 w L T D hLD S hD hT hTo c s0 s1 d2
  rw [if_neg d2]
  by_cases d3 : c.d = 3
  · rw [if_pos d3]
    exact do_3 w L T D hLD S hD hT hTo c s0 s1 d3
  rw [if_neg d3]
  by_cases d4 : c.d = 4
  · rw [if_pos d4]
    exact do_4 w L T D hLD S hD hT hTo c ht0 ht1 d4
  rw [if_neg d4]
  by_cases d5 : c.d = 5
  · rw [if_pos d5]
    exact do_5 w L T D hLD S hD hT hTo c hp hpb d5
  rw [if_neg d5]
  exact do_load w L T D hLD S hD hT c d0 d1 d2 d3 d4 d5

theorem doS_n (S : St) (c : CallV) : (doS S c).n = S.n := by
  unfold doS
  split
  · exact store_n _ _ _
  split
  · exact flush_n _ _
  split
  · unfold fenceS; split <;> rfl
  split
  · unfold evictS; split <;> rfl
  split
  · rfl
  split <;> rfl
theorem doS_steps (S : St) (c : CallV) : S.steps ≤ (doS S c).steps ∧ (doS S c).steps ≤ S.steps + 1 := by
  unfold doS
  split
  · rw [store_steps']; omega
  split
  · rw [flush_steps']; omega
  split
  · have : (fenceS S).steps = S.steps + 1 := by unfold fenceS; split <;> rfl
    omega
  split
  · have : (evictS S c.t).steps = S.steps := by unfold evictS; split <;> rfl
    omega
  split
  · have : (fuseS S c.t).steps = S.steps := rfl
    omega
  split
  · have : (crashS S c.p).steps = S.steps := rfl
    omega
  · omega
end Go.Proofs.Ytjicfjnkammmcaa
