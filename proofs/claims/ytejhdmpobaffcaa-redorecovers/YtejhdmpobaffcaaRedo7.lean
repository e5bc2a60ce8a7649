/-
  Package redo: entry. No conditions but what a device is.
-/
import Derived.Test.YtejhdmpobaffcaaRedo6
namespace Go.Proofs.Ytejhdmpobaffcaa
open Go.RowKit Go.Flo
set_option maxRecDepth 100000

/-- No word is below 0. -/
def Wd (S : St) : Prop := ∀ i, Pic (0 ≤ ·) S i

/-- The entries that stand in a log. -/
def logE (S : St) (f : Int) (j : Nat) : Ent := ⟨S.now (f.toNat + 8 + 2 * j), S.now (f.toNat + 8 + 2 * j + 1)⟩

def EntryPost (w : World) (a v x : Int) (e : Ending) (w' : World) : Prop := e = .returned (.tuple #[.agg #[.int .i64 a, .int .u64 v], .int .i64 x]) ∧ Keep [] w w'

set_option maxHeartbeats 8000000 in
theorem entry_any (w : World) (L : Loc) (S : St) (h : Dev w L S) (hW : Wd S) (f t : Int) (f0 : 0 ≤ f) (f1 : f < t) (t1 : t ≤ S.n) (i : Nat) (hi' : f + 8 + 2 * i + 1 < t) (ho : S.off = false) :
    Calls Try.prog 71 #[.agg #[.pointer (some ⟨L.d, 0, none⟩), .int .i64 f, .int .i64 t], .int .i64 i] w (if okB S.n f t (logE S f i).a = true then EntryPost w (logE S f i).a (logE S f i).v 0 else EntryPost w 0 0 8) := by
  have k0 : Keep [] w ((w.alloc (.cells #[.pointer (some ⟨L.d, 0, none⟩), .int .i64 f, .int .i64 t] 73)).alloc (.cells #[.int .i64 0, .int .u64 0] 46)) := (Keep.alloc _ _).trans (Keep.alloc _ _)
  have hn := h.n
  have hbx := fun W (hk : Keep [] ((w.alloc (.cells #[.pointer (some ⟨L.d, 0, none⟩), .int .i64 f, .int .i64 t] 73)).alloc (.cells #[.int .i64 0, .int .u64 0] 46)) W) => box3 (w := w) (W := w.alloc (.cells #[.pointer (some ⟨L.d, 0, none⟩), .int .i64 f, .int .i64 t] 73)) (W' := W) (own := []) rfl ((Keep.alloc _ _).trans hk) (by simp)
  have hrs := fun W (hk : Keep [] ((w.alloc (.cells #[.pointer (some ⟨L.d, 0, none⟩), .int .i64 f, .int .i64 t] 73)).alloc (.cells #[.int .i64 0, .int .u64 0] 46)) W) => (Blk.new (w.alloc (.cells #[.pointer (some ⟨L.d, 0, none⟩), .int .i64 f, .int .i64 t] 73)) 46 #[.int .i64 0, .int .u64 0]).keep hk (by simp)
  have hsz : (w.alloc (.cells #[.pointer (some ⟨L.d, 0, none⟩), .int .i64 f, .int .i64 t] 73)).heap.size = w.heap.size + 1 := by simp
  rw [hsz] at hrs
  have HBX := Lib.hid hbx
  have HRS := Lib.hid hrs
  have hp := fun W => place_any W L f t i f0 (by omega) (by omega)
  have hl1 := fun W (hk : Keep [] w W) => load_there W L S (h.keep hk (by simp)) (f + 8 + 2 * i) (by omega) (by omega)
  have hl2 := fun W (hk : Keep [] w W) => load_there W L S (h.keep hk (by simp)) (f + 8 + 2 * i + 1) (by omega) (by omega)
  rw [ho] at hl1 hl2
  simp only [Bool.false_eq_true, if_false] at hl1 hl2
  have e1 : S.now (f + 8 + 2 * (i : Int)).toNat = (logE S f i).a := by unfold logE; congr 1; omega
  have e2 : S.now (f + 8 + 2 * (i : Int) + 1).toNat = (logE S f i).v := by unfold logE; congr 1; omega
  rw [e1] at hl1
  rw [e2] at hl2
  have hoth := fun W (hk : Keep [] w W) => other_any W L S (h.keep hk (by simp)) f t (logE S f i).a f0 f1 (by omega)
  have ha0 : 0 ≤ (logE S f i).a := (hW _).1
  have hx0 : 0 ≤ f + 8 + 2 * (i : Int) := by omega
  have hx1 : f + 8 + 2 * (i : Int) ≤ 70000 := by omega
  have hx2 : IntKind.i64.wrap (f + 8 + 2 * (i : Int) + 1) = f + 8 + 2 * (i : Int) + 1 := IntWalk.i64_in _ (by omega)
  have hok : okB S.n f t (logE S f i).a = true → (logE S f i).a ≤ 65536 := by intro h; simp [okB] at h; omega
  have HOK := Lib.hid hok
  have HP := Lib.hid hp
  have H1 := Lib.hid hl1
  have H2 := Lib.hid hl2
  have HO := Lib.hid hoth
  have HX := Lib.hid hx2
  clear hbx hrs hsz hp hl1 hl2 hoth e1 e2 hx2 h hW hok ho
  generalize (logE S f i).a = a at *
  generalize (logE S f i).v = v at *
  cases hb : okB S.n f t a
  · rw [hb] at HO HOK
    simp only [Bool.false_eq_true, if_false]
    clear hb
    go_enter Try.func71, Try.ntmps71
    go_wp2_with fail
    generalize (w.alloc (.cells #[.pointer (some ⟨L.d, 0, none⟩), .int .i64 f, .int .i64 t] 73)).alloc (.cells #[.int .i64 0, .int .u64 0] 46) = wa at *
    obtain ⟨b0, b1, b2, b3⟩ := HBX.out wa (Keep.refl _ _)
    go_region_held3 (fun w' => w'.cell? ⟨w.heap.size, 0, none⟩ = some (.pointer (some ⟨L.d, 0, none⟩)) ∧ w'.cell? ⟨w.heap.size, 1, none⟩ = some (.int .i64 f) ∧ w'.cell? ⟨w.heap.size, 2, none⟩ = some (.int .i64 t)) (first | exact ⟨kk0, kk1, kk2⟩ | go_keep) (first | (go_at_call 72; refine (HP.out _).mono ?_; rintro e w2 ⟨rfl, hK2⟩; have kk0 := kcell hK2 (b := w.heap.size) (o := 0) (v := .pointer (some ⟨L.d, 0, none⟩)) (by simp_all) (by simp); have kk1 := kcell hK2 (b := w.heap.size) (o := 1) (v := .int .i64 f) (by simp_all) (by simp); have kk2 := kcell hK2 (b := w.heap.size) (o := 2) (v := .int .i64 t) (by simp_all) (by simp)) | (go_at_call 31; refine (H1.out _ (by repeat (first | (with_reducible exact k0) | (with_reducible refine Keep.trans ?_ (Keep.drew _)) | (refine Keep.trans ?_ (by assumption))))).mono ?_; rintro e w3 ⟨rfl, rfl⟩))
    all_goals
      go_wp2_with fail
      (with_reducible refine (HO.out _ (by repeat (first | (with_reducible exact k0) | (with_reducible refine Keep.trans ?_ (Keep.drew _)) | (refine Keep.trans ?_ (by assumption))))).mono ?_)
      rintro e w4 ⟨rfl, hK4⟩
      have hKa : Keep [] wa w4 := by repeat (first | (with_reducible exact Keep.refl _ _) | (with_reducible refine Keep.trans ?_ (Keep.drew _)) | (refine Keep.trans ?_ (by assumption)))
      have hr := HRS.out w4 hKa
      have r0 := (hr.cell 0).trans rfl
      have r1 := (hr.cell 1).trans rfl
      have rz := hr.frozen
      have kf : Keep [] w ((w4.setCell ⟨w.heap.size + 1, 0, none⟩ (.int .i64 0)).setCell ⟨w.heap.size + 1, 1, none⟩ (.int .u64 0)) := (k0.trans hKa).into (own' := [w.heap.size + 1]) ((Keep.setCell _ _ (by simp) _).trans (Keep.setCell _ _ (by simp) _)) (by simp)
      clear kk0 kk1 kk2 b0 b1 b2 b3
      go_wp2_with fail
      exact bodyPost_ret (v := .tuple #[.agg #[.int .i64 0, .int .u64 0], .int .i64 8]) (by simp [results, Try.results71, go_sem, r0, r1]) rfl ⟨rfl, kf⟩
  · rw [hb] at HO HOK
    simp only [if_true]
    have hle := HOK.out rfl
    have ha1 : IntKind.i64.wrap a = a := IntWalk.i64_in _ (by omega)
    have HA1 := Lib.hid ha1
    clear hb ha1 HOK
    go_enter Try.func71, Try.ntmps71
    go_wp2_with fail
    generalize (w.alloc (.cells #[.pointer (some ⟨L.d, 0, none⟩), .int .i64 f, .int .i64 t] 73)).alloc (.cells #[.int .i64 0, .int .u64 0] 46) = wa at *
    obtain ⟨b0, b1, b2, b3⟩ := HBX.out wa (Keep.refl _ _)
    go_region_held3 (fun w' => w'.cell? ⟨w.heap.size, 0, none⟩ = some (.pointer (some ⟨L.d, 0, none⟩)) ∧ w'.cell? ⟨w.heap.size, 1, none⟩ = some (.int .i64 f) ∧ w'.cell? ⟨w.heap.size, 2, none⟩ = some (.int .i64 t)) (first | exact ⟨kk0, kk1, kk2⟩ | go_keep) (first | (go_at_call 72; refine (HP.out _).mono ?_; rintro e w2 ⟨rfl, hK2⟩; have kk0 := kcell hK2 (b := w.heap.size) (o := 0) (v := .pointer (some ⟨L.d, 0, none⟩)) (by simp_all) (by simp); have kk1 := kcell hK2 (b := w.heap.size) (o := 1) (v := .int .i64 f) (by simp_all) (by simp); have kk2 := kcell hK2 (b := w.heap.size) (o := 2) (v := .int .i64 t) (by simp_all) (by simp)) | (go_at_call 31; refine (H1.out _ (by repeat (first | (with_reducible exact k0) | (with_reducible refine Keep.trans ?_ (Keep.drew _)) | (refine Keep.trans ?_ (by assumption))))).mono ?_; rintro e w3 ⟨rfl, rfl⟩))
    all_goals
      go_wp2_with fail
      (with_reducible refine (HO.out _ (by repeat (first | (with_reducible exact k0) | (with_reducible refine Keep.trans ?_ (Keep.drew _)) | (refine Keep.trans ?_ (by assumption))))).mono ?_)
      rintro e w4 ⟨rfl, hK4⟩
      have hKa : Keep [] wa w4 := by repeat (first | (with_reducible exact Keep.refl _ _) | (with_reducible refine Keep.trans ?_ (Keep.drew _)) | (refine Keep.trans ?_ (by assumption)))
      obtain ⟨b0, b1, b2, b3⟩ := HBX.out w4 hKa
      have k4 := k0.trans hKa
      clear kk0 kk1 kk2 k0 hK2 hK4
      have k0 := k4
      have hx2 := HX.out
      go_wp2_with fail
      go_region_held3 (fun w' => w'.cell? ⟨w.heap.size, 0, none⟩ = some (.pointer (some ⟨L.d, 0, none⟩)) ∧ w'.cell? ⟨w.heap.size, 1, none⟩ = some (.int .i64 f) ∧ w'.cell? ⟨w.heap.size, 2, none⟩ = some (.int .i64 t)) (first | exact ⟨mm0, mm1, mm2⟩ | go_keep) (first | (go_at_call 72; refine (HP.out _).mono ?_; rintro e w5 ⟨rfl, hK5⟩; have mm0 := kcell hK5 (b := w.heap.size) (o := 0) (v := .pointer (some ⟨L.d, 0, none⟩)) (by simp_all) (by simp); have mm1 := kcell hK5 (b := w.heap.size) (o := 1) (v := .int .i64 f) (by simp_all) (by simp); have mm2 := kcell hK5 (b := w.heap.size) (o := 2) (v := .int .i64 t) (by simp_all) (by simp)) | (go_at_call 31; refine (H2.out _ (by repeat (first | (with_reducible exact k0) | (with_reducible refine Keep.trans ?_ (Keep.drew _)) | (refine Keep.trans ?_ (by assumption))))).mono ?_; rintro e w6 ⟨rfl, rfl⟩))
      all_goals
        have hKb : Keep [] w4 w5 := by repeat (first | (with_reducible exact Keep.refl _ _) | (with_reducible refine Keep.trans ?_ (Keep.drew _)) | (refine Keep.trans ?_ (by assumption)))
        have hr := HRS.out _ (hKa.trans hKb)
        have r0 := (hr.cell 0).trans rfl
        have r1 := (hr.cell 1).trans rfl
        have rz := hr.frozen
        have ha1 := HA1.out
        have kf : Keep [] w ((w5.setCell ⟨w.heap.size + 1, 0, none⟩ (.int .i64 a)).setCell ⟨w.heap.size + 1, 1, none⟩ (.int .u64 v)) := (k0.trans hKb).into (own' := [w.heap.size + 1]) ((Keep.setCell _ _ (by simp) _).trans (Keep.setCell _ _ (by simp) _)) (by simp)
        clear hx2 mm0 mm1 mm2 b0 b1 b2 b3
        go_wp2_with fail
        exact bodyPost_ret (v := .tuple #[.agg #[.int .i64 a, .int .u64 v], .int .i64 0]) (by simp [results, Try.results71, go_sem, r0, r1]) rfl ⟨rfl, kf⟩
end Go.Proofs.Ytejhdmpobaffcaa
