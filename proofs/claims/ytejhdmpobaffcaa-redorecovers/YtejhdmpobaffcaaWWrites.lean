/-
  RedoWrites, walked. No conditions.
-/
import Derived.Test.YtejhdmpobaffcaaRWrite
import Derived.Test.YtejhdmpobaffcaaWBase
import Derived.Test.YtejhdmpobaffcaaRef5
import Derived.Deep.RegionWith
namespace Go.Proofs.Ytejhdmpobaffcaa
open Go.RowKit Go.Flo
set_option maxRecDepth 100000

/-- The picks that the law names. -/
def pk10 (j : Nat) : Int := ([1, 2, 0, 1, 3, 2, 1, 0, 2, 1] : List Int).getD j 0
theorem pk10_range (j : Nat) : 0 ≤ pk10 j ∧ pk10 j < 256 := by
  rcases Nat.lt_or_ge j 10 with h | h
  · have : ∀ k : Fin 10, 0 ≤ pk10 k.val ∧ pk10 k.val < 256 := by decide
    exact this ⟨j, h⟩
  · unfold pk10
    rw [List.getD_eq_getElem?_getD, List.getElem?_eq_none (by simpa using h)]
    simp
theorem pk10_lit (w : World) (own : List Nat) (ho : w.heap.size ∉ own) : Pk (w.alloc (.cells #[.int .u8 1, .int .u8 2, .int .u8 0, .int .u8 1, .int .u8 3, .int .u8 2, .int .u8 1, .int .u8 0, .int .u8 2, .int .u8 1] 5)) own (some ⟨w.heap.size, 0, none⟩) 10 10 pk10 := by
  have hB := Blk.new w 5 #[.int .u8 1, .int .u8 2, .int .u8 0, .int .u8 1, .int .u8 3, .int .u8 2, .int .u8 1, .int .u8 0, .int .u8 2, .int .u8 1]
  refine ⟨by omega, by omega, fun j hj => ?_, fun _ => ⟨_, rfl, ho, hB.lt, fun j hj => ?_⟩⟩
  · unfold pk10
    rw [List.getD_eq_getElem?_getD, List.getElem?_eq_none (by simpa using hj)]
    rfl
  · rw [addr_none, Nat.zero_add, hB.cell]
    have : ∀ k : Fin 10, (#[.int .u8 1, .int .u8 2, .int .u8 0, .int .u8 1, .int .u8 3, .int .u8 2, .int .u8 1, .int .u8 0, .int .u8 2, .int .u8 1] : Array Value)[k.val]? = some (.int .u8 (pk10 k.val)) := by
      intro k
      match k with
      | ⟨0, _⟩ => rfl
      | ⟨1, _⟩ => rfl
      | ⟨2, _⟩ => rfl
      | ⟨3, _⟩ => rfl
      | ⟨4, _⟩ => rfl
      | ⟨5, _⟩ => rfl
      | ⟨6, _⟩ => rfl
      | ⟨7, _⟩ => rfl
      | ⟨8, _⟩ => rfl
      | ⟨9, _⟩ => rfl
    exact this ⟨j, hj⟩

theorem TwinE.fused {w : World} {T : TLoc} {D : List Nat} {S : St} (h : TwinE w T D S) (x : Int) (h0 : 0 < x) (h1 : x ≤ 9223372036854775807) : TwinE (w.setCell ⟨T.m, 3, none⟩ (.int .i64 x)) T D (fuseS S x) := by
  obtain ⟨X, fz, c, h⟩ := h
  have := h.set3 x x (by omega) h1 (fun _ => rfl)
  refine ⟨X, x, c, ?_⟩
  unfold fuseS
  rw [show max x 0 = x by omega]
  exact this
theorem TwinE.cells {w : World} {T : TLoc} {D : List Nat} {S : St} (h : TwinE w T D S) : w.cell? ⟨T.m, 2, none⟩ = some (.int .i64 S.steps) ∧ w.cell? ⟨T.m, 4, none⟩ = some (.bool S.off) ∧ w.frozen? ⟨T.m, 3, none⟩ = false ∧ ∃ fz, w.cell? ⟨T.m, 3, none⟩ = some (.int .i64 fz) := by
  obtain ⟨X, fz, c, h⟩ := h
  exact ⟨h.c2, h.c4, h.z 3, fz, h.c3⟩

/-- SameWords of a device's words and those of the document's. -/
theorem same_ref (w : World) (B g n cap : Nat) (v : Value) (a : Nat → Int) (hn : n ≤ 65536) (ha : Row w 44 g n cap (u64 a)) (hb : w.ownsRow B 44 1 v n (rowR n a)) :
    Calls Try.prog 23 #[.slice (some ⟨g, 0, none⟩) n cap, v] w fun e w' => e = .returned (.bool true) ∧ Keep [] w w' := by
  rcases Nat.eq_zero_or_pos n with h0 | h0
  · subst h0
    rcases id hb.2 with ⟨rfl, _⟩ | ⟨g', cap', cur, rfl, _⟩
    · exact (same_none w _ _ _ _).mono (fun _ _ ⟨a, b⟩ => ⟨a, Keep.dr b⟩)
    · exact (same_none w _ _ _ _).mono (fun _ _ ⟨a, b⟩ => ⟨a, Keep.dr b⟩)
  · obtain ⟨g', cap', rfl, hR, _⟩ := rowR_row hb h0
    exact (same_rows w 44 44 g n cap g' cap' a a hn ha hR (fun _ _ => rfl)).mono (fun _ _ ⟨a, b⟩ => ⟨a, Keep.dr b⟩)

theorem write_len {S : St} {f t : Int} {E : Nat → Ent} {n : Nat} (hn : n ≤ 60) : S.steps ≤ (writeR S f t E n).1.steps ∧ (writeR S f t E n).1.steps ≤ S.steps + 1000 ∧ (writeR S f t E n).1.n = S.n := by
  have h1 := play_steps S (wrOps f E n)
  have h2 := wrOps_len f E n
  have h3 := doFl_len E n
  have h4 := play_n S (wrOps f E n)
  unfold writeR
  repeat' split
  all_goals first | exact ⟨by dsimp only; omega, by dsimp only; omega, rfl⟩ | exact ⟨h1.1, by omega, h4⟩

set_option maxHeartbeats 8000000 in
theorem walk_writes (w : World) (A0 : Option Addr) (n0 cap0 : Nat) (F : Nat → Int) (hW : Wds w A0 n0 cap0 F) (f t : Int) (A1 : Option Addr) (n1 cap1 : Nat) (E : Nat → Ent) (hE : Ents w [] A1 n1 cap1 E) (hEB : EB E n1) (fu : Int) (hfu1 : fu ≤ 9223372036854775807) :
    Calls Try.prog 4 #[.slice A0 n0 cap0, .int .i64 f, .int .i64 t, .slice A1 n1 cap1, .int .i64 fu] w fun e w' => e = .returned (.bool true) ∧ Keep [] w w' := by
  have hcap0 := hW.cap
  have hnc0 := hW.nc
  have hcap1 := hE.cap
  have hnc1 := hE.nc
  have haw := awake_any w
  by_cases hg : 120 < n0 ∨ 60 < n1
  · by_cases h1 : 120 < n0
    · have h1' : (120 : Int) < (n0 : Int) := by omega
      go_enter Try.func4, Try.ntmps4
      go_wp2_with fail
      (with_reducible refine haw.mono ?_)
      rintro e w1 ⟨rfl, hK⟩
      go_wp2
      go_ret
      exact ⟨rfl, hK⟩
    · have h1' : ¬ (120 : Int) < (n0 : Int) := by omega
      have h2' : (60 : Int) < (n1 : Int) := by omega
      go_enter Try.func4, Try.ntmps4
      go_wp2_with fail
      (with_reducible refine haw.mono ?_)
      rintro e w1 ⟨rfl, hK⟩
      go_wp2
      go_ret
      exact ⟨rfl, hK⟩
  · have hb0 : n0 ≤ 120 ∧ n1 ≤ 60 := by omega
    have h1' : ¬ (120 : Int) < (n0 : Int) := by omega
    have h2' : ¬ (60 : Int) < (n1 : Int) := by omega
    have hld := laid_any w A0 n0 cap0 F hW (by omega)
    have HE := Lib.hid hE
    clear hg haw hW hE
    go_enter Try.func4, Try.ntmps4
    go_wp2_with fail
    (with_reducible refine hld.mono ?_)
    rintro e w5 ⟨L, T, rfl, hD, hT, hLf, hTf, hTl, hK5⟩
    obtain ⟨b1, b2, b3, b4⟩ := laidS_facts n0 F
    have hsn : 0 ≤ (laidS n0 F).steps ∧ (laidS n0 F).steps ≤ 500 := by rw [b2]; unfold nl; omega
    have HD := Lib.hid hD
    have HT := Lib.hid hT
    have HTL := Lib.hid hTl
    have HB3 := Lib.hid b3
    have hown : ∀ k ∈ L.own ++ T.own, w.heap.size ≤ k := fun k hk => by
      rcases List.mem_append.1 hk with h | h
      · exact hLf k h
      · exact hTf k h
    have HOWN := Lib.hid hown
    have HEN := Lib.hid (HE.out.lift (own := L.own ++ T.own) hK5 hown)
    have HAP := Lib.hid hT.apart
    clear hld hD hT hTl b1 b2 b3 b4 hown hLf hTf HE
    generalize laidS n0 F = S0 at *
    go_upto_if 28 with fail
    go_cut [10] (fun s10 wx => s10 = .bool false ∧ ∃ S, Dev wx L S ∧ TwinE wx T L.own S ∧ S.n = n0 ∧ 0 ≤ S.steps ∧ S.steps ≤ 500 ∧ Keep (L.own ++ T.own) w5 wx)
    case first =>
      by_cases hf0 : 0 < fu
      · have hfu := fuse_any w5 L S0 HD.out fu hfu1
        go_wp2_with fail
        (with_reducible refine hfu.mono ?_)
        rintro e w6 ⟨rfl, hD6, hK6⟩
        have hT6 := HT.out.keepL hK6
        obtain ⟨_, _, cz, fz, cf⟩ := hT6.cells
        have hT7 := hT6.fused fu hf0 hfu1
        have hK7 : Keep T.own w6 (w6.setCell ⟨T.m, 3, none⟩ (.int .i64 fu)) := Keep.setCell _ _ (by simp [TLoc.own]) _
        have hD7 := hD6.keep hK7 HAP.out
        have H1 := Lib.hid hT7
        have H2 := Lib.hid hD7
        have hK8 : Keep (L.own ++ T.own) w5 (w6.setCell ⟨T.m, 3, none⟩ (.int .i64 fu)) := (hK6.mono (fun _ _ h => List.mem_append.2 (.inl h))).trans (hK7.mono (fun _ _ h => List.mem_append.2 (.inr h)))
        clear hfu hT6 hT7 hD7 hD6
        go_wp2_with fail
        go_meet
        exact ⟨rfl, _, H2.out, H1.out, HB3.out, hsn.1, hsn.2, hK8⟩
      · have hf0' : decide (0 < fu) = false := by simpa using hf0
        go_wp2_with fail
        go_meet
        exact ⟨rfl, _, HD.out, HT.out, HB3.out, hsn.1, hsn.2, Keep.refl _ _⟩
    case rest =>
    obtain ⟨rfl, S, hD, hT, hSn, hs0, hs1, hKc⟩ := hcut
    have hEc := HEN.out.keep (hKc.trans (Keep.drew _))
    have hTlc : ∀ k ∈ T.own, k < wc.drew.heap.size := fun k hk => Nat.lt_of_lt_of_le (HTL.out k hk) hKc.size
    have hwr := write_any wc.drew L S (hD.dr_ ⟨1, rfl⟩) f t A1 n1 cap1 E (hEc.weaken (fun _ h => List.mem_append.2 (.inl h))) hEB hs0 (by omega)
    have hrw := fun W (hk : Keep L.own wc.drew W) => rwrite_any W T L.own S ((hT.keepE (Keep.drew _)).keepL hk) (fun k hk' => Nat.lt_of_lt_of_le (hTlc k hk') hk.size) f t A1 n1 cap1 E (((hEc.keep (hk.mono (fun _ _ h => List.mem_append.2 (.inl h)))).weaken (fun _ h => List.mem_append.2 (.inr h)))) hEB (by omega) hs0 (by omega)
    obtain ⟨q1, q2, q3⟩ := write_len (S := S) (f := f) (t := t) (E := E) (n := n1) hb0.2
    have HWR := Lib.hid hwr
    have HRW := Lib.hid hrw
    have hq : 0 ≤ (writeR S f t E n1).1.steps ∧ (writeR S f t E n1).1.steps ≤ 2000 := by omega
    have HQ3 := Lib.hid (q3.trans hSn)
    clear hwr hrw hD hT HD HT HEN hEc q1 q2 q3 HB3 hsn
    generalize writeR S f t E n1 = Q at *
    obtain ⟨Q1, Q2⟩ := Q
    dsimp only at HWR HRW hq HQ3
    unfold RwPost at HRW
    dsimp only at HRW
    generalize wc = wq at *
    have HTQ := Lib.hid hTlc
    clear hTlc
    go_upto_region 7 with fail
    go_cut [64] (fun s64 wx => s64 = .bool false ∧ Dev wx L Q1 ∧ TwinE wx T L.own Q1 ∧ Keep (L.own ++ T.own) wq.drew wx)
    case first =>
      go_region_with (first | (go_at_call 17; refine HWR.out.mono ?_; rintro e w6 ⟨rfl, hD6, hK6⟩) | (go_at_call 18; refine (HRW.out _ hK6).mono ?_; rintro e w7 ⟨rfl, hT7, hK7⟩; have hD7 := hD6.keep hK7 HAP.out; obtain ⟨c2, c4, _⟩ := hT7.cells) | (go_at_call 19; refine (steps_any _ L Q1 hD7).mono ?_; rintro e w8 ⟨rfl, rfl⟩) | (go_at_call 20; refine (down_any _ L Q1 hD7).mono ?_; rintro e w9 ⟨rfl, rfl⟩))
      all_goals
        go_wp2_with fail
        go_meet
        exact ⟨rfl, hD7, hT7, (hK6.mono (fun _ _ h => List.mem_append.2 (.inl h))).trans (hK7.mono (fun _ _ h => List.mem_append.2 (.inr h)))⟩
    case rest =>
    obtain ⟨rfl, hD8, hT8, hK8⟩ := hcut
    have hk8 : Keep [] w wc := (hK5.into (hKc.trans (Keep.drew _)) HOWN.out).into hK8 HOWN.out
    have hp1 := pk10_lit wc L.own hD8.fresh
    have ka : Keep [] wc (wc.alloc (.cells #[.int .u8 1, .int .u8 2, .int .u8 0, .int .u8 1, .int .u8 3, .int .u8 2, .int .u8 1, .int .u8 0, .int .u8 2, .int .u8 1] 5)) := Keep.alloc _ _
    have hcr := crash_any _ L Q1 (hD8.keep ka (by simp)) _ 10 10 pk10 hp1
    have hTw : ∀ k ∈ T.own, k < wc.heap.size := fun k hk => Nat.lt_of_lt_of_le (HTQ.out k hk) hK8.size
    have HQN := Lib.hid (show (crashS Q1 pk10).n = n0 from HQ3.out)
    have hrc := fun W (hT : TwinE W T L.own Q1) (hs : wc.heap.size ≤ W.heap.size) => rcrash_any (W.alloc (.cells #[.int .u8 1, .int .u8 2, .int .u8 0, .int .u8 1, .int .u8 3, .int .u8 2, .int .u8 1, .int .u8 0, .int .u8 2, .int .u8 1] 5)) T L.own Q1 (hT.keepE (Keep.alloc _ _)) _ 10 10 pk10 (pk10_lit W T.own (fun hm => by have := hTw _ hm; omega)) pk10_range
    have HRC := Lib.hid hrc
    clear hp1 hTw HWR HRW hrc
    generalize crashS Q1 pk10 = Q' at *
    go_wp2_with fail
    (with_reducible refine hcr.mono ?_)
    rintro e w10 ⟨rfl, hD10, hK10⟩
    have hT10 := (hT8.keepE ka).keepL hK10
    have hrc := HRC.out w10 hT10 (Nat.le_trans ka.size hK10.size)
    have kb : Keep [] w10 (w10.alloc (.cells #[.int .u8 1, .int .u8 2, .int .u8 0, .int .u8 1, .int .u8 3, .int .u8 2, .int .u8 1, .int .u8 0, .int .u8 2, .int .u8 1] 5)) := Keep.alloc _ _
    clear hcr HRC
    go_wp2_with fail
    (with_reducible refine hrc.mono ?_)
    rintro e w11 ⟨rfl, hT11, hK11⟩
    have hD11 := (hD10.keep kb (by simp)).keep hK11 HAP.out
    have hwo := words_any w11 L Q' hD11
    rw [HQN.out] at hwo
    have hkz : Keep [] w w11 := (((hk8.trans ka).into hK10 (fun k hk => HOWN.out k (List.mem_append.2 (.inl hk)))).trans kb).into hK11 (fun k hk => HOWN.out k (List.mem_append.2 (.inr hk)))
    clear hrc
    go_wp2_with fail
    (with_reducible refine hwo.mono ?_)
    rintro e w12 ⟨g, capg, rfl, hR, _, hK12⟩
    have hrwo := rwords_any w12 T L.own Q' (hT11.keepE hK12)
    clear hwo
    go_wp2_with fail
    (with_reducible refine hrwo.mono ?_)
    rintro e w13 ⟨v, rfl, hO, hK13⟩
    rw [HQN.out] at hO
    have hsm := same_ref w13 _ g n0 capg v _ (by omega) (hR.keep hK13 (by simp)) hO
    clear hrwo
    go_wp2_with fail
    (with_reducible refine hsm.mono ?_)
    rintro e w14 ⟨rfl, hK14⟩
    have haw := awake_any w14
    clear hsm
    go_wp2_with fail
    (with_reducible refine haw.mono ?_)
    rintro e w15 ⟨rfl, hK15⟩
    go_wp2
    go_ret
    exact ⟨rfl, (((hkz.trans hK12).trans hK13).trans hK14).trans hK15⟩
end Go.Proofs.Ytejhdmpobaffcaa
