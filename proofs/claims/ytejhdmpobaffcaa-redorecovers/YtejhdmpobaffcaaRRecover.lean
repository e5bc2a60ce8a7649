/-
  scullionref3's Recover. No conditions but what a device is.
-/
import Derived.Test.YtejhdmpobaffcaaRWrite
import Derived.Test.YtejhdmpobaffcaaRedo9
namespace Go.Proofs.Ytejhdmpobaffcaa
open Go.RowKit Go.Flo
set_option maxRecDepth 100000

def RvPost (T : TLoc) (D : List Nat) (R : St × Int × Int) (w : World) (e : Ending) (w' : World) : Prop := e = .returned (.tuple #[.int .i64 R.2.1, .int .i64 R.2.2]) ∧ TwinE w' T D R.1 ∧ Keep T.own w w'
def RvRel (w1 : World) (S : St) (f t : Int) (m B : Nat) (x y : Value) (wr : World) : Prop :=
  ∃ i : Nat, x = .int .i64 i ∧ i ≤ m ∧ (∀ j, j < i → okB S.n f t (logE S f j).a = true) ∧ wr.ownsRow B 46 2 y i (entsR (logE S f) i) ∧ Keep [] w1 wr

theorem bad_okB {n : Nat} {f t x : Int} (h0 : 0 ≤ x) : (!hasB n x || (decide (f ≤ x) && decide (x < t))) = !okB n f t x := by
  have hh : hasB n x = decide (x < (n : Int)) := by simp [hasB, h0]
  unfold okB
  rw [hh]
  cases decide (x < (n : Int)) <;> cases decide (f ≤ x) <;> cases decide (x < t) <;> rfl

theorem load_at {w : World} {T : TLoc} {D : List Nat} {S : St} (h : TwinE w T D S) (x : Int) (x0 : 0 ≤ x) (x1 : x < S.n) (ho : S.off = false) :
    Calls Try.prog 29 #[.pointer (some ⟨T.m, 0, none⟩), .int .i64 x] w fun e w' => e = .returned (.tuple #[.int .u64 (S.now x.toNat), .int .i64 0]) ∧ w = w' := by
  have := rload_any w T D S h x
  unfold LoadPost loadV at this
  rw [hasB_of x0 x1, ho] at this
  simpa [ans] using this

set_option maxHeartbeats 8000000 in
theorem rrecover_any (w : World) (T : TLoc) (D : List Nat) (S : St) (h : TwinE w T D S) (hTl : ∀ k ∈ T.own, k < w.heap.size) (hWd : Wd S) (f t : Int) (s0 : 0 ≤ S.steps) (s1 : S.steps < 800000) :
    Calls Try.prog 27 #[.pointer (some ⟨T.m, 0, none⟩), .int .i64 f, .int .i64 t] w (RvPost T D (recR S f t) w) := by
  obtain ⟨j0, hj0, hy0, hy1, hy2⟩ := info_parts parts46
  have har := area_any w T D S h f t
  have hSn := h.n
  have HH := Lib.hid h
  have HTL := Lib.hid hTl
  clear h hTl
  cases e1 : mayB S.n f t
  · have HEQ := Lib.hid (show recR S f t = (S, 0, 1) by unfold recR; rw [if_pos e1])
    rw [e1] at har
    clear e1
    go_enter Try.func27, Try.ntmps27
    go_wp2_with fail
    (with_reducible refine har.mono ?_)
    rintro e w1 ⟨rfl, hK1⟩
    go_wp2
    go_ret2
    rw [HEQ.out]
    exact ⟨rfl, HH.out.keepE hK1, hK1.of_nil⟩
  · obtain ⟨f0, f1, t1, f8⟩ := mayB_true e1
    rw [e1] at har
    cases ho : S.off
    · have hld := fun W (hT : TwinE W T D S) => load_at hT f f0 (by omega) ho
      have HLD := Lib.hid hld
      have hm0 : 0 ≤ S.now f.toNat := (hWd f.toNat).1
      obtain ⟨mk, hmk⟩ : ∃ mk, mk = S.now f.toNat := ⟨_, rfl⟩
      rw [← hmk] at HLD hm0
      have hsub : IntKind.i64.wrap (t - f) = t - f := IntWalk.i64_in _ (by omega)
      cases e2 : holdsB f t mk
      · have HEQ := Lib.hid (show recR S f t = (S, 0, 8) by unfold recR; rw [if_neg (by rw [e1]; simp), if_neg (by rw [ho]; simp), ← hmk, if_pos e2])
        by_cases h1024 : 1024 < mk
        · clear e1 e2 hmk hld ho
          go_enter Try.func27, Try.ntmps27
          go_wp2_with fail
          (with_reducible refine har.mono ?_)
          rintro e w1 ⟨rfl, hK1⟩
          have hl := HLD.out w1 (HH.out.keepE hK1)
          clear har
          go_wp2_with fail
          (with_reducible refine hl.mono ?_)
          rintro e w2 ⟨rfl, rfl⟩
          go_wp2
          go_ret2
          rw [HEQ.out]
          exact ⟨rfl, HH.out.keepE hK1, hK1.of_nil⟩
        · have h1024' : mk ≤ 1024 := by omega
          have hgt : t - f < 8 + 2 * mk := by
            simp [holdsB] at e2; have := e2 h1024'; omega
          have e3 : IntKind.i64.wrap mk = mk := IntWalk.i64_in _ (by omega)
          have hnd : ∀ W, Calls Try.prog 13 #[.int .i64 mk] W fun e w' => e = .returned (.int .i64 (8 + 2 * mk)) ∧ W = w' := fun W => by
            have := rneed_any W mk
            rw [show needI mk = 8 + 2 * mk by unfold needI; rw [if_neg (by omega)]] at this
            exact this
          have HND := Lib.hid hnd
          clear e1 e2 hmk hld ho hnd h1024
          generalize 8 + 2 * mk = nd at *
          go_enter Try.func27, Try.ntmps27
          go_wp2_with fail
          (with_reducible refine har.mono ?_)
          rintro e w1 ⟨rfl, hK1⟩
          have hl := HLD.out w1 (HH.out.keepE hK1)
          clear har
          go_wp2_with fail
          (with_reducible refine hl.mono ?_)
          rintro e w2 ⟨rfl, rfl⟩
          have hnd := HND.out w1
          clear hl
          go_wp2_with fail
          (with_reducible refine hnd.mono ?_)
          rintro e w2 ⟨rfl, rfl⟩
          go_wp2
          go_ret2
          rw [HEQ.out]
          exact ⟨rfl, HH.out.keepE hK1, hK1.of_nil⟩
      · obtain ⟨h1024', hle⟩ := holdsB_true e2
        obtain ⟨m, hm⟩ : ∃ m : Nat, mk = m := ⟨mk.toNat, by omega⟩
        rw [hm] at HLD h1024' hle e2 hm0
        have hmm : S.now f.toNat = (m : Int) := by rw [← hmk, hm]
        have hRQ : recR S f t = (if goodB S f t m = false then (S, 0, 8) else if m = 0 then (S, 0, 0) else if (play S (recOps f (logE S f) m)).2 ≠ 0 then ((play S (recOps f (logE S f) m)).1, 0, (play S (recOps f (logE S f) m)).2) else ((play S (recOps f (logE S f) m)).1, (m : Int), 0)) := by
          unfold recR
          rw [if_neg (by rw [e1]; simp), if_neg (by rw [ho]; simp), hmm, if_neg (by rw [e2]; simp), Int.toNat_natCast]
          simp only [Int.natCast_eq_zero]
        have HRQ := Lib.hid hRQ
        have e3 : IntKind.i64.wrap (m : Int) = m := IntWalk.i64_in _ (by omega)
        have hnd : ∀ W, Calls Try.prog 13 #[.int .i64 (m : Int)] W fun e w' => e = .returned (.int .i64 (8 + 2 * (m : Int))) ∧ W = w' := fun W => by
          have := rneed_any W (m : Int)
          rw [show needI (m : Int) = 8 + 2 * (m : Int) by unfold needI; rw [if_neg (by omega)]] at this
          exact this
        have HND := Lib.hid hnd
        have HLE := Lib.hid hle
        have hl2 := fun W (hT : TwinE W T D S) x x0 x1 => load_at (w := W) hT x x0 x1 ho
        have HL2 := Lib.hid hl2
        have HWD := Lib.hid hWd
        have hle2 : ∃ nd : Int, nd = 8 + 2 * (m : Int) := ⟨_, rfl⟩
        obtain ⟨nd, hnd2⟩ := hle2
        rw [← hnd2] at HND hle
        clear hl2 hRQ hmm hmk hld hnd hWd e2 e1 hm ho hnd2
        go_enter Try.func27, Try.ntmps27
        go_wp2_with fail
        (with_reducible refine har.mono ?_)
        rintro e w1 ⟨rfl, hK1⟩
        have hl := HLD.out w1 (HH.out.keepE hK1)
        clear har
        go_wp2_with fail
        (with_reducible refine hl.mono ?_)
        rintro e w2 ⟨rfl, rfl⟩
        have hnd := HND.out w1
        clear hl
        go_wp2_with fail
        (with_reducible refine hnd.mono ?_)
        rintro e w2 ⟨rfl, rfl⟩
        clear hnd HND HLD
        go_wp2_with fail
        clear hle
        go_loopw [44, 10] (fun x y wr => RvRel w1 S f t m w1.heap.size x y wr) (fun x _ _ => m - (intOf x).toNat)
        case atStart => exact ⟨0, rfl, by omega, fun j hj => by omega, World.ownsRow_nil _ _ _ _, Keep.refl _ _⟩
        case round =>
          obtain ⟨i, rfl, him, hok, hrow, hK2⟩ := hrel
          have HOK := Lib.hid hok
          have HRow := Lib.hid hrow
          have hKw := hK1.trans hK2
          have hs2 := hK2.size
          clear hok hrow
          by_cases hlt : i < m
          · have hlt' : (i : Int) < (m : Int) := by omega
            have hle := HLE.out
            have hT2 := HH.out.keepE hKw
            have l1 := HL2.out wr hT2 (f + 8 + 2 * i) (by omega) (by omega)
            have l2 := HL2.out wr hT2 (f + 8 + 2 * i + 1) (by omega) (by omega)
            rw [show (f + 8 + 2 * (i : Int)).toNat = f.toNat + 8 + 2 * i by omega] at l1
            rw [show (f + 8 + 2 * (i : Int) + 1).toNat = f.toNat + 8 + 2 * i + 1 by omega] at l2
            have ha0 : 0 ≤ S.now (f.toNat + 8 + 2 * i) := (HWD.out _).1
            have hlg : logE S f i = ⟨S.now (f.toNat + 8 + 2 * i), S.now (f.toNat + 8 + 2 * i + 1)⟩ := rfl
            generalize S.now (f.toNat + 8 + 2 * i) = aj at *
            generalize S.now (f.toNat + 8 + 2 * i + 1) = vj at *
            have HLG := Lib.hid hlg
            have hx0 : 0 ≤ f + 8 + 2 * (i : Int) ∧ f + 8 + 2 * (i : Int) ≤ 100000 := by omega
            have hbd := bad_any wr T D S hT2 aj f t
            rw [bad_okB ha0] at hbd
            clear hle hlg hT2
            by_cases hbig : 65536 < aj
            · have hno : okB S.n f t (logE S f i).a = false := by rw [HLG.out]; simp [okB]; omega
              have HEQ := Lib.hid (show recR S f t = (S, 0, 8) by rw [HRQ.out, if_pos (goodB_no hlt hno)])
              clear hno HRQ hbd
              go_wp2_with fail
              (with_reducible refine l1.mono ?_)
              rintro e w3 ⟨rfl, rfl⟩
              clear l1
              go_wp2_with fail
              (with_reducible refine l2.mono ?_)
              rintro e w3 ⟨rfl, rfl⟩
              clear l2
              go_wp2
              go_ret2
              rw [HEQ.out]
              exact ⟨rfl, HH.out.keepE hKw, hKw.of_nil⟩
            · have hbig' : aj ≤ 65536 := by omega
              have ew : IntKind.i64.wrap aj = aj := IntWalk.i64_in _ (by omega)
              cases hok : okB S.n f t aj
              · have hno : okB S.n f t (logE S f i).a = false := by rw [HLG.out]; exact hok
                have HEQ := Lib.hid (show recR S f t = (S, 0, 8) by rw [HRQ.out, if_pos (goodB_no hlt hno)])
                rw [hok] at hbd
                clear hno HRQ hok hbig
                go_wp2_with fail
                (with_reducible refine l1.mono ?_)
                rintro e w3 ⟨rfl, rfl⟩
                clear l1
                go_wp2_with fail
                (with_reducible refine l2.mono ?_)
                rintro e w3 ⟨rfl, rfl⟩
                clear l2
                go_wp2_with fail
                (with_reducible refine hbd.mono ?_)
                rintro e w3 ⟨rfl, rfl⟩
                go_wp2
                go_ret2
                rw [HEQ.out]
                exact ⟨rfl, HH.out.keepE hKw, hKw.of_nil⟩
              · rw [hok] at hbd
                have HGO := Lib.hid (show okB S.n f t (logE S f i).a = true by rw [HLG.out]; exact hok)
                clear hok hbig
                go_wp2_with fail
                (with_reducible refine l1.mono ?_)
                rintro e w3 ⟨rfl, rfl⟩
                clear l1
                go_wp2_with fail
                (with_reducible refine l2.mono ?_)
                rintro e w3 ⟨rfl, rfl⟩
                clear l2
                go_wp2_with fail
                (with_reducible refine hbd.mono ?_)
                rintro e w3 ⟨rfl, rfl⟩
                clear hbd
                go_wp2_with (at_builtin; refine wpList_append_src rfl (.tmp 78) (.tmp 83) 26 rfl w1.heap.size 46 j0 (.agg #[.int .i64 0, .int .u64 0]) 2 16 Try.underlying26 hj0 hy0 hy1 hy2 rfl (by omega) _ i (entsR (logE S f) i) rfl (ownsRow_keep0 HRow.out (Keep.alloc _ _)) (some ⟨_, 0, none⟩) 1 1 [.int .i64 aj, .int .u64 vj] rfl rfl (by simp) (ents_new _ ⟨aj, vj⟩ _ rfl) (by intro u hu; simp at hu; rcases hu with rfl | rfl <;> rfl) (by simp [maxLen]; omega) (by omega) (by simp; omega) ?_)
                intro v8 w8 hown8 hgrow8
                have kk : Keep [] wr (wr.alloc (.cells #[.int .i64 aj, .int .u64 vj] 46)) := Keep.alloc _ _
                have hK8 : Keep [] w1 w8 := own_keptK (ownsRow_keep0 HRow.out kk) hgrow8 (hK2.trans kk) (Nat.le_refl _)
                have hrow8 : w8.ownsRow w1.heap.size 46 2 v8 (i + 1) (entsR (logE S f) (i + 1)) := by
                  rw [entsR, HLG.out]
                  exact hown8
                have HR8 := Lib.hid hrow8
                clear hown8 hgrow8 hrow8 kk HRow
                go_wp2_with fail
                exact ⟨⟨i + 1, by go_num, by omega, fun j hj => by
                  rcases Nat.lt_or_ge j i with h | h
                  · exact HOK.out j h
                  · rw [show j = i by omega]; exact HGO.out, HR8.out, hK8⟩, by simp [intOf]; omega⟩
          · obtain rfl : i = m := by omega
            have hnl : ¬ (i : Int) < (i : Int) := by omega
            have hgood : goodB S f t i = true := goodB_true.2 HOK.out
            obtain ⟨A, capE, hv, hEn, hEg⟩ := Ents.of_owns HRow.out
            subst hv
            have hce := hEn.cap
            have hne := hEn.nc
            by_cases h0 : i = 0
            · have HEQ := Lib.hid (show recR S f t = (S, 0, 0) by rw [HRQ.out, if_neg (by rw [hgood]; simp), if_pos h0])
              subst h0
              clear HRQ hgood hEn hEg
              go_wp2
              go_ret2
              rw [HEQ.out]
              exact ⟨rfl, HH.out.keepE hKw, hKw.of_nil⟩
            · have h0b : ((i : Int) == 0) = false := by simp; omega
              have h0' : (0 : Int) < (i : Int) := by omega
              have kb : Keep [] wr (wr.alloc (.cells #[.pointer (some ⟨T.m, 0, none⟩), .int .i64 0] 81)) := Keep.alloc _ _
              have hTw : ∀ k ∈ T.own, k < wr.heap.size := fun k hk => Nat.lt_of_lt_of_le (HTL.out k hk) hKw.size
              have hTd : Td (wr.alloc (.cells #[.pointer (some ⟨T.m, 0, none⟩), .int .i64 0] 81)) wr.heap.size T (D ++ [wr.heap.size]) (S, 0) := ⟨Blk.new wr 81 _, (HH.out.keepE hKw).more kb (by simp) hTw, by simp, fun hm => by have := hTw _ hm; omega⟩
              have hE2 : Ents (wr.alloc (.cells #[.pointer (some ⟨T.m, 0, none⟩), .int .i64 0] 81)) (wr.heap.size :: T.own) A i capE (logE S f) := ⟨hEn.nc, hEn.cap, fun hp => by
                obtain ⟨g, q1, q2, q3⟩ := hEg hp
                obtain ⟨b', o', q1', q2', q3', q4'⟩ := (hEn.keep0 kb).cells hp
                rw [q1] at q1'
                injection q1' with q1'
                injection q1' with r1 r2
                subst r1 r2
                exact ⟨g, 0, q1, fun hm => by
                  rcases List.mem_cons.1 hm with h | h
                  · omega
                  · have := HTL.out g h; have := hK1.size; omega, q3', q4'⟩⟩
              have haj : ∀ j, j < i → 0 ≤ (logE S f j).a ∧ (logE S f j).a ≤ 65536 := fun j hj => by
                have h1 := HOK.out j hj
                have h2 : 0 ≤ (logE S f j).a := (HWD.out _).1
                simp [okB] at h1
                omega
              have hdn := tdone_any _ wr.heap.size T (D ++ [wr.heap.size]) (S, 0) hTd (fun k hk => Nat.lt_of_lt_of_le (hTw k hk) kb.size) hTd.twin.dlt f A i capE (logE S f) hE2 (by omega) haj s0 (by dsimp only; omega)
              rw [tf_play] at hdn
              have hKb := hKw.trans kb
              have HEQ := Lib.hid (show recR S f t = if (play S (recOps f (logE S f) i)).2 ≠ 0 then ((play S (recOps f (logE S f) i)).1, 0, (play S (recOps f (logE S f) i)).2) else ((play S (recOps f (logE S f) i)).1, (i : Int), 0) by rw [HRQ.out, if_neg (by rw [hgood]; simp), if_neg h0])
              generalize play S (recOps f (logE S f) i) = R at *
              have hfinK : ∀ w', Keep (wr.heap.size :: T.own) (wr.alloc (.cells #[.pointer (some ⟨T.m, 0, none⟩), .int .i64 0] 81)) w' → Keep T.own w w' := fun w' hk => (hKb.of_nil.trans hk).mono (fun k hk hm => by
                rcases List.mem_cons.1 hm with h | h
                · have := hKw.size; omega
                · exact h)
              have HFK := Lib.hid hfinK
              clear hTd hE2 haj hTw HRQ hgood hEn hEg HRow HOK h0 hfinK
              by_cases hR : R.2 = 0
              · go_wp2_with fail
                (with_reducible refine hdn.mono ?_)
                rintro e w5 ⟨rfl, hT5, hK5⟩
                have c1 : w5.cell? ⟨wr.heap.size, 1, none⟩ = some (.int .i64 0) := by rw [← hR]; exact (hT5.blk.cell 1).trans rfl
                have hfk := HFK.out w5 hK5
                clear hdn
                go_wp2
                go_ret2
                rw [HEQ.out, if_neg (by simpa using hR)]
                exact ⟨rfl, hT5.twin.less (fun k hk => List.mem_append.2 (.inl hk)), hfk⟩
              · have hRb : (R.2 != 0) = true := by simpa using hR
                go_wp2_with fail
                (with_reducible refine hdn.mono ?_)
                rintro e w5 ⟨rfl, hT5, hK5⟩
                have c1 : w5.cell? ⟨wr.heap.size, 1, none⟩ = some (.int .i64 R.2) := (hT5.blk.cell 1).trans rfl
                have hfk := HFK.out w5 hK5
                clear hdn
                go_wp2_with fail
                go_quiet (fail)
                go_wp2
                go_ret2
                rw [HEQ.out, if_pos hR]
                exact ⟨rfl, (hT5.twin.less (fun k hk => List.mem_append.2 (.inl hk))).keepE (Keep.dr (Dr.drewN _ _)), hfk.trans (Keep.dr (Dr.drewN _ _))⟩
    · have hld := rload_any w T D S HH.out f
      have HEQ := Lib.hid (show recR S f t = (S, 0, 7) by unfold recR; rw [if_neg (by rw [e1]; simp), if_pos ho])
      have hl := fun W (hT : TwinE W T D S) => rload_any W T D S hT f
      have HL : ∀ W (hT : TwinE W T D S), Calls Try.prog 29 #[.pointer (some ⟨T.m, 0, none⟩), .int .i64 f] W fun e w' => e = .returned (.tuple #[.int .u64 0, .int .i64 7]) ∧ W = w' := fun W hT => by
        have := hl W hT
        unfold LoadPost loadV at this
        rw [ho] at this
        simpa [ans] using this
      have HL := Lib.hid HL
      clear hld hl e1 ho
      go_enter Try.func27, Try.ntmps27
      go_wp2_with fail
      (with_reducible refine har.mono ?_)
      rintro e w1 ⟨rfl, hK1⟩
      have hl := HL.out w1 (HH.out.keepE hK1)
      clear har
      go_wp2_with fail
      (with_reducible refine hl.mono ?_)
      rintro e w2 ⟨rfl, rfl⟩
      go_wp2
      go_ret2
      rw [HEQ.out]
      exact ⟨rfl, HH.out.keepE hK1, hK1.of_nil⟩
end Go.Proofs.Ytejhdmpobaffcaa
