/-
  scullionref3's done: entries are done, and the mark gone. No conditions but what a device is.
-/
import Derived.Test.YtejhdmpobaffcaaTried
namespace Go.Proofs.Ytejhdmpobaffcaa
open Go.RowKit Go.Flo
set_option maxRecDepth 100000

theorem doFl_seen {E : Nat → Ent} {i : Nat} (h0 : 0 ≤ (E i).a) (h : lnH E i ((E i).a / 8) = true) : doFl E (i + 1) = doFl E i := by
  unfold lnH at h
  have e : ((E i).a / 8).toNat = (E i).a.toNat / 8 := by omega
  simp only [e, Bool.and_eq_true] at h
  simp [doFl, h.2]
theorem doFl_new {E : Nat → Ent} {i : Nat} (h0 : 0 ≤ (E i).a) (h : lnH E i ((E i).a / 8) = false) : doFl E (i + 1) = doFl E i ++ [.fl (E i).a] := by
  unfold lnH at h
  have e : ((E i).a / 8).toNat = (E i).a.toNat / 8 := by omega
  have e2 : decide (0 ≤ (E i).a / 8) = true := by simp; omega
  simp only [e, e2, Bool.true_and] at h
  simp [doFl, h]

set_option maxHeartbeats 8000000 in
theorem tdone_any (w : World) (tb : Nat) (T : TLoc) (D : List Nat) (R : St × Int) (h : Td w tb T D R) (hTl : ∀ k ∈ T.own, k < w.heap.size) (hDl : ∀ k ∈ D, k < w.heap.size) (f : Int) (A : Option Addr) (n cap : Nat) (E : Nat → Ent) (hE : Ents w (tb :: T.own) A n cap E) (hn : n ≤ 1024) (ha : ∀ j, j < n → 0 ≤ (E j).a ∧ (E j).a ≤ 65536) (s0 : 0 ≤ R.1.steps) (s1 : R.1.steps < 900000) :
    Calls Try.prog 48 #[.pointer (some ⟨tb, 0, none⟩), .int .i64 f, .slice A n cap] w (TPost tb T D (tf R (recOps f E n)) w) := by
  have hmm := @run_makeMap Try.prog
  have hcap := hE.cap
  have hnc := hE.nc
  have HE := Lib.hid hE
  have HA := Lib.hid ha
  have HTL := Lib.hid hTl
  have HDL := Lib.hid hDl
  have HH := Lib.hid h
  clear hE ha hTl hDl h
  go_enter Try.func48, Try.ntmps48
  go_wp2_with fail
  go_loopw [13] (fun x wr => TdRel w tb T D R E n x wr) (fun x _ => n - (intOf x).toNat)
  case atStart => exact ⟨0, rfl, by omega, HH.out, Keep.refl _ _⟩
  case round =>
    obtain ⟨i, rfl, hin, hT1, hK1⟩ := hrel
    have hst := tf_steps R (doStores E i)
    rw [doStores_len] at hst
    by_cases hlt : i < n
    · obtain ⟨b, o, hA, _, hb, hcc⟩ := (HE.out.keep hK1).cells (by omega)
      subst hA
      obtain ⟨c0, c1⟩ := hcc i hlt
      have hlt' : (i : Int) < (n : Int) := by omega
      have ki : Keep [] wr (wr.alloc (.cells #[.int .i64 (E i).a, .int .u64 (E i).v] 46)) := Keep.alloc _ _
      have hs := tstore_any _ tb T D _ (hT1.keep0 ki) (E i).a (E i).v (by omega) (by omega)
      have hnx : tf (tf R (doStores E i)) [.st (E i).a (E i).v] = tf R (doStores E (i + 1)) := by rw [doStores, tf_append]
      rw [hnx] at hs
      clear hcc hnx hT1 hst
      go_wp2_with fail
      (with_reducible refine hs.mono ?_)
      rintro e w2 ⟨rfl, hT2, hK2⟩
      have hK3 := (hK1.trans ki.of_nil).trans hK2
      clear hs
      go_wp2_with fail
      exact ⟨⟨i + 1, by go_num, by omega, hT2, hK3⟩, by simp [intOf]; omega⟩
    · obtain rfl : i = n := by omega
      have hnl : ¬ (i : Int) < (i : Int) := by omega
      have hM0 := IMap.made wr
      have k1 : Keep [] wr (wr.alloc (.map #[] 0)) := Keep.alloc _ _
      have hTw : ∀ k ∈ T.own, k < wr.heap.size := fun k hk => Nat.lt_of_lt_of_le (HTL.out k hk) hK1.size
      have htb := hT1.blk.lt
      have hT2 : Td (wr.alloc (.map #[] 0)) tb T (D ++ [wr.heap.size]) (tf R (doStores E i)) := ⟨hT1.blk.keep k1 (by simp), hT1.twin.more k1 (by simp) hTw, List.mem_append.2 (.inl hT1.tD), hT1.tT⟩
      have hMT : wr.heap.size ∉ tb :: T.own := fun hm => by
        rcases List.mem_cons.1 hm with h | h
        · omega
        · have := hTw _ h; omega
      have HMT := Lib.hid hMT
      have HM0 := Lib.hid hM0
      have HT2 := Lib.hid hT2
      have HTw := Lib.hid hTw
      have hs2 : wr.heap.size < (wr.alloc (.map #[] 0)).heap.size := by simp
      clear hM0 hT2 hT1 hMT hTw hlt hst
      generalize wr = wo at *
      go_wp2_with fail
      generalize wo.alloc (.map #[] 0) = w2 at *
      generalize hM : wo.heap.size = M at *
      have HMS := Lib.hid hM
      clear hM
      go_loopw [27] (fun x wr => TdRel2 wo M tb T D R E i x wr) (fun x _ => i - (intOf x).toNat)
      case atStart => exact ⟨0, 0, rfl, by omega, by rw [show doFl E 0 = [] from rfl, List.append_nil]; exact HT2.out, HM0.out.congr (fun k => by simp [lnH, seenB]) (fun k => by simp [one01, lnH, seenB]) rfl, k1.of_nil⟩
      case round =>
        obtain ⟨j, sz, rfl, hji, hT3, hM3, hK3⟩ := hrel
        have hst := tf_steps R (doStores E i ++ doFl E j)
        have hdl := doFl_len E j
        rw [List.length_append, doStores_len] at hst
        have hKa : Keep (tb :: T.own) w wr := hK1.trans hK3
        have HM3 := Lib.hid hM3
        have HT3 := Lib.hid hT3
        have hMl := hM3.lt
        clear hM3 hT3
        by_cases hlt : j < i
        · obtain ⟨b, o, hA, _, hb, hcc⟩ := (HE.out.keep hKa).cells (by omega)
          subst hA
          obtain ⟨c0, c1⟩ := hcc j hlt
          have haj := HA.out j hlt
          have hlt' : (j : Int) < (i : Int) := by omega
          obtain ⟨aj, haj'⟩ : ∃ aj, aj = (E j).a := ⟨_, rfl⟩
          obtain ⟨vj, hvj⟩ : ∃ vj, vj = (E j).v := ⟨_, rfl⟩
          rw [← haj'] at c0 haj
          rw [← hvj] at c1
          have ki : Keep [] wr (wr.alloc (.cells #[.int .i64 aj, .int .u64 vj] 46)) := Keep.alloc _ _
          have HAJ := Lib.hid haj'
          have HM4 := Lib.hid (HM3.out.keep ki (by simp))
          have HT4 := Lib.hid (HT3.out.keep0 ki)
          have hB4 : Blk (wr.alloc (.cells #[.int .i64 aj, .int .u64 vj] 46)) wr.heap.size 46 #[.int .i64 aj, .int .u64 vj] := Blk.new wr 46 _
          have HB4 := Lib.hid hB4
          have hwl : wr.heap.size ∉ tb :: T.own := fun hm => by
            rcases List.mem_cons.1 hm with h | h
            · have := HT3.out.blk.lt; omega
            · have := HTw.out _ h; have := hK3.size; omega
          have HWL := Lib.hid hwl
          have hwf : (Lit.int .i64 (aj / 8)).wf = true := WalkArith.wf_i64 (by omega)
          clear hcc hvj haj' hB4 hwl
          cases hse : lnH E j (aj / 8)
          · have hv0 : one01 (lnH E j) (aj / 8) = 0 := by unfold one01; rw [hse]; rfl
            have hfl := tflush_any _ tb T (D ++ [M]) _ HT4.out aj (by omega) (by omega)
            have hnx : tf (tf R (doStores E i ++ doFl E j)) [.fl aj] = tf R (doStores E i ++ doFl E (j + 1)) := by
              rw [doFl_new (by rw [← HAJ.out]; exact haj.1) (by rw [← HAJ.out]; exact hse), ← List.append_assoc, tf_append _ _ [Stp.fl (E j).a], ← HAJ.out]
            rw [hnx] at hfl
            have HSE := Lib.hid hse
            clear hnx hst hdl hse
            go_wp2_with (at_lookup; refine wpList_imap_look rfl _ _ rfl M j _ _ _ rfl HM4.out (aj / 8) rfl hwf ?_)
            (with_reducible refine hfl.mono ?_)
            rintro e w5 ⟨rfl, hT5, hK5⟩
            have HM5 := Lib.hid (HM4.out.keep hK5 HMT.out)
            have d0 := ((HB4.out.keep hK5 HWL.out).cell 0).trans (show _ = some (Value.int .i64 aj) from rfl)
            have HT5 := Lib.hid hT5
            clear hfl hT5 c0 c1 hv0
            go_wp2_with (at_mapUpdate; refine wpList_imap_put rfl _ _ _ rfl M j _ _ _ rfl HM5.out (by omega) (aj / 8) 1 rfl rfl hwf (WalkArith.wf_i64 (by omega)) ?_)
            intro w6 hm6 hk6
            have hm7 : IMap w6 M (j + 1) (lnH E (j + 1)) (one01 (lnH E (j + 1))) (putZ (lnH E j) (aj / 8) sz) := hm6.congr (fun x => by rw [HAJ.out]; exact lnH_next (by rw [← HAJ.out]; exact haj.1) x) (fun x => by rw [HAJ.out]; exact one01_next (by rw [← HAJ.out]; exact haj.1) x) rfl
            have hT7 := HT5.out.keep hk6 (by simp) (fun hm => by rw [List.mem_singleton] at hm; exact HMT.out (by rw [← hm]; simp))
            have hK7 : Keep (tb :: T.own) wo w6 := ((hK3.trans ki.of_nil).trans hK5).into hk6 (by simp; have := HMS.out; omega)
            have H1 := Lib.hid hm7
            clear hm6 hm7 HM5 d0
            go_wp2_with fail
            exact ⟨⟨j + 1, _, by go_num, by omega, hT7, H1.out, hK7⟩, by simp [intOf]; omega⟩
          · have hv0 : one01 (lnH E j) (aj / 8) = 1 := by unfold one01; rw [hse]; rfl
            have hnx : tf R (doStores E i ++ doFl E j) = tf R (doStores E i ++ doFl E (j + 1)) := by
              rw [doFl_seen (by rw [← HAJ.out]; exact haj.1) (by rw [← HAJ.out]; exact hse)]
            rw [hnx] at HT4
            have HSE := Lib.hid hse
            have hv1 : (one01 (lnH E j) (aj / 8) == 0) = false := by rw [hv0]; rfl
            clear hnx hst hdl hse
            go_wp2_with (first | (at_lookup; refine wpList_imap_look rfl _ _ rfl M j _ _ _ rfl HM4.out (aj / 8) rfl hwf ?_) | (at_mapUpdate; refine wpList_imap_put rfl _ _ _ rfl M j _ _ _ rfl HM4.out (by omega) (aj / 8) 1 rfl rfl hwf (WalkArith.wf_i64 (by omega)) ?_))
            intro w6 hm6 hk6
            have hm7 : IMap w6 M (j + 1) (lnH E (j + 1)) (one01 (lnH E (j + 1))) (putZ (lnH E j) (aj / 8) sz) := hm6.congr (fun x => by rw [HAJ.out]; exact lnH_next (by rw [← HAJ.out]; exact haj.1) x) (fun x => by rw [HAJ.out]; exact one01_next (by rw [← HAJ.out]; exact haj.1) x) rfl
            have hT7 := HT4.out.keep hk6 (by simp) (fun hm => by rw [List.mem_singleton] at hm; exact HMT.out (by rw [← hm]; simp))
            have hK7 : Keep (tb :: T.own) wo w6 := (hK3.trans ki.of_nil).into hk6 (by simp; have := HMS.out; omega)
            have H1 := Lib.hid hm7
            clear hm6 hm7 HM4 hv0 hv1
            go_wp2_with fail
            exact ⟨⟨j + 1, _, by go_num, by omega, hT7, H1.out, hK7⟩, by simp [intOf]; omega⟩
        · obtain rfl : j = i := by omega
          have hnl2 : ¬ (j : Int) < (j : Int) := by omega
          have hT4 : Td wr tb T D (tf R (doStores E j ++ doFl E j)) := ⟨HT3.out.blk, HT3.out.twin.less (fun k hk => List.mem_append.2 (.inl hk)), (by
            have := HH.out.tD
            exact this), HT3.out.tT⟩
          have h1 := tfence_any wr tb T D _ hT4 (by omega) (by omega)
          have e1 : tf (tf R (doStores E j ++ doFl E j)) [.fe] = tf R (doOps E j) := by rw [← tf_append, doOps, List.append_assoc]
          rw [e1] at h1
          have b1 := tf_steps R (doOps E j)
          have l1 : (doOps E j).length ≤ 3000 := by simp [doOps, doStores_len]; omega
          have h2 := fun W h => tstore_any W tb T D (tf R (doOps E j)) h f 0 (by omega) (by omega)
          have b2 := tf_steps (tf R (doOps E j)) [.st f 0]
          rw [show ([.st f 0] : List Stp).length = 1 from rfl] at b2
          have h3 := fun W h => tflush_any W tb T D (tf (tf R (doOps E j)) [.st f 0]) h f (by omega) (by omega)
          have b3 := tf_steps (tf (tf R (doOps E j)) [.st f 0]) [.fl f]
          rw [show ([.fl f] : List Stp).length = 1 from rfl] at b3
          have h4 := fun W h => tfence_any W tb T D (tf (tf (tf R (doOps E j)) [.st f 0]) [.fl f]) h (by omega) (by omega)
          have e4 : tf (tf (tf (tf R (doOps E j)) [.st f 0]) [.fl f]) [.fe] = tf R (recOps f E j) := by
            rw [← tf_append, ← tf_append, ← tf_append]
            rfl
          rw [e4] at h4
          clear e1 e4 b1 b2 b3 l1 hst hdl
          have H2 := Lib.hid h2
          have H3 := Lib.hid h3
          have H4 := Lib.hid h4
          clear h2 h3 h4
          go_wp2_with fail
          (with_reducible refine h1.mono ?_)
          rintro e w5 ⟨rfl, hT5, hK5⟩
          have h2 := H2.out w5 hT5
          clear h1
          go_wp2_with fail
          (with_reducible refine h2.mono ?_)
          rintro e w6 ⟨rfl, hT6, hK6⟩
          have h3 := H3.out w6 hT6
          clear h2
          go_wp2_with fail
          (with_reducible refine h3.mono ?_)
          rintro e w7 ⟨rfl, hT7, hK7⟩
          have h4 := H4.out w7 hT7
          clear h3
          go_wp2_with fail
          (with_reducible refine h4.mono ?_)
          rintro e w8 ⟨rfl, hT8, hK8⟩
          go_wp2
          go_end0
          exact ⟨rfl, hT8, (((hKa.trans hK5).trans hK6).trans hK7).trans hK8⟩
end Go.Proofs.Ytejhdmpobaffcaa
