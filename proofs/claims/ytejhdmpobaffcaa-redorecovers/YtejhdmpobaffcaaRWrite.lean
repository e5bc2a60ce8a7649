/-
  scullionref3's Write. No conditions but what a device is, and that there are few entries.
-/
import Derived.Test.YtejhdmpobaffcaaTried2
namespace Go.Proofs.Ytejhdmpobaffcaa
open Go.RowKit Go.Flo
set_option maxRecDepth 100000

def RwPost (T : TLoc) (D : List Nat) (R : St × Int) (w : World) (e : Ending) (w' : World) : Prop := e = .returned (.int .i64 R.2) ∧ TwinE w' T D R.1 ∧ Keep T.own w w'
theorem bad_atB {n : Nat} {f t x : Int} (hn : n ≤ 65536) (h0 : -9223372036854775808 ≤ x) (h1 : x ≤ 9223372036854775807) : (!hasB n x || (decide (f ≤ x) && decide (x < t))) = !atB n f t x := by
  cases e : atB n f t x
  · have h2 : ¬ (0 ≤ x ∧ x < n ∧ ¬ (f ≤ x ∧ x < t)) := fun h => by rw [(atB_true hn h0 h1).2 h] at e; cases e
    by_cases a : 0 ≤ x ∧ x < n
    · have : f ≤ x ∧ x < t := by
        by_cases b : f ≤ x ∧ x < t
        · exact b
        · exact absurd ⟨a.1, a.2, b⟩ h2
      simp [this]
    · have : hasB n x = false := by
        cases c : hasB n x
        · rfl
        · exact absurd (hasB_true c) a
      simp [this]
  · have h2 := (atB_true hn h0 h1).1 e
    have : hasB n x = true := hasB_of h2.1 h2.2.1
    rw [this]
    by_cases c : f ≤ x
    · have : ¬ x < t := fun h => h2.2.2 ⟨c, h⟩
      simp [this]
    · simp [c]
def RlRel (n : Nat) (f t : Int) (E : Nat → Ent) (k : Nat) (w1 : World) (x : Value) (wr : World) : Prop := ∃ i : Nat, x = .int .i64 i ∧ i ≤ k ∧ (∀ j, j < i → atB n f t (E j).a = true) ∧ Keep [] w1 wr
def RsRel (w : World) (tb : Nat) (T : TLoc) (D : List Nat) (S : St) (f : Int) (E : Nat → Ent) (n : Nat) (x : Value) (wr : World) : Prop :=
  ∃ i : Nat, x = .int .i64 i ∧ i ≤ n ∧ Td wr tb T D (tf (S, 0) (stores f E i)) ∧ Keep (tb :: T.own) w wr
def RfRel2 (w : World) (tb : Nat) (T : TLoc) (D : List Nat) (S : St) (f : Int) (E : Nat → Ent) (n : Nat) (x : Value) (wr : World) : Prop :=
  ∃ k : Nat, x = .int .i64 ((8 * k : Nat) : Int) ∧ k ≤ (2 * n + 7) / 8 ∧ Td wr tb T D (tf (S, 0) (stores f E n ++ lines f k)) ∧ Keep (tb :: T.own) w wr

theorem TwinE.n {w : World} {T : TLoc} {D : List Nat} {S : St} (h : TwinE w T D S) : S.n ≤ 65536 := by obtain ⟨X, fz, c, h⟩ := h; exact h.n
theorem TwinE.dlt {w : World} {T : TLoc} {D : List Nat} {S : St} (h : TwinE w T D S) : ∀ k ∈ D, k < w.heap.size := by obtain ⟨X, fz, c, h⟩ := h; exact h.dlt
theorem TwinE.mlt {w : World} {T : TLoc} {D : List Nat} {S : St} (h : TwinE w T D S) : T.m < w.heap.size := by obtain ⟨X, fz, c, h⟩ := h; exact h.blk.lt

set_option maxHeartbeats 8000000 in
theorem rwrite_any (w : World) (T : TLoc) (D : List Nat) (S : St) (h : TwinE w T D S) (hTl : ∀ k ∈ T.own, k < w.heap.size) (f t : Int) (A : Option Addr) (n cap : Nat) (E : Nat → Ent) (hE : Ents w T.own A n cap E) (hEB : EB E n) (hn : n ≤ 1024) (s0 : 0 ≤ S.steps) (s1 : S.steps < 800000) :
    Calls Try.prog 18 #[.pointer (some ⟨T.m, 0, none⟩), .int .i64 f, .int .i64 t, .slice A n cap] w (RwPost T D (writeR S f t E n) w) := by
  have har := area_any w T D S h f t
  have hcap := hE.cap
  have hnc := hE.nc
  have hSn := h.n
  have HE := Lib.hid hE
  have HH := Lib.hid h
  have HTL := Lib.hid hTl
  clear hE h hTl
  cases e1 : mayB S.n f t
  · have hR : writeR S f t E n = (S, 1) := by unfold writeR; rw [if_pos e1]
    rw [hR]
    rw [e1] at har
    clear hR e1
    go_enter Try.func18, Try.ntmps18
    go_wp2_with fail
    (with_reducible refine har.mono ?_)
    rintro e w1 ⟨rfl, hK1⟩
    go_wp2
    go_ret
    exact ⟨rfl, HH.out.keepE hK1, hK1.of_nil⟩
  · obtain ⟨f0, f1, t1, f8⟩ := mayB_true e1
    rw [e1] at har
    have hnd : ∀ W, Calls Try.prog 13 #[.int .i64 n] W fun e w' => e = .returned (.int .i64 (8 + 2 * n)) ∧ W = w' := fun W => by
      have := rneed_any W n
      rw [show needI n = 8 + 2 * n by unfold needI; rw [if_neg (by omega)]] at this
      exact this
    have HND := Lib.hid hnd
    clear hnd
    have hsub : IntKind.i64.wrap (t - f) = t - f := IntWalk.i64_in _ (by omega)
    cases e2 : holdsB f t n
    · have hR : writeR S f t E n = (S, 9) := by unfold writeR; rw [if_neg (by rw [e1]; simp), if_pos e2]
      rw [hR]
      have hgt : t - f < 8 + 2 * (n : Int) := by
        simp [holdsB] at e2; have := e2 (by omega); omega
      clear hR e1 e2
      go_enter Try.func18, Try.ntmps18
      go_wp2_with fail
      (with_reducible refine har.mono ?_)
      rintro e w1 ⟨rfl, hK1⟩
      have hnd := HND.out w1
      clear har
      generalize 8 + 2 * (n : Int) = nd at *
      go_wp2_with fail
      (with_reducible refine hnd.mono ?_)
      rintro e w2 ⟨rfl, rfl⟩
      go_wp2
      go_ret
      exact ⟨rfl, HH.out.keepE hK1, hK1.of_nil⟩
    · have hle : 8 + 2 * (n : Int) ≤ t - f := (holdsB_true e2).2
      have HE1 := Lib.hid (And.intro e1 e2)
      have HLE := Lib.hid hle
      clear e1 e2
      go_enter Try.func18, Try.ntmps18
      go_wp2_with fail
      (with_reducible refine har.mono ?_)
      rintro e w1 ⟨rfl, hK1⟩
      have hnd := HND.out w1
      have hle2 : ∃ nd : Int, nd = 8 + 2 * (n : Int) := ⟨_, rfl⟩
      obtain ⟨nd, hnd2⟩ := hle2
      rw [← hnd2] at hnd hle
      clear har hnd2
      go_wp2_with fail
      (with_reducible refine hnd.mono ?_)
      rintro e w2 ⟨rfl, rfl⟩
      clear hnd HND
      go_wp2_with fail
      clear hle
      go_loopw [37] (fun x wr => RlRel S.n f t E n w1 x wr) (fun x _ => n - (intOf x).toNat)
      case atStart => exact ⟨0, rfl, by omega, fun j hj => by omega, Keep.refl _ _⟩
      case round =>
        obtain ⟨i, rfl, hin, hok, hK2⟩ := hrel
        have HOK := Lib.hid hok
        have hKw := hK1.trans hK2
        clear hok
        by_cases hlt : i < n
        · obtain ⟨b, o, hA, _, hb, hcc⟩ := (HE.out.keep0 hKw).cells (by omega)
          subst hA
          obtain ⟨c0, c1⟩ := hcc i hlt
          have hlt' : (i : Int) < (n : Int) := by omega
          have ki : Keep [] wr (wr.alloc (.cells #[.int .i64 (E i).a, .int .u64 (E i).v] 46)) := Keep.alloc _ _
          have hbd := bad_any _ T D S (HH.out.keepE (hKw.trans ki)) (E i).a f t
          rw [bad_atB hSn (hEB i hlt).1 (hEB i hlt).2.1] at hbd
          clear hcc
          cases hat : atB S.n f t (E i).a
          · rw [hat] at hbd
            have hR : writeR S f t E n = (S, 1) := by
              unfold writeR
              rw [if_neg (by rw [HE1.out.1]; simp), if_neg (by rw [HE1.out.2]; simp), if_pos (leavesB_no hlt hat)]
            have HEQ := Lib.hid hR
            clear hR hat
            go_wp2_with fail
            (with_reducible refine hbd.mono ?_)
            rintro e w3 ⟨rfl, rfl⟩
            go_wp2
            go_ret
            rw [HEQ.out]
            exact ⟨rfl, HH.out.keepE (hKw.trans ki), (hKw.trans ki).of_nil⟩
          · rw [hat] at hbd
            have HA := Lib.hid hat
            clear hat
            go_wp2_with fail
            (with_reducible refine hbd.mono ?_)
            rintro e w3 ⟨rfl, rfl⟩
            clear hbd
            go_wp2_with fail
            exact ⟨⟨i + 1, by go_num, by omega, fun j hj => by
              rcases Nat.lt_or_ge j i with h | h
              · exact HOK.out j h
              · rw [show j = i by omega]; exact HA.out, hK2.trans ki⟩, by simp [intOf]; omega⟩
        · obtain rfl : i = n := by omega
          have hnl : ¬ (i : Int) < (i : Int) := by omega
          have hlv : leavesB S.n f t E i = true := leavesB_true.2 HOK.out
          have hld := rload_any wr T D S (HH.out.keepE hKw) f
          have hhas : hasB S.n f = true := hasB_of f0 (by omega)
          have hWR : writeR S f t E i = (if S.off = true then (S, 7) else if S.now f.toNat ≠ 0 then (S, 10) else if i = 0 then (S, 0) else play S (wrOps f E i)) := by
            unfold writeR
            rw [if_neg (by rw [HE1.out.1]; simp), if_neg (by rw [HE1.out.2]; simp), if_neg (by rw [hlv]; simp)]
          unfold LoadPost loadV at hld
          rw [hhas] at hld
          have HWQ := Lib.hid hWR
          clear hWR hlv hhas hlt
          cases ho : S.off
          · rw [ho] at hld
            simp only [ans, Bool.not_false, Bool.and_self, if_true, Bool.false_eq_true, if_false] at hld
            by_cases hm : S.now f.toNat = 0
            · rw [hm] at hld
              by_cases h0 : i = 0
              · have HEQ := Lib.hid (show writeR S f t E i = (S, 0) by rw [HWQ.out]; simp [ho, hm, h0])
                subst h0
                clear HWQ
                go_wp2_with fail
                (with_reducible refine hld.mono ?_)
                rintro e w3 ⟨rfl, rfl⟩
                go_wp2
                go_ret
                rw [HEQ.out]
                exact ⟨rfl, HH.out.keepE hKw, hKw.of_nil⟩
              · have HEQ := Lib.hid (show writeR S f t E i = play S (wrOps f E i) by rw [HWQ.out]; simp [ho, hm, h0])
                clear HWQ
                have h0' : (0 : Int) < (i : Int) := by omega
                have h0b : ((i : Int) == 0) = false := by simp; omega
                have kb : Keep [] wr (wr.alloc (.cells #[.pointer (some ⟨T.m, 0, none⟩), .int .i64 0] 81)) := Keep.alloc _ _
                have hTw : ∀ k ∈ T.own, k < wr.heap.size := fun k hk => Nat.lt_of_lt_of_le (HTL.out k hk) hKw.size
                have hTd : Td (wr.alloc (.cells #[.pointer (some ⟨T.m, 0, none⟩), .int .i64 0] 81)) wr.heap.size T (D ++ [wr.heap.size]) (S, 0) := ⟨Blk.new wr 81 _, (HH.out.keepE hKw).more kb (by simp) hTw, by simp, fun hm => by have := hTw _ hm; omega⟩
                have hEn := (HE.out.keep0 (hKw.trans kb))
                have hE2 : Ents (wr.alloc (.cells #[.pointer (some ⟨T.m, 0, none⟩), .int .i64 0] 81)) (wr.heap.size :: T.own) A i cap E := ⟨hEn.nc, hEn.cap, fun hp => by
                  obtain ⟨b, o, q1, q2, q3, q4⟩ := (HE.out.keep0 hKw).cells hp
                  obtain ⟨b', o', q1', q2', q3', q4'⟩ := hEn.cells hp
                  rw [q1] at q1'
                  injection q1' with q1'
                  injection q1' with r1 r2
                  subst r1 r2
                  exact ⟨b, o, q1, fun hm => by
                    rcases List.mem_cons.1 hm with h | h
                    · omega
                    · exact q2 h, q3', q4'⟩⟩
                have haj : ∀ j, j < i → 0 ≤ (E j).a ∧ (E j).a ≤ 65536 := fun j hj => by
                  have := (atB_true hSn (hEB j hj).1 (hEB j hj).2.1).1 (HOK.out j hj)
                  omega
                have HTD := Lib.hid hTd
                have HE2 := Lib.hid hE2
                have HAJ := Lib.hid haj
                have HTW := Lib.hid hTw
                have hT3 : ∀ k ∈ T.own, k < (wr.alloc (.cells #[.pointer (some ⟨T.m, 0, none⟩), .int .i64 0] 81)).heap.size := fun k hk => by have := hTw k hk; simp; omega
                have hD3 := hTd.twin.dlt
                have HT3 := Lib.hid hT3
                have HD3 := Lib.hid hD3
                have hKb := hKw.trans kb
                have hszw := hKw.size
                clear hTd hEn hE2 haj hTw hT3 hD3 HOK h0 hm HE1
                generalize wr = wo at *
                go_wp2_with fail
                (with_reducible refine hld.mono ?_)
                rintro e w3 ⟨rfl, rfl⟩
                clear hld
                go_wp2_with fail
                generalize wo.alloc (.cells #[.pointer (some ⟨T.m, 0, none⟩), .int .i64 0] 81) = w3 at *
                generalize htb : wo.heap.size = tb at *
                have HTB := Lib.hid htb
                clear htb
                go_loopw [69] (fun x wr => RsRel w3 tb T (D ++ [tb]) S f E i x wr) (fun x _ => i - (intOf x).toNat)
                case atStart => exact ⟨0, rfl, by omega, HTD.out, Keep.refl _ _⟩
                case round =>
                  obtain ⟨j, rfl, hji, hT4, hK4⟩ := hrel
                  have hst := tf_steps (S, 0) (stores f E j)
                  rw [stores_len] at hst
                  dsimp only at hst
                  by_cases hlt : j < i
                  · obtain ⟨b, o, hA, _, hb, hcc⟩ := (HE2.out.keep hK4).cells (by omega)
                    subst hA
                    obtain ⟨c0, c1⟩ := hcc j hlt
                    have haj := HAJ.out j hlt
                    have hlt' : (j : Int) < (i : Int) := by omega
                    have ea : IntKind.u64.wrap (E j).a = (E j).a := IntWalk.u64_in _ (by omega)
                    have ki : Keep [] wr (wr.alloc (.cells #[.int .i64 (E j).a, .int .u64 (E j).v] 46)) := Keep.alloc _ _
                    have hs1 := tstore_any _ tb T (D ++ [tb]) _ (hT4.keep0 ki) (f + 8 + 2 * j) (E j).a (by omega) (by omega)
                    have b1 := tf_steps (tf (S, 0) (stores f E j)) [.st (f + 8 + 2 * j) (E j).a]
                    rw [show ([.st (f + 8 + 2 * j) (E j).a] : List Stp).length = 1 from rfl] at b1
                    have hs2 := fun W h => tstore_any W tb T (D ++ [tb]) (tf (tf (S, 0) (stores f E j)) [.st (f + 8 + 2 * j) (E j).a]) h (f + 8 + 2 * j + 1) (E j).v (by omega) (by omega)
                    have hnx : tf (tf (tf (S, 0) (stores f E j)) [.st (f + 8 + 2 * j) (E j).a]) [.st (f + 8 + 2 * j + 1) (E j).v] = tf (S, 0) (stores f E (j + 1)) := by
                      rw [← tf_append, ← tf_append]
                      simp [stores]
                    rw [hnx] at hs2
                    have hB4 : Blk (wr.alloc (.cells #[.int .i64 (E j).a, .int .u64 (E j).v] 46)) wr.heap.size 46 #[.int .i64 (E j).a, .int .u64 (E j).v] := Blk.new wr 46 _
                    have hwl : wr.heap.size ∉ tb :: T.own := fun hm => by
                      rcases List.mem_cons.1 hm with h | h
                      · have := hT4.blk.lt; omega
                      · have := HT3.out _ h; have := hK4.size; omega
                    have HB4 := Lib.hid hB4
                    have HWL := Lib.hid hwl
                    have HS2 := Lib.hid hs2
                    have hx0 : 0 ≤ f + 8 + 2 * (j : Int) ∧ f + 8 + 2 * (j : Int) ≤ 100000 := by omega
                    have hix : f + 8 + 2 * (j : Int) + 1 = f + 8 + 2 * (j : Int) + 1 := rfl
                    clear hcc hnx hs2 hB4 hwl hst b1 hT4 haj hix
                    go_wp2_with fail
                    (with_reducible refine hs1.mono ?_)
                    rintro e w5 ⟨rfl, hT5, hK5⟩
                    have d1 := ((HB4.out.keep hK5 HWL.out).cell 1).trans (show _ = some (Value.int .u64 (E j).v) from rfl)
                    have hs2 := HS2.out w5 hT5
                    clear hs1 HS2 c0 c1
                    go_wp2_with fail
                    (with_reducible refine hs2.mono ?_)
                    rintro e w6 ⟨rfl, hT6, hK6⟩
                    have hK7 := ((hK4.trans ki.of_nil).trans hK5).trans hK6
                    clear hs2 d1
                    go_wp2_with fail
                    exact ⟨⟨j + 1, by go_num, by omega, hT6, hK7⟩, by simp [intOf]; omega⟩
                  · obtain rfl : j = i := by omega
                    have hnl2 : ¬ (j : Int) < (j : Int) := by omega
                    clear hlt
                    generalize wr = wp at *
                    have HT4 := Lib.hid hT4
                    clear hT4
                    go_wp2_with fail
                    go_loopw [17] (fun x wr => RfRel2 w3 tb T (D ++ [tb]) S f E j x wr) (fun x _ => (2 * j + 8 - (intOf x).toNat))
                    case atStart => exact ⟨0, rfl, by omega, by rw [show lines f 0 = [] from rfl, List.append_nil]; exact HT4.out, hK4⟩
                    case round =>
                      obtain ⟨k, rfl, hk, hT6, hK6⟩ := hrel
                      have hst2 := tf_steps (S, 0) (stores f E j ++ lines f k)
                      rw [List.length_append, stores_len, lines_len] at hst2
                      dsimp only at hst2
                      have hkn : k < (2 * j + 7) / 8 ↔ ((8 * k : Nat) : Int) < 2 * (j : Int) := by omega
                      by_cases hlt : k < (2 * j + 7) / 8
                      · have hlt' := hkn.1 hlt
                        have hfl := tflush_any wr tb T (D ++ [tb]) _ hT6 (f + 8 + 8 * k) (by omega) (by omega)
                        have hnx : tf (tf (S, 0) (stores f E j ++ lines f k)) [.fl (f + 8 + 8 * k)] = tf (S, 0) (stores f E j ++ lines f (k + 1)) := by
                          rw [← tf_append]
                          simp [lines]
                        rw [hnx] at hfl
                        have hq : ((8 * k : Nat) : Int) + 8 = ((8 * (k + 1) : Nat) : Int) := by omega
                        have hq2 : f + 8 + 8 * (k : Int) = f + 8 + ((8 * k : Nat) : Int) := by omega
                        rw [hq2] at hfl
                        have HQ := Lib.hid hq
                        have hkb : 8 * k ≤ 3000 := by omega
                        generalize hqq : ((8 * k : Nat) : Int) = q at *
                        have hqb : 0 ≤ q ∧ q ≤ 3000 := by omega
                        clear hqq hnx hq hq2 hkn hst hst2 hT6
                        go_wp2_with fail
                        (with_reducible refine hfl.mono ?_)
                        rintro e w7 ⟨rfl, hT7, hK7⟩
                        clear hfl
                        go_wp2_with fail
                        exact ⟨⟨k + 1, by rw [← HQ.out], by omega, hT7, hK6.trans hK7⟩, by simp [intOf]; omega⟩
                      · have hlt' : ¬ ((8 * k : Nat) : Int) < 2 * (j : Int) := fun h => hlt (hkn.2 h)
                        have hkk : k = (2 * j + 7) / 8 := by omega
                        have hdd : decide (((8 * k : Nat) : Int) < 2 * (j : Int)) = false := by simpa using hlt'
                        rw [hkk] at hT6
                        rw [hkk] at hst2
                        have hl1 : (stores f E j ++ lines f ((2 * j + 7) / 8)) ++ [.fe] = layOps f E j := by simp [layOps]
                        have h1 := tfence_any wr tb T (D ++ [tb]) _ hT6 (by omega) (by omega)
                        rw [← tf_append, hl1] at h1
                        have b1 := tf_steps (S, 0) (layOps f E j)
                        have l1 : (layOps f E j).length ≤ 3000 := by simp [layOps, stores_len, lines_len]; omega
                        dsimp only at b1
                        have h2 := fun W h => tstore_any W tb T (D ++ [tb]) (tf (S, 0) (layOps f E j)) h f j (by omega) (by omega)
                        have b2 := tf_steps (tf (S, 0) (layOps f E j)) [.st f j]
                        rw [show ([.st f (j : Int)] : List Stp).length = 1 from rfl] at b2
                        have h3 := fun W h => tflush_any W tb T (D ++ [tb]) (tf (tf (S, 0) (layOps f E j)) [.st f j]) h f (by omega) (by omega)
                        have b3 := tf_steps (tf (tf (S, 0) (layOps f E j)) [.st f j]) [.fl f]
                        rw [show ([.fl f] : List Stp).length = 1 from rfl] at b3
                        have h4 := fun W h => tfence_any W tb T (D ++ [tb]) (tf (tf (tf (S, 0) (layOps f E j)) [.st f j]) [.fl f]) h (by omega) (by omega)
                        have e4 : tf (tf (tf (tf (S, 0) (layOps f E j)) [.st f j]) [.fl f]) [.fe] = tf (S, 0) (layOps f E j ++ markOps f j) := by
                          rw [← tf_append, ← tf_append, ← tf_append]
                          simp [markOps]
                        rw [e4] at h4
                        have b4 := tf_steps (S, 0) (layOps f E j ++ markOps f j)
                        have l4 : (layOps f E j ++ markOps f j).length ≤ 3003 := by rw [List.length_append]; simp [markOps]; exact l1
                        dsimp only at b4
                        have h5 := fun W h hT hD hE => tdone_any W tb T (D ++ [tb]) (tf (S, 0) (layOps f E j ++ markOps f j)) h hT hD f A j cap E hE (by omega) HAJ.out (by omega) (by omega)
                        have e5 : tf (tf (S, 0) (layOps f E j ++ markOps f j)) (recOps f E j) = play S (wrOps f E j) := by
                          rw [← tf_append, tf_play]
                          simp [wrOps]
                        rw [e5] at h5
                        have H2 := Lib.hid h2
                        have H3 := Lib.hid h3
                        have H4 := Lib.hid h4
                        have H5 := Lib.hid h5
                        have euj : IntKind.u64.wrap (j : Int) = j := IntWalk.u64_in _ (by omega)
                        generalize hqq : ((8 * k : Nat) : Int) = q at *
                        clear h2 h3 h4 h5 hl1 b1 l1 b2 b3 e4 b4 l4 e5 hT6 hst hst2 hkn hlt hkk hqq hlt'
                        generalize play S (wrOps f E j) = R at *
                        go_wp2_with fail
                        (with_reducible refine h1.mono ?_)
                        rintro e w7 ⟨rfl, hT7, hK7⟩
                        have h2 := H2.out w7 hT7
                        clear h1
                        go_wp2_with fail
                        (with_reducible refine h2.mono ?_)
                        rintro e w8 ⟨rfl, hT8, hK8⟩
                        have h3 := H3.out w8 hT8
                        clear h2
                        go_wp2_with fail
                        (with_reducible refine h3.mono ?_)
                        rintro e w9 ⟨rfl, hT9, hK9⟩
                        have h4 := H4.out w9 hT9
                        clear h3
                        go_wp2_with fail
                        (with_reducible refine h4.mono ?_)
                        rintro e w10 ⟨rfl, hT10, hK10⟩
                        have hKz := (((hK6.trans hK7).trans hK8).trans hK9).trans hK10
                        have h5 := H5.out w10 hT10 (fun k hk => Nat.lt_of_lt_of_le (HT3.out k hk) hKz.size) (fun k hk => Nat.lt_of_lt_of_le (HD3.out k hk) hKz.size) (HE2.out.keep hKz)
                        clear h4
                        go_wp2_with fail
                        (with_reducible refine h5.mono ?_)
                        rintro e w11 ⟨rfl, hT11, hK11⟩
                        have cf : w11.cell? ⟨tb, 1, none⟩ = some (.int .i64 R.2) := (hT11.blk.cell 1).trans rfl
                        have hKy := hKz.trans hK11
                        have hfin : Keep T.own w w11 := (hKb.of_nil.trans hKy).mono (fun k hk hm => by
                          rcases List.mem_cons.1 hm with h | h
                          · have := HTB.out; omega
                          · exact h)
                        clear h5
                        go_wp2
                        go_ret
                        rw [HEQ.out]
                        exact ⟨rfl, hT11.twin.less (fun k hk => List.mem_append.2 (.inl hk)), hfin⟩
            · have hmb : (S.now f.toNat != 0) = true := by simpa using hm
              have HEQ := Lib.hid (show writeR S f t E i = (S, 10) by rw [HWQ.out]; simp [ho, hm])
              clear hm HWQ
              generalize S.now f.toNat = mk at *
              go_wp2_with fail
              (with_reducible refine hld.mono ?_)
              rintro e w3 ⟨rfl, rfl⟩
              go_wp2
              go_ret
              rw [HEQ.out]
              exact ⟨rfl, HH.out.keepE hKw, hKw.of_nil⟩
          · rw [ho] at hld
            have HEQ := Lib.hid (show writeR S f t E i = (S, 7) by rw [HWQ.out]; simp [ho])
            simp only [ans, Bool.not_true, Bool.false_and, Bool.false_eq_true, if_false, if_true] at hld
            clear HWQ
            go_wp2_with fail
            (with_reducible refine hld.mono ?_)
            rintro e w3 ⟨rfl, rfl⟩
            go_wp2
            go_ret
            rw [HEQ.out]
            exact ⟨rfl, HH.out.keepE hKw, hKw.of_nil⟩
end Go.Proofs.Ytejhdmpobaffcaa
