/-
  Package redo: do. No conditions but what a device is, and that few steps are counted.
-/
import Derived.Test.YtejhdmpobaffcaaRedo3
namespace Go.Proofs.Ytejhdmpobaffcaa
open Go.RowKit Go.Flo
set_option maxRecDepth 100000

section
variable {S S' : St} {E : Nat → Ent} {i n : Nat}
theorem doStores_pre (E : Nat → Ent) {i n : Nat} (h : i < n) : ∃ r, doStores E n = doStores E i ++ (.st (E i).a (E i).v :: r) := by
  induction n with
  | zero => omega
  | succ n ih =>
    by_cases hi' : i = n
    · subst hi'
      exact ⟨[], rfl⟩
    · obtain ⟨r, hr⟩ := ih (by omega)
      refine ⟨r ++ [.st (E n).a (E n).v], ?_⟩
      simp only [doStores]
      rw [hr]
      simp
theorem doFl_pre (E : Nat → Ent) {i n : Nat} (h : i < n) (hs : seenB E i ((E i).a.toNat / 8) = false) : ∃ r, doFl E n = doFl E i ++ (.fl (E i).a :: r) := by
  induction n with
  | zero => omega
  | succ n ih =>
    by_cases hi' : i = n
    · subst hi'
      exact ⟨[], by simp [doFl, hs]⟩
    · obtain ⟨r, hr⟩ := ih (by omega)
      refine ⟨r ++ (if seenB E n ((E n).a.toNat / 8) then [] else [.fl (E n).a]), ?_⟩
      simp only [doFl]
      rw [hr]
      simp
theorem do_err1 (hi' : i < n) (h : play S (doStores E i) = (S', 0)) (he : opA S' (.st (E i).a (E i).v) ≠ 0) : play S (doOps E n) = (opS S' (.st (E i).a (E i).v), opA S' (.st (E i).a (E i).v)) := by
  obtain ⟨r, hr⟩ := doStores_pre E hi'
  unfold doOps
  rw [hr, List.append_assoc, List.cons_append]
  exact play_err1 h he
theorem do_next1 (h : play S (doStores E i) = (S', 0)) (h1 : opA S' (.st (E i).a (E i).v) = 0) : play S (doStores E (i + 1)) = (opS S' (.st (E i).a (E i).v), 0) := play_ok1 h h1
theorem do_err2 (hi' : i < n) (hs : seenB E i ((E i).a.toNat / 8) = false) (h : play S (doStores E n ++ doFl E i) = (S', 0)) (he : opA S' (.fl (E i).a) ≠ 0) : play S (doOps E n) = (opS S' (.fl (E i).a), opA S' (.fl (E i).a)) := by
  obtain ⟨r, hr⟩ := doFl_pre E hi' hs
  unfold doOps
  rw [hr]
  have := play_err1 (b := r ++ [.fe]) h he
  simpa using this
theorem do_next2 (hs : seenB E i ((E i).a.toNat / 8) = false) (h : play S (doStores E n ++ doFl E i) = (S', 0)) (h1 : opA S' (.fl (E i).a) = 0) : play S (doStores E n ++ doFl E (i + 1)) = (opS S' (.fl (E i).a), 0) := by
  have := play_ok1 h h1
  simpa [doFl, hs] using this
theorem do_next3 (hs : seenB E i ((E i).a.toNat / 8) = true) (h : play S (doStores E n ++ doFl E i) = (S', 0)) : play S (doStores E n ++ doFl E (i + 1)) = (S', 0) := by
  simpa [doFl, hs] using h
theorem do_end (h : play S (doStores E n ++ doFl E n) = (S', 0)) : play S (doOps E n) = (opS S' .fe, opA S' .fe) := by
  unfold doOps
  rw [← List.append_assoc, play_more h, play_one]
end

def DoRel (S : St) (L : Loc) (E : Nat → Ent) (n : Nat) (w1 : World) (x : Value) (wr : World) : Prop :=
  ∃ (i : Nat) (S' : St), x = .int .i64 i ∧ i ≤ n ∧ play S (doStores E i) = (S', 0) ∧ Dev wr L S' ∧ Keep L.own w1 wr
def DoRel2 (S : St) (L : Loc) (E : Nat → Ent) (n : Nat) (G M : Nat) (w1 : World) (x : Value) (wr : World) : Prop :=
  ∃ (i : Nat) (S' : St), x = .int .i64 i ∧ i ≤ n ∧ play S (doStores E n ++ doFl E i) = (S', 0) ∧ Dev wr L S' ∧ Row wr 4 G M M (bl (seenB E i)) ∧ Keep (L.own ++ [G]) w1 wr

set_option maxHeartbeats 8000000 in
theorem rdo_any (w : World) (L : Loc) (S : St) (h : Dev w L S) (f t : Int) (A : Option Addr) (n cap : Nat) (E : Nat → Ent) (hE : Ents w L.own A n cap E) (hn : n ≤ 1024) (ha : ∀ j, j < n → 0 ≤ (E j).a ∧ (E j).a < S.n) (s0 : 0 ≤ S.steps) (s1 : S.steps < 900000) :
    Calls Try.prog 67 #[.agg #[.pointer (some ⟨L.d, 0, none⟩), .int .i64 f, .int .i64 t], .slice A n cap] w (Did L (play S (doOps E n)).1 w (.int .i64 (play S (doOps E n)).2)) := by
  have k0 : Keep [] w (w.alloc (.cells #[.pointer (some ⟨L.d, 0, none⟩), .int .i64 f, .int .i64 t] 73)) := Keep.alloc _ _
  have hB := h.fresh
  have hcap := hE.cap
  have hnc := hE.nc
  have hSn := h.n
  obtain ⟨i4, hi4, z4a, z4b, z4c⟩ := info_parts parts4
  have hm1 : ∀ W : World, (Instr.makeSlice 69 (.int .i64 ((S.n : Int) / 8 + 1)) (.int .i64 ((S.n : Int) / 8 + 1))).run Try.prog W = .ok (.slice (some ⟨W.heap.size, 0, none⟩) (S.n / 8 + 1) (S.n / 8 + 1)) (W.alloc (.cells (madeCells (Value.bool false).cells ((S.n / 8 + 1) * 1)) 4)) := by
    intro W
    have := run_make (P := Try.prog) W 69 4 i4 (.bool false) Try.underlying69 hi4 z4a .i64 .i64 ((S.n / 8 + 1 : Nat) : Int) ((S.n / 8 + 1 : Nat) : Int) (by omega) (by omega) (by rw [z4c]; omega) (by omega)
    rw [z4b] at this
    have e : ((S.n : Int) / 8 + 1).toNat = S.n / 8 + 1 := by omega
    simpa [e] using this
  have hmk := fun W : World => Row.made W 4 (.bool false) rfl (S.n / 8 + 1) (by unfold maxLen; omega)
  have HMK := Lib.hid hmk
  have HE := Lib.hid (hE.keep0 k0)
  have HE0 := Lib.hid hE
  have hD := h.keep k0 (by simp)
  have hbx := fun W (hk : Keep L.own (w.alloc (.cells #[.pointer (some ⟨L.d, 0, none⟩), .int .i64 f, .int .i64 t] 73)) W) => box3 (w := w) (W' := W) (own := L.own) rfl hk hB
  have hbx2 := fun G (hG : w.heap.size ∉ L.own ++ [G]) W (hk : Keep (L.own ++ [G]) (w.alloc (.cells #[.pointer (some ⟨L.d, 0, none⟩), .int .i64 f, .int .i64 t] 73)) W) => box3 (w := w) (W' := W) (own := L.own ++ [G]) rfl hk hG
  have hsz : w.heap.size < (w.alloc (.cells #[.pointer (some ⟨L.d, 0, none⟩), .int .i64 f, .int .i64 t] 73)).heap.size := by simp
  have HBX := Lib.hid hbx
  have HBX2 := Lib.hid hbx2
  have HB := Lib.hid hB
  have HA := Lib.hid ha
  clear hE h hbx hbx2 ha hB hi4 z4a z4b z4c hmk
  generalize madeCells (Value.bool false).cells ((S.n / 8 + 1) * 1) = Z at *
  go_enter Try.func67, Try.ntmps67
  go_wp2_with fail
  generalize w.alloc (.cells #[.pointer (some ⟨L.d, 0, none⟩), .int .i64 f, .int .i64 t] 73) = w1 at *
  go_loopw [15] (fun x wr => DoRel S L E n w1 x wr) (fun x _ => n - (intOf x).toNat)
  case atStart => exact ⟨0, S, rfl, by omega, rfl, hD, Keep.refl _ _⟩
  case round =>
    obtain ⟨i, S', rfl, hin, hpl, hD1, hK⟩ := hrel
    have hst := play_steps S (doStores E i)
    rw [hpl, doStores_len] at hst
    dsimp only at hst
    have HPL := Lib.hid hpl
    have hSn' : S'.n = S.n := by have := play_n S (doStores E i); rwa [hpl] at this
    have HSN := Lib.hid hSn'
    clear hpl hSn'
    obtain ⟨b0, b1, b2, b3⟩ := HBX.out wr hK
    by_cases hlt : i < n
    · obtain ⟨b, o, rfl, hbo, hb, hcc⟩ := (HE.out.keep hK).cells (by omega)
      obtain ⟨c0, c1⟩ := hcc i hlt
      have hlt' : (i : Int) < (n : Int) := by omega
      have ki : Keep [] wr (wr.alloc (.cells #[.int .i64 (E i).a, .int .u64 (E i).v] 46)) := Keep.alloc _ _
      have h1 := st_op _ L S' (hD1.keep ki (by simp)) (E i).a (E i).v (by omega) (by omega)
      have F1 := Lib.hid (do_err1 hlt HPL.out)
      have F3 := Lib.hid (do_next1 HPL.out)
      clear hcc hD hst HA HPL HE HSN hm1
      generalize opA S' (.st (E i).a (E i).v) = a1 at *
      generalize opS S' (.st (E i).a (E i).v) = S1 at *
      go_wp2_with fail
      (with_reducible refine h1.mono ?_)
      rintro e w3 ⟨rfl, hD3, hK3⟩
      have hKa := (hK.trans ki.of_nil).trans hK3
      clear h1 b0 b1 b2 b3 c0 c1 hD1
      by_cases e1 : a1 = 0
      · subst e1
        have HF := Lib.hid (F3.out (by simp))
        clear F1 F3
        go_wp2_with fail
        exact ⟨⟨i + 1, S1, by go_num, by omega, HF.out, hD3, hKa⟩, by simp [intOf]; omega⟩
      · have d1 : (a1 != 0) = true := by simpa using e1
        have HF := Lib.hid (F1.out e1)
        clear F1 F3 e1
        go_wp2
        go_ret
        rw [HF.out]
        exact ⟨rfl, hD3, k0.of_nil.trans hKa⟩
    · have hik : i = n := by omega
      subst hik
      have hlen := len_any wr L S' hD1
      rw [HSN.out] at hlen
      have hG : wr.heap.size ∉ L.own := hD1.fresh
      have hwr : w1.heap.size ≤ wr.heap.size := hK.size
      have hG2 : w.heap.size ∉ L.own ++ [wr.heap.size] := by
        simp only [List.mem_append, List.mem_singleton, not_or]
        exact ⟨HB.out, by omega⟩
      have hR := HMK.out wr
      have kz : Keep [] wr (wr.alloc (.cells Z 4)) := Keep.alloc _ _
      have hD2 := hD1.keep kz (by simp)
      have hK2 : Keep (L.own ++ [wr.heap.size]) w1 (wr.alloc (.cells Z 4)) := (hK.mono (fun k _ hm => List.mem_append_left _ hm)).trans kz.of_nil
      have hE2 : Ents w1 (L.own ++ [wr.heap.size]) A i cap E := by
        have h0 : Ents w (L.own ++ [wr.heap.size]) A i cap E := ⟨HE0.out.nc, HE0.out.cap, fun h0 => by
          obtain ⟨b, o, e1, e2, e3, e4⟩ := HE0.out.cells h0
          exact ⟨b, o, e1, by simp only [List.mem_append, List.mem_singleton, not_or]; exact ⟨e2, by omega⟩, e3, e4⟩⟩
        exact h0.keep0 k0
      have HE2 := Lib.hid hE2
      have HG := Lib.hid hG
      have HG2 := Lib.hid hG2
      have hst2 : 0 ≤ S'.steps ∧ S'.steps ≤ S.steps + i := by omega
      have hGs : w.heap.size ≤ wr.heap.size := by omega
      clear hE2 hG hG2 HE HE0 hD hst hD1
      go_wp2_with fail
      (with_reducible refine hlen.mono ?_)
      rintro e w' ⟨rfl, rfl⟩
      clear hlen
      go_wp2_with fail
      clear hm1 b0 b1 b2 b3 HMK hK kz
      generalize wr.alloc (.cells Z 4) = wz at *
      generalize wr.heap.size = G at *
      generalize hM : S.n / 8 + 1 = M at *
      have hM1 : 8 * M > S.n ∧ M ≤ 70000 := by omega
      have hST := play_steps S (doStores E i)
      have HM := Lib.hid hM
      clear hM hST
      generalize wr = wo at *
      go_loopw [38] (fun x wr => DoRel2 S L E i G M w1 x wr) (fun x _ => i - (intOf x).toNat)
      case atStart =>
        refine ⟨0, S', rfl, by omega, by rw [show doFl E 0 = [] from rfl, List.append_nil]; exact HPL.out, hD2, hR.congr (fun j _ => by simp [bl, seenB]), hK2⟩
      case round =>
        obtain ⟨k, S'', rfl, hk, hpl, hD3, hR3, hK3⟩ := hrel
        clear hD2 hR hK2
        have hst := play_steps S (doStores E i ++ doFl E k)
        have hfl := doFl_len E k
        rw [hpl, List.length_append, doStores_len] at hst
        dsimp only at hst
        obtain ⟨b0, b1, b2, b3⟩ := HBX2.out G HG2.out wr hK3
        have fin : ∀ W V v, Dev W L V → Keep (L.own ++ [G]) w1 W → play S (doOps E i) = (V, v) → Did L (play S (doOps E i)).1 w (.int .i64 (play S (doOps E i)).2) (.returned (.int .i64 v)) W := by
          intro W V v hV hKV hp
          rw [hp]
          refine ⟨rfl, hV, (k0.of_nil.trans hKV).mono (fun k hk hm => ?_)⟩
          rcases List.mem_append.1 hm with hm | hm
          · exact hm
          · rw [List.mem_singleton] at hm; omega
        have FIN := Lib.hid fin
        clear fin
        by_cases hlt : k < i
        · obtain ⟨b, o, rfl, hbo, hb, hcc⟩ := (HE2.out.keep hK3).cells (by omega)
          obtain ⟨c0, c1⟩ := hcc k hlt
          have hlt' : (k : Int) < (i : Int) := by omega
          have ha := HA.out k hlt
          obtain ⟨m, hm⟩ := Int.eq_ofNat_of_zero_le ha.1
          have hml : m / 8 < M := by omega
          have hml' : (m : Int) / 8 < (M : Int) := by omega
          have rc := hR3.cell hml
          have rz := hR3.frozen (m / 8)
          have hGl := hR3.lt
          unfold bl at rc
          have htn : (E k).a.toNat / 8 = m / 8 := by rw [hm]; rfl
          have ki : Keep [] wr (wr.alloc (.cells #[.int .i64 m, .int .u64 (E k).v] 46)) := Keep.alloc _ _
          have hD3' := hD3.keep ki (by simp)
          have hR3' := hR3.keep ki (by simp)
          have hK3' := hK3.trans (ki.of_nil (own := L.own ++ [G]))
          rw [hm] at c0
          clear hcc HE2
          cases hs : seenB E k (m / 8)
          · rw [hs] at rc
            rw [← htn] at hs
            have h1 := fl_op _ L S'' hD3' (E k).a (by omega) (by omega)
            have F1 := Lib.hid (do_err2 hlt hs hpl)
            have F2 := Lib.hid (do_next2 hs hpl)
            have hrow : ∀ l, seenB E (k + 1) l = if l = m / 8 then true else seenB E k l := by
              intro l
              rw [seenB_succ, htn]
              by_cases hl : l = m / 8
              · simp [hl]
              · rw [if_neg hl]
                have : (m / 8 == l) = false := by simp; omega
                simp [this]
            have HROW := Lib.hid hrow
            have hm65 : m ≤ 65536 := by omega
            generalize opA S'' (.fl (E k).a) = a1 at *
            generalize opS S'' (.fl (E k).a) = S1 at *
            rw [hm] at h1
            clear hrow hs hpl hst hfl htn ha hm HA HPL HM hM1 hst2
            go_wp2_with fail
            (with_reducible refine h1.mono ?_)
            rintro e w3 ⟨rfl, hD4, hK4⟩
            have hR4 := hR3'.keep hK4 HG.out
            have hK5 := hK3'.trans (hK4.mono (own' := L.own ++ [G]) (fun k _ hm => List.mem_append_left _ hm))
            have rz4 := hR4.frozen (m / 8)
            have rc4 := hR4.cell hml
            clear h1 b0 b1 b2 b3 c0 c1 rc rz
            by_cases e1 : a1 = 0
            · subst e1
              have HF := Lib.hid (F2.out (by simp))
              clear F1 F2
              unfold bl at rc4
              go_wp2_with fail
              refine ⟨⟨k + 1, S1, by go_num, by omega, HF.out, hD4.keep (own := [G]) (Keep.setCell _ _ (by simp) _) (fun x hx => by rw [List.mem_singleton] at hx; rw [hx]; exact HG.out), (hR4.set_ (m / 8) _).congr (fun j _ => ?_), hK5.trans (Keep.setCell _ _ (by simp) _)⟩, by simp [intOf]; omega⟩
              unfold bl
              rw [HROW.out]
              split <;> rfl
            · have d1 : (a1 != 0) = true := by simpa using e1
              have HF := Lib.hid (F1.out e1)
              clear F1 F2 e1
              go_wp2
              go_ret
              exact FIN.out _ _ _ hD4 hK5 HF.out
          · rw [hs] at rc
            rw [← htn] at hs
            have HF := Lib.hid (do_next3 hs hpl)
            have hrow : ∀ l, seenB E (k + 1) l = seenB E k l := by
              intro l
              rw [seenB_succ]
              by_cases hl : (E k).a.toNat / 8 = l
              · rw [← hl, hs]; rfl
              · have : ((E k).a.toNat / 8 == l) = false := by simpa using hl
                simp [this]
            have HROW := Lib.hid hrow
            have hm65 : m ≤ 65536 := by omega
            clear hrow hs hpl hst hfl htn ha hm HA HPL HM hM1 hst2
            go_wp2_with fail
            exact ⟨⟨k + 1, S'', by go_num, by omega, HF.out, hD3', hR3'.congr (fun j _ => by unfold bl; rw [HROW.out]), hK3'⟩, by simp [intOf]; omega⟩
        · have hik : k = i := by omega
          subst hik
          have hF := do_end hpl
          have h1 := fe_op wr L S'' hD3 (by omega) (by omega)
          have hf := FIN.out
          rw [hF] at hf
          dsimp only at hf
          have HF := Lib.hid hF
          clear hF hpl hf
          generalize opA S'' .fe = a1 at *
          generalize opS S'' .fe = S1 at *
          have hK3' := hK3
          go_wp2_with fail
          (with_reducible refine h1.mono ?_)
          rintro e w3 ⟨rfl, hD4, hK4⟩
          go_wp2
          go_ret
          exact FIN.out _ _ _ hD4 (hK3.trans (hK4.mono (fun k _ hm => List.mem_append_left _ hm))) HF.out
end Go.Proofs.Ytejhdmpobaffcaa
