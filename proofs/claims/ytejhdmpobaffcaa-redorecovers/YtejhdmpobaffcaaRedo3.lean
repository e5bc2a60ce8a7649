/-
  Package redo: lay. No conditions but what a device is, and that few steps are counted.
-/
import Derived.Test.YtejhdmpobaffcaaRedo2
import Derived.Deep.RegionHeld3
namespace Go.Proofs.Ytejhdmpobaffcaa
open Go.RowKit Go.Flo
set_option maxRecDepth 100000

section
variable {S S' : St} {f : Int} {E : Nat → Ent} {i n k : Nat}
theorem stores_pre (f : Int) (E : Nat → Ent) {i n : Nat} (h : i < n) : ∃ r, stores f E n = stores f E i ++ (.st (f + 8 + 2 * i) (E i).a :: .st (f + 8 + 2 * i + 1) (E i).v :: r) := by
  induction n with
  | zero => omega
  | succ n ih =>
    by_cases hi' : i = n
    · subst hi'
      exact ⟨[], rfl⟩
    · obtain ⟨r, hr⟩ := ih (by omega)
      refine ⟨r ++ [.st (f + 8 + 2 * n) (E n).a, .st (f + 8 + 2 * n + 1) (E n).v], ?_⟩
      simp only [stores]
      rw [hr]
      simp
theorem lines_pre (f : Int) {i n : Nat} (h : i < n) : ∃ r, lines f n = lines f i ++ (.fl (f + 8 + 8 * i) :: r) := by
  induction n with
  | zero => omega
  | succ n ih =>
    by_cases hi' : i = n
    · subst hi'
      exact ⟨[], rfl⟩
    · obtain ⟨r, hr⟩ := ih (by omega)
      refine ⟨r ++ [.fl (f + 8 + 8 * n)], ?_⟩
      simp only [lines]
      rw [hr]
      simp
theorem play_err1 {a b : List Stp} {o : Stp} (h : play S a = (S', 0)) (he : opA S' o ≠ 0) : play S (a ++ (o :: b)) = (opS S' o, opA S' o) := by
  rw [play_more h]
  simp only [play, if_neg he]
theorem play_ok1 {a : List Stp} {o : Stp} (h : play S a = (S', 0)) (he : opA S' o = 0) : play S (a ++ [o]) = (opS S' o, 0) := by
  rw [play_more h, play_one, he]
theorem lay_err1 (hi' : i < n) (h : play S (stores f E i) = (S', 0)) (he : opA S' (.st (f + 8 + 2 * i) (E i).a) ≠ 0) : play S (layOps f E n) = (opS S' (.st (f + 8 + 2 * i) (E i).a), opA S' (.st (f + 8 + 2 * i) (E i).a)) := by
  obtain ⟨r, hr⟩ := stores_pre f E hi'
  unfold layOps
  rw [hr, List.append_assoc, List.cons_append]
  exact play_err1 h he
theorem lay_err2 (hi' : i < n) (h : play S (stores f E i) = (S', 0)) (h1 : opA S' (.st (f + 8 + 2 * i) (E i).a) = 0) (he : opA (opS S' (.st (f + 8 + 2 * i) (E i).a)) (.st (f + 8 + 2 * i + 1) (E i).v) ≠ 0) :
    play S (layOps f E n) = (opS (opS S' (.st (f + 8 + 2 * i) (E i).a)) (.st (f + 8 + 2 * i + 1) (E i).v), opA (opS S' (.st (f + 8 + 2 * i) (E i).a)) (.st (f + 8 + 2 * i + 1) (E i).v)) := by
  obtain ⟨r, hr⟩ := stores_pre f E hi'
  unfold layOps
  rw [hr]
  have := play_err1 (b := r ++ (lines f ((2 * n + 7) / 8) ++ [.fe])) (play_ok1 h h1) he
  simpa using this
theorem lay_next (h : play S (stores f E i) = (S', 0)) (h1 : opA S' (.st (f + 8 + 2 * i) (E i).a) = 0) (h2 : opA (opS S' (.st (f + 8 + 2 * i) (E i).a)) (.st (f + 8 + 2 * i + 1) (E i).v) = 0) :
    play S (stores f E (i + 1)) = (opS (opS S' (.st (f + 8 + 2 * i) (E i).a)) (.st (f + 8 + 2 * i + 1) (E i).v), 0) := by
  have := play_ok1 (play_ok1 h h1) h2
  simpa [stores] using this
theorem lay_err3 (hk : k < (2 * n + 7) / 8) (h : play S (stores f E n ++ lines f k) = (S', 0)) (he : opA S' (.fl (f + 8 + 8 * k)) ≠ 0) : play S (layOps f E n) = (opS S' (.fl (f + 8 + 8 * k)), opA S' (.fl (f + 8 + 8 * k))) := by
  obtain ⟨r, hr⟩ := lines_pre f hk
  unfold layOps
  rw [hr]
  have := play_err1 (b := r ++ [.fe]) h he
  simpa using this
theorem lay_next3 (h : play S (stores f E n ++ lines f k) = (S', 0)) (h1 : opA S' (.fl (f + 8 + 8 * k)) = 0) : play S (stores f E n ++ lines f (k + 1)) = (opS S' (.fl (f + 8 + 8 * k)), 0) := by
  have := play_ok1 h h1
  simpa [lines] using this
theorem lay_end (h : play S (stores f E n ++ lines f ((2 * n + 7) / 8)) = (S', 0)) : play S (layOps f E n) = (opS S' .fe, opA S' .fe) := by
  unfold layOps
  rw [← List.append_assoc, play_more h, play_one]
end

def LayRel (S : St) (L : Loc) (f : Int) (E : Nat → Ent) (n : Nat) (w1 : World) (x : Value) (wr : World) : Prop :=
  ∃ (i : Nat) (S' : St), x = .int .i64 i ∧ i ≤ n ∧ play S (stores f E i) = (S', 0) ∧ Dev wr L S' ∧ Keep L.own w1 wr
def LayRel2 (S : St) (L : Loc) (f : Int) (E : Nat → Ent) (n : Nat) (w1 : World) (x : Value) (wr : World) : Prop :=
  ∃ (k : Nat) (q : Int) (S' : St), x = .int .i64 q ∧ q = f + 8 + 8 * k ∧ k ≤ (2 * n + 7) / 8 ∧ play S (stores f E n ++ lines f k) = (S', 0) ∧ Dev wr L S' ∧ Keep L.own w1 wr

theorem Dev.fresh {w : World} {L : Loc} {S : St} (h : Dev w L S) : w.heap.size ∉ L.own := fun hm => by have := h.lt _ hm; omega

/-- A cell of a block that is kept. -/
theorem kcell {w w' : World} {own : List Nat} (hk : Keep own w w') {b o : Nat} {v : Value} (h : w.cell? ⟨b, o, none⟩ = some v) (hn : b ∉ own) : w'.cell? ⟨b, o, none⟩ = some v :=
  (hk.cell (p := ⟨b, o, none⟩) (World.block_lt_of_cell? w _ h) hn).trans h

set_option maxHeartbeats 8000000 in
theorem lay_any (w : World) (L : Loc) (S : St) (h : Dev w L S) (f t : Int) (f0 : 0 ≤ f) (f1 : f ≤ 65536) (A : Option Addr) (n cap : Nat) (E : Nat → Ent) (hE : Ents w L.own A n cap E) (hn : n ≤ 1024) (ha : ∀ j, j < n → 0 ≤ (E j).a ∧ (E j).a ≤ 65536) (s0 : 0 ≤ S.steps) (s1 : S.steps < 900000) :
    Calls Try.prog 65 #[.agg #[.pointer (some ⟨L.d, 0, none⟩), .int .i64 f, .int .i64 t], .slice A n cap] w (Did L (play S (layOps f E n)).1 w (.int .i64 (play S (layOps f E n)).2)) := by
  have k0 : Keep [] w (w.alloc (.cells #[.pointer (some ⟨L.d, 0, none⟩), .int .i64 f, .int .i64 t] 73)) := Keep.alloc _ _
  have hB := h.fresh
  have hcap := hE.cap
  have hnc := hE.nc
  have HE := Lib.hid (hE.keep0 k0)
  have hD := h.keep k0 (by simp)
  have hbx := fun W (hk : Keep L.own (w.alloc (.cells #[.pointer (some ⟨L.d, 0, none⟩), .int .i64 f, .int .i64 t] 73)) W) => box3 (w := w) (W' := W) (own := L.own) rfl hk hB
  have HBX := Lib.hid hbx
  have HB := Lib.hid hB
  have HA := Lib.hid ha
  clear hE h hbx ha hB
  go_enter Try.func65, Try.ntmps65
  go_wp2_with fail
  generalize w.alloc (.cells #[.pointer (some ⟨L.d, 0, none⟩), .int .i64 f, .int .i64 t] 73) = w1 at *
  go_loopw [13] (fun x wr => LayRel S L f E n w1 x wr) (fun x _ => n - (intOf x).toNat)
  case atStart => exact ⟨0, S, rfl, by omega, rfl, hD, Keep.refl _ _⟩
  case round =>
    obtain ⟨i, S', rfl, hin, hpl, hD1, hK⟩ := hrel
    have hst := play_steps S (stores f E i)
    rw [hpl, stores_len] at hst
    dsimp only at hst
    have HPL := Lib.hid hpl
    clear hpl
    obtain ⟨b0, b1, b2, b3⟩ := HBX.out wr hK
    by_cases hlt : i < n
    · obtain ⟨b, o, rfl, hbo, hb, hcc⟩ := (HE.out.keep hK).cells (by omega)
      obtain ⟨c0, c1⟩ := hcc i hlt
      have hlt' : (i : Int) < (n : Int) := by omega
      have ha := HA.out i hlt
      have ea : IntKind.u64.wrap (E i).a = (E i).a := IntWalk.u64_in _ (by omega)
      have ki : Keep [] wr (wr.alloc (.cells #[.int .i64 (E i).a, .int .u64 (E i).v] 46)) := Keep.alloc _ _
      have hGn : wr.heap.size ∉ L.own := hD1.fresh
      have hp := fun W => place_any W L f t i f0 f1 (by omega)
      have h1 := fun W (hk : Keep [] (wr.alloc (.cells #[.int .i64 (E i).a, .int .u64 (E i).v] 46)) W) => st_op W L S' ((hD1.keep ki (by simp)).keep hk (by simp)) (f + 8 + 2 * i) (E i).a (by omega) (by omega)
      have n1 := op_steps S' (.st (f + 8 + 2 * i) (E i).a)
      have h2 := fun W0 (hD : Dev W0 L (opS S' (.st (f + 8 + 2 * i) (E i).a))) W (hk : Keep [] W0 W) => st_op W L (opS S' (.st (f + 8 + 2 * i) (E i).a)) (hD.keep hk (by simp)) (f + 8 + 2 * i + 1) (E i).v (by omega) (by omega)
      have F1 := Lib.hid (lay_err1 hlt HPL.out)
      have F2 := Lib.hid (lay_err2 hlt HPL.out)
      have F3 := Lib.hid (lay_next HPL.out)
      have hx0 : 0 ≤ f + 8 + 2 * (i : Int) := by omega
      have hx1 : f + 8 + 2 * (i : Int) ≤ 70000 := by omega
      have hx2 : IntKind.i64.wrap (f + 8 + 2 * (i : Int) + 1) = f + 8 + 2 * (i : Int) + 1 := IntWalk.i64_in _ (by omega)
      have HX := Lib.hid hx2
      have HP := Lib.hid hp
      have H1 := Lib.hid h1
      have H2 := Lib.hid h2
      have HGN := Lib.hid hGn
      clear hcc hD hp h1 h2 hst n1 hGn HA HPL hx2 HE
      generalize opA (opS S' (.st (f + 8 + 2 * i) (E i).a)) (.st (f + 8 + 2 * i + 1) (E i).v) = a2 at *
      generalize opS (opS S' (.st (f + 8 + 2 * i) (E i).a)) (.st (f + 8 + 2 * i + 1) (E i).v) = S2 at *
      generalize opA S' (.st (f + 8 + 2 * i) (E i).a) = a1 at *
      generalize opS S' (.st (f + 8 + 2 * i) (E i).a) = S1 at *
      go_wp2_with fail
      go_region_held3 (fun w' => w'.cell? ⟨w.heap.size, 0, none⟩ = some (.pointer (some ⟨L.d, 0, none⟩)) ∧ w'.cell? ⟨w.heap.size, 1, none⟩ = some (.int .i64 f) ∧ w'.cell? ⟨w.heap.size, 2, none⟩ = some (.int .i64 t) ∧ w'.cell? ⟨wr.heap.size, 0, none⟩ = some (.int .i64 (E i).a) ∧ w'.cell? ⟨wr.heap.size, 1, none⟩ = some (.int .u64 (E i).v)) (first | exact ⟨ll0, ll1, ll2, ll3, ll4⟩ | exact ⟨kk0, kk1, kk2, kk3, kk4⟩ | go_keep) (first | (go_at_call 72; refine (HP.out _).mono ?_; rintro e w2 ⟨rfl, hK2⟩; have kk0 := kcell hK2 (b := w.heap.size) (o := 0) (v := .pointer (some ⟨L.d, 0, none⟩)) (by simp_all) (by simp); have kk1 := kcell hK2 (b := w.heap.size) (o := 1) (v := .int .i64 f) (by simp_all) (by simp); have kk2 := kcell hK2 (b := w.heap.size) (o := 2) (v := .int .i64 t) (by simp_all) (by simp); have kk3 := kcell hK2 (b := wr.heap.size) (o := 0) (v := .int .i64 (E i).a) (by simp_all) (by simp); have kk4 := kcell hK2 (b := wr.heap.size) (o := 1) (v := .int .u64 (E i).v) (by simp_all) (by simp)) | (go_at_call 33; refine (H1.out _ (by repeat (first | (with_reducible exact Keep.refl _ _) | (with_reducible refine Keep.trans ?_ (Keep.drew _)) | (refine Keep.trans ?_ (by assumption))))).mono ?_; rintro e w3 ⟨rfl, hD3, hK3⟩; have ll0 := kcell hK3 kk0 HB.out; have ll1 := kcell hK3 kk1 HB.out; have ll2 := kcell hK3 kk2 HB.out; have ll3 := kcell hK3 kk3 HGN.out; have ll4 := kcell hK3 kk4 HGN.out))
      all_goals
        have hKa : Keep L.own wr w3 := ki.of_nil.trans (Keep.trans (by repeat (first | (with_reducible exact Keep.refl _ _) | (with_reducible refine Keep.trans ?_ (Keep.drew _)) | (refine Keep.trans ?_ (Keep.of_nil (by assumption))))) hK3)
        by_cases e1 : a1 = 0
        · subst e1
          have H3 := Lib.hid (H2.out w3 hD3)
          have hx2 := HX.out
          clear kk0 kk1 kk2 kk3 kk4 b0 b1 b2 b3 c0 c1 hD1 H1
          go_wp2_with fail
          go_region_held3 (fun w' => w'.cell? ⟨w.heap.size, 0, none⟩ = some (.pointer (some ⟨L.d, 0, none⟩)) ∧ w'.cell? ⟨w.heap.size, 1, none⟩ = some (.int .i64 f) ∧ w'.cell? ⟨w.heap.size, 2, none⟩ = some (.int .i64 t) ∧ w'.cell? ⟨wr.heap.size, 0, none⟩ = some (.int .i64 (E i).a) ∧ w'.cell? ⟨wr.heap.size, 1, none⟩ = some (.int .u64 (E i).v)) (first | exact ⟨nn0, nn1, nn2, nn3, nn4⟩ | exact ⟨mm0, mm1, mm2, mm3, mm4⟩ | go_keep) (first | (go_at_call 72; refine (HP.out _).mono ?_; rintro e w4 ⟨rfl, hK4⟩; have mm0 := kcell hK4 (b := w.heap.size) (o := 0) (v := .pointer (some ⟨L.d, 0, none⟩)) (by simp_all) (by simp); have mm1 := kcell hK4 (b := w.heap.size) (o := 1) (v := .int .i64 f) (by simp_all) (by simp); have mm2 := kcell hK4 (b := w.heap.size) (o := 2) (v := .int .i64 t) (by simp_all) (by simp); have mm3 := kcell hK4 (b := wr.heap.size) (o := 0) (v := .int .i64 (E i).a) (by simp_all) (by simp); have mm4 := kcell hK4 (b := wr.heap.size) (o := 1) (v := .int .u64 (E i).v) (by simp_all) (by simp)) | (go_at_call 33; refine (H3.out _ (by repeat (first | (with_reducible exact Keep.refl _ _) | (with_reducible refine Keep.trans ?_ (Keep.drew _)) | (refine Keep.trans ?_ (by assumption))))).mono ?_; rintro e w5 ⟨rfl, hD5, hK5⟩; have nn0 := kcell hK5 mm0 HB.out; have nn1 := kcell hK5 mm1 HB.out; have nn2 := kcell hK5 mm2 HB.out; have nn3 := kcell hK5 mm3 HGN.out; have nn4 := kcell hK5 mm4 HGN.out))
          all_goals
            have hKb : Keep L.own w1 w5 := (hK.trans hKa).trans (Keep.trans (by repeat (first | (with_reducible exact Keep.refl _ _) | (with_reducible refine Keep.trans ?_ (Keep.drew _)) | (refine Keep.trans ?_ (Keep.of_nil (by assumption))))) hK5)
            by_cases e2 : a2 = 0
            · subst e2
              have hpn := F3.out (by simp) (by simp)
              clear mm0 mm1 mm2 mm3 mm4 ll0 ll1 ll2 ll3 ll4 F1 F2 F3
              have HPN := Lib.hid hpn
              clear hpn
              go_wp2_with fail
              exact ⟨⟨i + 1, S2, by go_num, by omega, HPN.out, hD5, hKb⟩, by simp [intOf]; omega⟩
            · have d2 : (a2 != 0) = true := by simpa using e2
              have hpn := F2.out (by simp) e2
              have HPN := Lib.hid hpn
              clear mm0 mm1 mm2 mm3 mm4 ll0 ll1 ll2 ll3 ll4 F1 F2 F3 e2 hpn
              go_wp2
              go_ret
              rw [HPN.out]
              exact ⟨rfl, hD5, k0.of_nil.trans hKb⟩
        · have d1 : (a1 != 0) = true := by simpa using e1
          have hpn := F1.out e1
          have HPN := Lib.hid hpn
          clear kk0 kk1 kk2 kk3 kk4 b0 b1 b2 b3 c0 c1 hD1 H1 ll0 ll1 ll2 ll3 ll4 F1 F2 F3 e1 hpn
          go_wp2
          go_ret
          rw [HPN.out]
          exact ⟨rfl, hD3, k0.of_nil.trans (hK.trans hKa)⟩
    · have hik : i = n := by omega
      subst hik
      have hp0 : ∀ W, Calls Try.prog 72 #[.agg #[.pointer (some ⟨L.d, 0, none⟩), .int .i64 f, .int .i64 t], .int .i64 0] W fun e w' => e = .returned (.int .i64 (f + 8)) ∧ Keep [] W w' := fun W => by
        have := place_any W L f t 0 f0 f1 (by omega)
        rw [show f + 8 + 2 * ((0 : Nat) : Int) = f + 8 by omega] at this
        exact this
      have hpn := fun W => place_any W L f t i f0 f1 (by omega)
      have hpp : f + 8 + 2 * (i : Int) = f + 8 + 2 * (i : Int) := rfl
      generalize hP : f + 8 + 2 * (i : Int) = P at hpn
      have hP0 : 0 ≤ P ∧ P ≤ 70000 := by omega
      have HPE := Lib.hid hP
      have HPN := Lib.hid hpn
      clear hpn hP hpp HE HA hD
      have h0 := hp0 wr
      clear hp0
      go_wp2_with fail
      (with_reducible refine h0.mono ?_)
      rintro e w2 ⟨rfl, hK2⟩
      have hD2 := hD1.keep hK2 (by simp)
      have hK3 := hK.trans hK2.of_nil
      clear h0 hD1 hK hK2 b0 b1 b2 b3 hst
      generalize wr = wo at *
      go_wp2_with fail
      have hq0 : ∃ q : Int, q = f + 8 := ⟨_, rfl⟩
      obtain ⟨q, hq⟩ := hq0
      rw [← hq]
      have HQ0 := Lib.hid hq
      clear hq
      go_loopw [9] (fun x wr => LayRel2 S L f E i w1 x wr) (fun x _ => (P - intOf x).toNat)
      case atStart => exact ⟨0, q, S', rfl, by rw [HQ0.out]; omega, by omega, by rw [show lines f 0 = [] from rfl, List.append_nil]; exact HPL.out, hD2, hK3⟩
      case round =>
        obtain ⟨k, q, S'', rfl, hq, hk, hpl, hD4, hK4⟩ := hrel
        have hst := play_steps S (stores f E i ++ lines f k)
        rw [hpl, List.length_append, stores_len, lines_len] at hst
        dsimp only at hst
        have hPE := HPE.out
        have hq0 : 0 ≤ q := by omega
        have hq1 : q ≤ 80000 := by omega
        have hd : k < (2 * i + 7) / 8 ↔ q < P := by omega
        obtain ⟨b0, b1, b2, b3⟩ := HBX.out wr hK4
        have hpw := HPN.out wr
        by_cases hlt : q < P
        · have hkk := hd.2 hlt
          have F1 := Lib.hid (lay_err3 hkk hpl)
          have F2 := Lib.hid (lay_next3 hpl)
          have h1 := fun W (hk : Keep [] wr W) => fl_op W L S'' (hD4.keep hk (by simp)) q (by omega) (by omega)
          rw [hq] at h1
          generalize opA S'' (.fl (f + 8 + 8 * (k : Int))) = a1 at *
          generalize opS S'' (.fl (f + 8 + 8 * (k : Int))) = S1 at *
          rw [← hq] at h1
          have hqn : q + 8 = f + 8 + 8 * ((k + 1 : Nat) : Int) := by omega
          have HQN := Lib.hid hqn
          have H1 := Lib.hid h1
          have HKK := Lib.hid hkk
          clear hqn h1 hkk hd hq hpl hPE hst
          go_wp2_with fail
          (with_reducible refine hpw.mono ?_)
          rintro e w3 ⟨rfl, hK5⟩
          obtain ⟨b0, b1, b2, b3⟩ := HBX.out w3 (hK4.trans hK5.of_nil)
          have h1 := H1.out w3 hK5
          clear hpw
          go_wp2_with fail
          (with_reducible refine h1.mono ?_)
          rintro e w4 ⟨rfl, hD5, hK6⟩
          have hK7 := (hK4.trans hK5.of_nil).trans hK6
          clear h1 b0 b1 b2 b3 hD4
          by_cases e1 : a1 = 0
          · subst e1
            have HF := Lib.hid (F2.out (by simp))
            clear F1 F2
            go_wp2_with fail
            exact ⟨⟨k + 1, q + 8, S1, rfl, HQN.out, by have := HKK.out; omega, HF.out, hD5, hK7⟩, by simp [intOf]; omega⟩
          · have d1 : (a1 != 0) = true := by simpa using e1
            have HF := Lib.hid (F1.out e1)
            clear F1 F2 e1
            go_wp2
            go_ret
            rw [HF.out]
            exact ⟨rfl, hD5, k0.of_nil.trans hK7⟩
        · have hkk : k = (2 * i + 7) / 8 := by omega
          rw [hkk] at hpl
          have hst2 : S''.steps < 1000000 ∧ 0 ≤ S''.steps := by omega
          have HF := Lib.hid (lay_end hpl)
          have dq : decide (q < P) = false := by simpa using hlt
          have h1 := fun W (hk : Keep [] wr W) => fe_op W L S'' (hD4.keep hk (by simp)) (by omega) (by omega)
          have H1 := Lib.hid h1
          clear h1 hkk hpl hd hq hPE hst hst2 HPL HQ0 hk
          generalize opA S'' .fe = a1 at *
          generalize opS S'' .fe = S1 at *
          go_wp2_with fail
          (with_reducible refine hpw.mono ?_)
          rintro e w3 ⟨rfl, hK5⟩
          obtain ⟨b0, b1, b2, b3⟩ := HBX.out w3 (hK4.trans hK5.of_nil)
          have h1 := H1.out w3 hK5
          clear hpw
          go_wp2_with fail
          (with_reducible refine h1.mono ?_)
          rintro e w4 ⟨rfl, hD5, hK6⟩
          go_wp2
          go_ret
          rw [HF.out]
          exact ⟨rfl, hD5, k0.of_nil.trans ((hK4.trans hK5.of_nil).trans hK6)⟩
end Go.Proofs.Ytejhdmpobaffcaa
