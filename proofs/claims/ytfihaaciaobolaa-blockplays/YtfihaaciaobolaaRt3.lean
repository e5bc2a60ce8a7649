/-
  The document's twin of block: Turn. No conditions but what is in memory.
-/
import Derived.Test.YtfihaaciaobolaaRt2
import Derived.BigRegion
namespace Go.Proofs.Ytfihaaciaobolaa
open Go.RowKit Go.Flo Go.Bit Go.Bmp
set_option maxRecDepth 100000

theorem word_chg {U : Nat → Bool} {l : Nat → Int} {n : Nat} {v : Bool} (h : ∀ i, nmB l n i = true → U i ≠ v) (k : Nat) : pack U k = pack (put U l v n) k ↔ pack (nmB l n) k = 0 := by
  constructor
  · intro e
    refine pack_zero fun j hj => ?_
    have e2 : (pack U k).testBit j = (pack (put U l v n) k).testBit j := by rw [e]
    rw [pack_bit, pack_bit, put_eq] at e2
    simp only [hj, decide_true, Bool.true_and] at e2
    cases hi : nmB l n (64 * k + j)
    · rfl
    · rw [hi] at e2
      exact absurd e2 (h _ hi)
  · intro e
    refine pack_congr fun j hj => ?_
    have e2 := pack_bit (nmB l n) k j
    rw [e, Nat.zero_testBit] at e2
    simp only [hj, decide_true, Bool.true_and] at e2
    rw [put_eq, ← e2]
    rfl

theorem kp_put (U T : Nat → Bool) (l : Nat → Int) (v : Bool) (n : Nat) : kp (put U l v n) (put T l v n) = put (kp U T) l false n := by
  funext i
  unfold kp
  rw [put_eq, put_eq, put_eq]
  cases nmB l n i
  · rfl
  · cases v <;> rfl

theorem rb_at (U T : Nat → Bool) (k : Nat) : rb U T (k : Int) = kp U T k := by unfold rb kp; rw [gb_nat, gb_nat]

theorem gb_off {B : Nat → Bool} {n : Nat} (ht : ∀ i, n ≤ i → B i = false) (b : Int) (hb : b < 0 ∨ n ≤ b) : gb B b = false := by
  unfold gb
  rcases hb with h | h
  · rw [decide_eq_false (by omega)]; rfl
  · rw [ht b.toNat (by omega)]; simp

/-- What the twin's Turn leaves. -/
def RTurnPost (R : RLoc) (C : Cf) (U T : Nat → Bool) (may : Int → Bool) (l : Nat → Int) (n : Nat) (v : Bool) (w : World) (e : Ending) (w' : World) : Prop :=
  (okT may l n = true ∧ ∃ A cap, e = .returned (.tuple #[.slice A (enC (nmB l n) (nw C.all)) cap, .int .i64 0]) ∧ Ents w' [] A (enC (nmB l n) (nw C.all)) cap (enE C.bits (nmB l n) (put U l v n) (nw C.all)) ∧
    RTb w' R C (put U l v n) (kp (put U l v n) (put T l v n)) ∧ Keep R.own w w') ∨
  (okT may l n = false ∧ e = .returned (.tuple #[.slice none 0 0, .int .i64 1]) ∧ Keep [] w w')

set_option maxHeartbeats 4000000 in
theorem rturn_pub {w : World} {R : RLoc} {C : Cf} {U T : Nat → Bool} (h : RTb w R C U (kp U T)) (hTt : ∀ i, C.all ≤ i → T i = false) (hall : C.all ≤ 1000) (hbits : C.bits ≤ 71) (A : Option Addr) (n cap : Nat) (l : Nat → Int) (hl : Ints w A n cap l) (hA : 0 < n → ∀ a, A = some a → a.block ∉ R.own) :
    Calls Try.prog 20 #[.pointer (some ⟨R.t, 0, none⟩), .slice A n cap, .bool true] w (RTurnPost R C U T (rb U T) l n true w) := by
  obtain ⟨j0, hj0, hy0, hy1, hy2⟩ := info_parts parts46
  have c0 := h.c0
  have c1 := h.c1
  have c2 := h.c2
  have hnc := hl.nc
  have hcp := hl.cap
  have hUt := h.tidy
  have hneg : ∀ b : Int, (b < 0 ∨ C.all ≤ b) → (rb U T) b = false := fun b hb => by unfold rb; rw [gb_off hTt b hb]; rfl
  have HNG := Lib.hid hneg
  have HT := Lib.hid h
  have HI := Lib.hid hl
  have hown := h.own_lt
  clear h hl hneg
  go_enter Try.func20, Try.ntmps20
  go_wp2_with fail
  go_loopw [20] (fun x wr => (∃ i : Nat, i ≤ n ∧ x = .int .i64 i ∧ okT (rb U T) l i = true) ∧ w = wr) (fun x _ => n - (intOf x).toNat)
  case atStart => exact ⟨⟨0, by omega, rfl, rfl⟩, rfl⟩
  case round =>
    obtain ⟨⟨i, hi, rfl, hok⟩, rfl⟩ := hrel
    have HOK := Lib.hid hok
    clear hok
    by_cases hlt : i < n
    · obtain ⟨b, o, rfl, hb, hcs⟩ := HI.out.cells (by omega)
      have hc := hcs i hlt
      have hlt' : (i : Int) < n := by omega
      have HCS := Lib.hid hcs
      have HNO := Lib.hid (fun (h : ((rb U T) (l i) && !nmB l i (l i).toNat) = false) => (by
        have e1 : okT (rb U T) l (i + 1) = false := by
          show (okT (rb U T) l i && ((rb U T) (l i) && !nmB l i (l i).toNat)) = false
          rw [h]
          simp
        have := okT_stop e1 (n - (i + 1))
        rwa [show i + 1 + (n - (i + 1)) = n by omega] at this : okT (rb U T) l n = false))
      clear hcs
      by_cases hneg : l i < 0
      · have HN := Lib.hid (HNO.out (by rw [HNG.out _ (.inl hneg)]; rfl))
        go_wp2_with fail
        go_ret2
        exact .inr ⟨HN.out, rfl, Keep.refl _ _⟩
      · by_cases hbig : (C.all : Int) ≤ l i
        · have HN := Lib.hid (HNO.out (by rw [HNG.out _ (.inr hbig)]; rfl))
          go_wp2_with fail
          go_ret2
          exact .inr ⟨HN.out, rfl, Keep.refl _ _⟩
        · obtain ⟨k, hk⟩ := Int.eq_ofNat_of_zero_le (show 0 ≤ l i by omega)
          have hkall : k < C.all := by omega
          have cu := HT.out.ur.cell hkall
          have ck := HT.out.kr.cell hkall
          unfold bv at cu ck
          have hmk : (rb U T) (l i) = kp U T k := by rw [hk]; exact rb_at U T k
          have hk0 : (0 : Int) ≤ k := by omega
          have hk1 : ¬ (C.all : Int) ≤ k := by omega
          have hk2 : (k : Int) < C.all := by omega
          rw [hk] at hc hneg hbig
          clear hneg hbig
          cases hmm : kp U T k
          · rw [hmm] at hmk ck
            have HN := Lib.hid (HNO.out (by rw [hmk]; rfl))
            clear hmk hmm hk
            go_wp2_with fail
            go_ret2
            exact .inr ⟨HN.out, rfl, Keep.refl _ _⟩
          · rw [hmm] at hmk ck
            have HMK := Lib.hid hmk
            have HK := Lib.hid hk
            clear hmk hmm hk
            go_wp2_with fail
            go_loopw [67] (fun x wr => (∃ q : Nat, q ≤ i ∧ x = .int .i64 q ∧ ∀ q', q' < q → l q' ≠ k) ∧ w = wr) (fun x _ => i - (intOf x).toNat)
            case atStart => exact ⟨⟨0, by omega, rfl, fun q' hq' => by omega⟩, rfl⟩
            case round =>
              obtain ⟨⟨q, hq, rfl, hno⟩, rfl⟩ := hrel
              have HNQ := Lib.hid hno
              clear hno
              by_cases hqi : q < i
              · have hqi' : (q : Int) < i := by omega
                have cq := HCS.out q (by omega)
                by_cases heq : l q = (k : Int)
                · have HN := Lib.hid (HNO.out (by
                    rw [HK.out, Int.toNat_natCast, (nmB_iff l i k).2 ⟨q, hqi, by rw [heq, Int.toNat_natCast]⟩]
                    simp))
                  rw [heq] at cq
                  have hkk : ((k : Int) == (k : Int)) = true := by simp
                  clear heq
                  go_wp2_with fail
                  go_ret2
                  exact .inr ⟨HN.out, rfl, Keep.refl _ _⟩
                · have HNX := Lib.hid (fun q' (hq' : q' < q + 1) => (by
                    rcases Nat.lt_or_ge q' q with h | h
                    · exact HNQ.out q' h
                    · obtain rfl : q' = q := by omega
                      exact heq : l q' ≠ k))
                  have hne : (l q == (k : Int)) = false := by simpa using heq
                  generalize l q = lq at *
                  clear heq
                  go_wp2_with fail
                  go_roundw
                  case rel => exact ⟨⟨q + 1, by omega, by go_num, HNX.out⟩, by first | rfl | trivial⟩
                  case measure => simp [intOf]; omega
              · obtain rfl : q = i := by omega
                have hqq : ¬ (q : Int) < q := by omega
                have HNX := Lib.hid ((by
                  show (okT (rb U T) l q && ((rb U T) (l q) && !nmB l q (l q).toNat)) = true
                  have : nmB l q k = false := by
                    cases hb : nmB l q k
                    · rfl
                    · obtain ⟨j, hj, e⟩ := (nmB_iff l q k).1 hb
                      have e0 := okT_may HOK.out j hj
                      have e1 : l j ≠ k := HNQ.out j hj
                      rcases Int.lt_or_le (l j) 0 with h0 | h0
                      · rw [HNG.out _ (.inl h0)] at e0; cases e0
                      · omega
                  rw [HOK.out, HMK.out, HK.out, Int.toNat_natCast, this]
                  rfl : okT (rb U T) l (q + 1) = true))
                go_wp2_with fail
                exact ⟨⟨⟨q + 1, by omega, by go_num, HNX.out⟩, by first | rfl | trivial⟩, by simp [intOf]; omega⟩
    · obtain rfl : i = n := by omega
      have hin : ¬ (i : Int) < i := by omega
      have hp := pack_any w R.u R.cu C.all U hall HT.out.ur hUt
      have HMY := Lib.hid (okT_may HOK.out)
      have hchg := fun q (hq : nmB l i q = true) => (by
        obtain ⟨j, hj, e⟩ := (nmB_iff l i q).1 hq
        have e0 := okT_may HOK.out j hj
        rcases Int.lt_or_le (l j) 0 with h0 | h0
        · rw [HNG.out _ (.inl h0)] at e0; cases e0
        · obtain ⟨k, hk⟩ := Int.eq_ofNat_of_zero_le h0
          have e1 : (rb U T) (l j) = kp U T k := by rw [hk]; exact rb_at U T k
          rw [e1] at e0
          rw [hk, Int.toNat_natCast] at e
          subst e
          intro hq1
          unfold kp at e0
          rw [hq1] at e0
          simp at e0 : U q ≠ true)
      have HCH := Lib.hid (word_chg (v := true) hchg)
      clear hchg
      go_wp2_with fail
      (with_reducible refine hp.mono ?_)
      rintro e w2 ⟨g1, cp1, rfl, hr1, hg1, k2⟩
      have hT2 := HT.out.keep0 k2
      have HT2 := Lib.hid hT2
      have HR1 := Lib.hid hr1
      have HK2 := Lib.hid k2
      clear hp hr1 k2 hT2
      go_wp2_with fail
      go_loopw [83] (fun x wr => (∃ j : Nat, j ≤ i ∧ x = .int .i64 j ∧ RTb wr R C (put U l true j) (put (kp U T) l false j)) ∧ Keep R.own w2 wr) (fun x _ => i - (intOf x).toNat)
      case atStart => exact ⟨⟨0, by omega, rfl, HT2.out⟩, Keep.refl _ _⟩
      case round =>
        obtain ⟨⟨j, hj, rfl, hTj⟩, hkj⟩ := hrel
        have HTj := Lib.hid hTj
        have HKj := Lib.hid hkj
        clear hTj hkj
        by_cases hlt : j < i
        · obtain ⟨b, o, rfl, hb, hcs⟩ := ((HI.out.keep HK2.out).keepO HKj.out (hA (by omega))).cells (by omega)
          have hc := hcs j hlt
          have hlt' : (j : Int) < i := by omega
          have e0 := HMY.out j hlt
          have hl0 : ¬ l j < 0 := fun h0 => by rw [HNG.out _ (.inl h0)] at e0; cases e0
          have hl1 : ¬ (C.all : Int) ≤ l j := fun h0 => by rw [HNG.out _ (.inr h0)] at e0; cases e0
          obtain ⟨k, hk⟩ := Int.eq_ofNat_of_zero_le (show 0 ≤ l j by omega)
          have hkall : k < C.all := by omega
          have hpu : put U l true (j + 1) = upd (put U l true j) k true := by
            show upd (put U l true j) (l j).toNat true = _
            rw [hk, Int.toNat_natCast]
          have hpk : put (kp U T) l false (j + 1) = upd (put (kp U T) l false j) k false := by
            show upd (put (kp U T) l false j) (l j).toNat false = _
            rw [hk, Int.toNat_natCast]
          rw [hk] at hc
          have hk0 : (0 : Int) ≤ k := by omega
          have hk2 : (k : Int) < C.all := by omega
          have HP := Lib.hid (And.intro hpu hpk)
          have q1 := HTj.out.c1
          have q2 := HTj.out.c2
          have fu := HTj.out.ur.frozen k
          have fk := HTj.out.kr.frozen k
          have cu := HTj.out.ur.cell hkall
          have ck := HTj.out.kr.cell hkall
          unfold bv at cu ck
          generalize put U l true j k = bu at *
          generalize put (kp U T) l false j k = bk' at *
          obtain ⟨t1, s1⟩ := HTj.out.setU k hkall true
          obtain ⟨t2, s2⟩ := t1.setK k false
          obtain ⟨t3, s3⟩ := HTj.out.setK k false
          obtain ⟨t4, s4⟩ := t3.setU k hkall true
          have fu' : (wr.setCell ⟨R.k, k, none⟩ (.bool false)).frozen? ⟨R.u, k, none⟩ = false := t3.ur.frozen k
          have fk' : (wr.setCell ⟨R.u, k, none⟩ (.bool true)).frozen? ⟨R.k, k, none⟩ = false := t1.kr.frozen k
          have cu' := t3.ur.cell hkall
          have ck' := t1.kr.cell hkall
          have p1 := t3.c1
          have p2 := t3.c2
          have r1 := t1.c1
          have r2 := t1.c2
          unfold bv at cu' ck'
          have HX := Lib.hid (And.intro t2 (And.intro (s1.trans s2) (And.intro t4 (s3.trans s4))))
          clear hcs hpu hpk e0 hl0 hl1 hk t1 t2 t3 t4 s1 s2 s3 s4
          go_wp2_with fail
          go_region
          all_goals
            go_wp2_with fail
            go_roundw
            case rel => exact ⟨⟨j + 1, by omega, by go_num, by rw [HP.out.1, HP.out.2]; first | exact HX.out.1.dr ⟨1, rfl⟩ | exact HX.out.2.2.1.dr ⟨1, rfl⟩ | exact HX.out.1 | exact HX.out.2.2.1⟩, by first | exact (HKj.out.trans HX.out.2.1).trans (Keep.drew _) | exact (HKj.out.trans HX.out.2.2.2).trans (Keep.drew _) | exact HKj.out.trans HX.out.2.1 | exact HKj.out.trans HX.out.2.2.2⟩
            case measure => simp [intOf]; omega
        · obtain rfl : j = i := by omega
          have hjj : ¬ (j : Int) < j := by omega
          have q1 := HTj.out.c1
          have hp2 := pack_any wr R.u R.cu C.all (put U l true j) hall HTj.out.ur HTj.out.tidy
          have hbb := HTj.out.lay
          go_wp2_with fail
          (with_reducible refine hp2.mono ?_)
          rintro e w4 ⟨g2, cp2, rfl, hr2, hg2, k4⟩
          have hT4 := HTj.out.keep0 k4
          have hrA := (HR1.out.keep HKj.out (fun hm => by have := hown _ hm; omega)).keep k4 (by simp)
          have HRA := Lib.hid hrA
          have HRB := Lib.hid hr2
          have HT4 := Lib.hid hT4
          have HK4 := Lib.hid ((HK2.out.of_nil.trans HKj.out).trans k4.of_nil)
          have hcaA := hrA.cap_le
          have hcaB := hr2.cap_le
          have hnw : nw C.all ≤ 16 := by unfold nw; omega
          clear hp2 hrA hr2 hT4 k4 hbb q1
          go_wp2_with fail
          go_loopw [107, 15] (fun x y wr => EnRel w4 C.bits (nmB l j) (put U l true j) (nw C.all) x y wr) (fun x _ _ => nw C.all - (intOf x).toNat)
          case atStart => exact ⟨0, by omega, rfl, World.ownsRow_nil _ _ _ _, Keep.refl _ _⟩
          case round =>
            obtain ⟨m, hm, rfl, hrow, hkr⟩ := hrel
            have hec := enC_le (nmB l j) m
            have hch := HCH.out m
            generalize hNN : nmB l j = N at *
            generalize hUU : put U l true j = U' at *
            by_cases hlt2 : m < nw C.all
            · have hlt2' : (m : Int) < (nw C.all : Nat) := by omega
              have ca : wr.cell? ⟨g1, m, none⟩ = some (wv U m) := (HRA.out.keep hkr (by simp)).cell hlt2
              have cb : wr.cell? ⟨g2, m, none⟩ = some (wv U' m) := (HRB.out.keep hkr (by simp)).cell hlt2
              unfold wv at ca cb
              by_cases hp : pack N m = 0
              · obtain ⟨e1, e2⟩ := ent_skip hp C.bits U'
                rw [← hch.2 hp] at cb
                have hrow2 : wr.ownsRow w4.heap.size 66 2 u15 (enC N (m + 1)) (entsR (enE C.bits N U' (m + 1)) (enC N (m + 1))) := by rw [e1, e2]; exact hrow
                obtain ⟨y, hy⟩ : ∃ y : Int, y = ((pack U m : Nat) : Int) := ⟨_, rfl⟩
                rw [← hy] at ca cb
                have HF := Lib.hid hrow2
                clear hrow hrow2 e1 e2 hp hch hy
                go_wp2
                go_roundw
                case rel => exact ⟨m + 1, by omega, by go_num, HF.out, hkr⟩
                case measure => simp [intOf]; omega
              · obtain ⟨e1, e2⟩ := ent_more hp C.bits U'
                have HE := Lib.hid (And.intro e1 e2)
                have hne : pack U m ≠ pack U' m := fun e => hp (hch.1 e)
                have hTr := HT4.out.keep0 hkr
                have q0 := hTr.c0
                obtain ⟨A', cap', hly⟩ := hTr.lay
                have q10 := (Blk.cell hly 10).trans (show _ = some (Value.int .i64 C.bits) from rfl)
                have hks := hkr.size
                have HOW := Lib.hid hrow
                obtain ⟨y, hy⟩ : ∃ y : Int, y = ((pack U m : Nat) : Int) := ⟨_, rfl⟩
                obtain ⟨z, hz⟩ : ∃ z : Int, z = ((pack U' m : Nat) : Int) := ⟨_, rfl⟩
                have hyz : (z == y) = false := by simp; omega
                rw [← hy] at ca
                rw [← hz] at cb HE
                have hbm : ((C.bits + m : Nat) : Int) = (C.bits : Int) + m := by omega
                rw [hbm] at HE
                generalize C.bits = bb at *
                generalize enC N m = c at *
                generalize entsR (enE bb N U' m) c = xs at *
                clear hrow hp hch hne hTr hly e1 e2 hy hz
                go_wp2_with (at_builtin; refine wpList_append_src rfl (.tmp 118) (.tmp 130) 51 rfl w4.heap.size 66 j0 (.agg #[.int .i64 0, .int .u64 0]) 2 16 Try.underlying51 hj0 hy0 hy1 hy2 rfl (by omega) _ c xs rfl (ownsRow_keep HOW.out (Keep.alloc (own := []) _ _) (by simp)) (some ⟨_, 0, none⟩) 1 1 [.int .i64 ((bb : Int) + m), .int .u64 z] rfl rfl (by simp) (ents_new wr ⟨(bb : Int) + m, z⟩ _ rfl) (by intro u hu; simp at hu; rcases hu with rfl | rfl <;> rfl) (by simp [maxLen]; omega) (by omega) (by simp; omega) ?_)
                intro v8 w8 hown8 hgrow8
                have k89 : Keep [] wr (wr.alloc (.cells #[.int .i64 ((bb : Int) + m), .int .u64 z] 66)) := Keep.alloc _ _
                have hK8 : Keep [] w4 w8 := (hkr.trans k89).since (own_grown (ownsRow_keep HOW.out k89 (by simp)) hgrow8) (own_above (ownsRow_keep HOW.out k89 (by simp)))
                have HF := Lib.hid (And.intro hown8 hK8)
                clear hown8 hgrow8 hK8 k89
                go_wp2_with fail
                exact ⟨⟨m + 1, by omega, by go_num, by rw [HE.out.1, HE.out.2]; exact HF.out.1, HF.out.2⟩, by simp [intOf]; omega⟩
            · obtain rfl : m = nw C.all := by omega
              have hmm : ¬ ((nw C.all : Nat) : Int) < (nw C.all : Nat) := by omega
              obtain ⟨A8, cp8, rfl, hE, hEg⟩ := Ents.of_owns hrow
              have HF := Lib.hid (And.intro hE (And.intro ((HT4.out.keep0 hkr).congr hUU.symm (kp_put U T l true j).symm) (HK4.out.trans hkr.of_nil)))
              have HOK2 := Lib.hid HOK.out
              clear hrow hE hEg
              go_wp2_with fail
              go_ret2
              exact .inl ⟨HOK2.out, A8, cp8, by rw [hNN]; rfl, by rw [hNN, hUU]; exact HF.out.1, HF.out.2.1, HF.out.2.2⟩

set_option maxHeartbeats 4000000 in
theorem rturn_rel {w : World} {R : RLoc} {C : Cf} {U T : Nat → Bool} (h : RTb w R C U (kp U T)) (hTt : ∀ i, C.all ≤ i → T i = false) (hall : C.all ≤ 1000) (hbits : C.bits ≤ 71) (A : Option Addr) (n cap : Nat) (l : Nat → Int) (hl : Ints w A n cap l) (hA : 0 < n → ∀ a, A = some a → a.block ∉ R.own) :
    Calls Try.prog 20 #[.pointer (some ⟨R.t, 0, none⟩), .slice A n cap, .bool false] w (RTurnPost R C U T (gb U) l n false w) := by
  obtain ⟨j0, hj0, hy0, hy1, hy2⟩ := info_parts parts46
  have c0 := h.c0
  have c1 := h.c1
  have c2 := h.c2
  have hnc := hl.nc
  have hcp := hl.cap
  have hUt := h.tidy
  have hneg : ∀ b : Int, (b < 0 ∨ C.all ≤ b) → (gb U) b = false := fun b hb => gb_off hUt b hb
  have HNG := Lib.hid hneg
  have HT := Lib.hid h
  have HI := Lib.hid hl
  have hown := h.own_lt
  clear h hl hneg
  go_enter Try.func20, Try.ntmps20
  go_wp2_with fail
  go_loopw [20] (fun x wr => (∃ i : Nat, i ≤ n ∧ x = .int .i64 i ∧ okT (gb U) l i = true) ∧ w = wr) (fun x _ => n - (intOf x).toNat)
  case atStart => exact ⟨⟨0, by omega, rfl, rfl⟩, rfl⟩
  case round =>
    obtain ⟨⟨i, hi, rfl, hok⟩, rfl⟩ := hrel
    have HOK := Lib.hid hok
    clear hok
    by_cases hlt : i < n
    · obtain ⟨b, o, rfl, hb, hcs⟩ := HI.out.cells (by omega)
      have hc := hcs i hlt
      have hlt' : (i : Int) < n := by omega
      have HCS := Lib.hid hcs
      have HNO := Lib.hid (fun (h : ((gb U) (l i) && !nmB l i (l i).toNat) = false) => (by
        have e1 : okT (gb U) l (i + 1) = false := by
          show (okT (gb U) l i && ((gb U) (l i) && !nmB l i (l i).toNat)) = false
          rw [h]
          simp
        have := okT_stop e1 (n - (i + 1))
        rwa [show i + 1 + (n - (i + 1)) = n by omega] at this : okT (gb U) l n = false))
      clear hcs
      by_cases hneg : l i < 0
      · have HN := Lib.hid (HNO.out (by rw [HNG.out _ (.inl hneg)]; rfl))
        go_wp2_with fail
        go_ret2
        exact .inr ⟨HN.out, rfl, Keep.refl _ _⟩
      · by_cases hbig : (C.all : Int) ≤ l i
        · have HN := Lib.hid (HNO.out (by rw [HNG.out _ (.inr hbig)]; rfl))
          go_wp2_with fail
          go_ret2
          exact .inr ⟨HN.out, rfl, Keep.refl _ _⟩
        · obtain ⟨k, hk⟩ := Int.eq_ofNat_of_zero_le (show 0 ≤ l i by omega)
          have hkall : k < C.all := by omega
          have cu := HT.out.ur.cell hkall
          have ck := HT.out.kr.cell hkall
          unfold bv at cu ck
          have hmk : (gb U) (l i) = U k := by rw [hk]; exact gb_nat U k
          have hk0 : (0 : Int) ≤ k := by omega
          have hk1 : ¬ (C.all : Int) ≤ k := by omega
          have hk2 : (k : Int) < C.all := by omega
          rw [hk] at hc hneg hbig
          clear hneg hbig
          cases hmm : U k
          · rw [hmm] at hmk cu
            have HN := Lib.hid (HNO.out (by rw [hmk]; rfl))
            clear hmk hmm hk
            go_wp2_with fail
            go_ret2
            exact .inr ⟨HN.out, rfl, Keep.refl _ _⟩
          · rw [hmm] at hmk cu
            have HMK := Lib.hid hmk
            have HK := Lib.hid hk
            clear hmk hmm hk
            go_wp2_with fail
            go_loopw [67] (fun x wr => (∃ q : Nat, q ≤ i ∧ x = .int .i64 q ∧ ∀ q', q' < q → l q' ≠ k) ∧ w = wr) (fun x _ => i - (intOf x).toNat)
            case atStart => exact ⟨⟨0, by omega, rfl, fun q' hq' => by omega⟩, rfl⟩
            case round =>
              obtain ⟨⟨q, hq, rfl, hno⟩, rfl⟩ := hrel
              have HNQ := Lib.hid hno
              clear hno
              by_cases hqi : q < i
              · have hqi' : (q : Int) < i := by omega
                have cq := HCS.out q (by omega)
                by_cases heq : l q = (k : Int)
                · have HN := Lib.hid (HNO.out (by
                    rw [HK.out, Int.toNat_natCast, (nmB_iff l i k).2 ⟨q, hqi, by rw [heq, Int.toNat_natCast]⟩]
                    simp))
                  rw [heq] at cq
                  have hkk : ((k : Int) == (k : Int)) = true := by simp
                  clear heq
                  go_wp2_with fail
                  go_ret2
                  exact .inr ⟨HN.out, rfl, Keep.refl _ _⟩
                · have HNX := Lib.hid (fun q' (hq' : q' < q + 1) => (by
                    rcases Nat.lt_or_ge q' q with h | h
                    · exact HNQ.out q' h
                    · obtain rfl : q' = q := by omega
                      exact heq : l q' ≠ k))
                  have hne : (l q == (k : Int)) = false := by simpa using heq
                  generalize l q = lq at *
                  clear heq
                  go_wp2_with fail
                  go_roundw
                  case rel => exact ⟨⟨q + 1, by omega, by go_num, HNX.out⟩, by first | rfl | trivial⟩
                  case measure => simp [intOf]; omega
              · obtain rfl : q = i := by omega
                have hqq : ¬ (q : Int) < q := by omega
                have HNX := Lib.hid ((by
                  show (okT (gb U) l q && ((gb U) (l q) && !nmB l q (l q).toNat)) = true
                  have : nmB l q k = false := by
                    cases hb : nmB l q k
                    · rfl
                    · obtain ⟨j, hj, e⟩ := (nmB_iff l q k).1 hb
                      have e0 := okT_may HOK.out j hj
                      have e1 : l j ≠ k := HNQ.out j hj
                      rcases Int.lt_or_le (l j) 0 with h0 | h0
                      · rw [HNG.out _ (.inl h0)] at e0; cases e0
                      · omega
                  rw [HOK.out, HMK.out, HK.out, Int.toNat_natCast, this]
                  rfl : okT (gb U) l (q + 1) = true))
                go_wp2_with fail
                exact ⟨⟨⟨q + 1, by omega, by go_num, HNX.out⟩, by first | rfl | trivial⟩, by simp [intOf]; omega⟩
    · obtain rfl : i = n := by omega
      have hin : ¬ (i : Int) < i := by omega
      have hp := pack_any w R.u R.cu C.all U hall HT.out.ur hUt
      have HMY := Lib.hid (okT_may HOK.out)
      have hchg := fun q (hq : nmB l i q = true) => (by
        obtain ⟨j, hj, e⟩ := (nmB_iff l i q).1 hq
        have e0 := okT_may HOK.out j hj
        rcases Int.lt_or_le (l j) 0 with h0 | h0
        · rw [HNG.out _ (.inl h0)] at e0; cases e0
        · obtain ⟨k, hk⟩ := Int.eq_ofNat_of_zero_le h0
          have e1 : (gb U) (l j) = U k := by rw [hk]; exact gb_nat U k
          rw [e1] at e0
          rw [hk, Int.toNat_natCast] at e
          subst e
          rw [e0]
          simp : U q ≠ false)
      have HCH := Lib.hid (word_chg (v := false) hchg)
      clear hchg
      go_wp2_with fail
      (with_reducible refine hp.mono ?_)
      rintro e w2 ⟨g1, cp1, rfl, hr1, hg1, k2⟩
      have hT2 := HT.out.keep0 k2
      have HT2 := Lib.hid hT2
      have HR1 := Lib.hid hr1
      have HK2 := Lib.hid k2
      clear hp hr1 k2 hT2
      go_wp2_with fail
      go_loopw [83] (fun x wr => (∃ j : Nat, j ≤ i ∧ x = .int .i64 j ∧ RTb wr R C (put U l false j) (put (kp U T) l false j)) ∧ Keep R.own w2 wr) (fun x _ => i - (intOf x).toNat)
      case atStart => exact ⟨⟨0, by omega, rfl, HT2.out⟩, Keep.refl _ _⟩
      case round =>
        obtain ⟨⟨j, hj, rfl, hTj⟩, hkj⟩ := hrel
        have HTj := Lib.hid hTj
        have HKj := Lib.hid hkj
        clear hTj hkj
        by_cases hlt : j < i
        · obtain ⟨b, o, rfl, hb, hcs⟩ := ((HI.out.keep HK2.out).keepO HKj.out (hA (by omega))).cells (by omega)
          have hc := hcs j hlt
          have hlt' : (j : Int) < i := by omega
          have e0 := HMY.out j hlt
          have hl0 : ¬ l j < 0 := fun h0 => by rw [HNG.out _ (.inl h0)] at e0; cases e0
          have hl1 : ¬ (C.all : Int) ≤ l j := fun h0 => by rw [HNG.out _ (.inr h0)] at e0; cases e0
          obtain ⟨k, hk⟩ := Int.eq_ofNat_of_zero_le (show 0 ≤ l j by omega)
          have hkall : k < C.all := by omega
          have hpu : put U l false (j + 1) = upd (put U l false j) k false := by
            show upd (put U l false j) (l j).toNat false = _
            rw [hk, Int.toNat_natCast]
          have hpk : put (kp U T) l false (j + 1) = upd (put (kp U T) l false j) k false := by
            show upd (put (kp U T) l false j) (l j).toNat false = _
            rw [hk, Int.toNat_natCast]
          rw [hk] at hc
          have hk0 : (0 : Int) ≤ k := by omega
          have hk2 : (k : Int) < C.all := by omega
          have HP := Lib.hid (And.intro hpu hpk)
          have q1 := HTj.out.c1
          have q2 := HTj.out.c2
          have fu := HTj.out.ur.frozen k
          have fk := HTj.out.kr.frozen k
          have cu := HTj.out.ur.cell hkall
          have ck := HTj.out.kr.cell hkall
          unfold bv at cu ck
          generalize put U l false j k = bu at *
          generalize put (kp U T) l false j k = bk' at *
          obtain ⟨t1, s1⟩ := HTj.out.setU k hkall false
          obtain ⟨t2, s2⟩ := t1.setK k false
          obtain ⟨t3, s3⟩ := HTj.out.setK k false
          obtain ⟨t4, s4⟩ := t3.setU k hkall false
          have fu' : (wr.setCell ⟨R.k, k, none⟩ (.bool false)).frozen? ⟨R.u, k, none⟩ = false := t3.ur.frozen k
          have fk' : (wr.setCell ⟨R.u, k, none⟩ (.bool false)).frozen? ⟨R.k, k, none⟩ = false := t1.kr.frozen k
          have cu' := t3.ur.cell hkall
          have ck' := t1.kr.cell hkall
          have p1 := t3.c1
          have p2 := t3.c2
          have r1 := t1.c1
          have r2 := t1.c2
          unfold bv at cu' ck'
          have HX := Lib.hid (And.intro t2 (And.intro (s1.trans s2) (And.intro t4 (s3.trans s4))))
          clear hcs hpu hpk e0 hl0 hl1 hk t1 t2 t3 t4 s1 s2 s3 s4
          go_wp2_with fail
          go_region
          all_goals
            go_wp2_with fail
            go_roundw
            case rel => exact ⟨⟨j + 1, by omega, by go_num, by rw [HP.out.1, HP.out.2]; first | exact HX.out.1.dr ⟨1, rfl⟩ | exact HX.out.2.2.1.dr ⟨1, rfl⟩ | exact HX.out.1 | exact HX.out.2.2.1⟩, by first | exact (HKj.out.trans HX.out.2.1).trans (Keep.drew _) | exact (HKj.out.trans HX.out.2.2.2).trans (Keep.drew _) | exact HKj.out.trans HX.out.2.1 | exact HKj.out.trans HX.out.2.2.2⟩
            case measure => simp [intOf]; omega
        · obtain rfl : j = i := by omega
          have hjj : ¬ (j : Int) < j := by omega
          have q1 := HTj.out.c1
          have hp2 := pack_any wr R.u R.cu C.all (put U l false j) hall HTj.out.ur HTj.out.tidy
          have hbb := HTj.out.lay
          go_wp2_with fail
          (with_reducible refine hp2.mono ?_)
          rintro e w4 ⟨g2, cp2, rfl, hr2, hg2, k4⟩
          have hT4 := HTj.out.keep0 k4
          have hrA := (HR1.out.keep HKj.out (fun hm => by have := hown _ hm; omega)).keep k4 (by simp)
          have HRA := Lib.hid hrA
          have HRB := Lib.hid hr2
          have HT4 := Lib.hid hT4
          have HK4 := Lib.hid ((HK2.out.of_nil.trans HKj.out).trans k4.of_nil)
          have hcaA := hrA.cap_le
          have hcaB := hr2.cap_le
          have hnw : nw C.all ≤ 16 := by unfold nw; omega
          clear hp2 hrA hr2 hT4 k4 hbb q1
          go_wp2_with fail
          go_loopw [107, 15] (fun x y wr => EnRel w4 C.bits (nmB l j) (put U l false j) (nw C.all) x y wr) (fun x _ _ => nw C.all - (intOf x).toNat)
          case atStart => exact ⟨0, by omega, rfl, World.ownsRow_nil _ _ _ _, Keep.refl _ _⟩
          case round =>
            obtain ⟨m, hm, rfl, hrow, hkr⟩ := hrel
            have hec := enC_le (nmB l j) m
            have hch := HCH.out m
            generalize hNN : nmB l j = N at *
            generalize hUU : put U l false j = U' at *
            by_cases hlt2 : m < nw C.all
            · have hlt2' : (m : Int) < (nw C.all : Nat) := by omega
              have ca : wr.cell? ⟨g1, m, none⟩ = some (wv U m) := (HRA.out.keep hkr (by simp)).cell hlt2
              have cb : wr.cell? ⟨g2, m, none⟩ = some (wv U' m) := (HRB.out.keep hkr (by simp)).cell hlt2
              unfold wv at ca cb
              by_cases hp : pack N m = 0
              · obtain ⟨e1, e2⟩ := ent_skip hp C.bits U'
                rw [← hch.2 hp] at cb
                have hrow2 : wr.ownsRow w4.heap.size 66 2 u15 (enC N (m + 1)) (entsR (enE C.bits N U' (m + 1)) (enC N (m + 1))) := by rw [e1, e2]; exact hrow
                obtain ⟨y, hy⟩ : ∃ y : Int, y = ((pack U m : Nat) : Int) := ⟨_, rfl⟩
                rw [← hy] at ca cb
                have HF := Lib.hid hrow2
                clear hrow hrow2 e1 e2 hp hch hy
                go_wp2
                go_roundw
                case rel => exact ⟨m + 1, by omega, by go_num, HF.out, hkr⟩
                case measure => simp [intOf]; omega
              · obtain ⟨e1, e2⟩ := ent_more hp C.bits U'
                have HE := Lib.hid (And.intro e1 e2)
                have hne : pack U m ≠ pack U' m := fun e => hp (hch.1 e)
                have hTr := HT4.out.keep0 hkr
                have q0 := hTr.c0
                obtain ⟨A', cap', hly⟩ := hTr.lay
                have q10 := (Blk.cell hly 10).trans (show _ = some (Value.int .i64 C.bits) from rfl)
                have hks := hkr.size
                have HOW := Lib.hid hrow
                obtain ⟨y, hy⟩ : ∃ y : Int, y = ((pack U m : Nat) : Int) := ⟨_, rfl⟩
                obtain ⟨z, hz⟩ : ∃ z : Int, z = ((pack U' m : Nat) : Int) := ⟨_, rfl⟩
                have hyz : (z == y) = false := by simp; omega
                rw [← hy] at ca
                rw [← hz] at cb HE
                have hbm : ((C.bits + m : Nat) : Int) = (C.bits : Int) + m := by omega
                rw [hbm] at HE
                generalize C.bits = bb at *
                generalize enC N m = c at *
                generalize entsR (enE bb N U' m) c = xs at *
                clear hrow hp hch hne hTr hly e1 e2 hy hz
                go_wp2_with (at_builtin; refine wpList_append_src rfl (.tmp 118) (.tmp 130) 51 rfl w4.heap.size 66 j0 (.agg #[.int .i64 0, .int .u64 0]) 2 16 Try.underlying51 hj0 hy0 hy1 hy2 rfl (by omega) _ c xs rfl (ownsRow_keep HOW.out (Keep.alloc (own := []) _ _) (by simp)) (some ⟨_, 0, none⟩) 1 1 [.int .i64 ((bb : Int) + m), .int .u64 z] rfl rfl (by simp) (ents_new wr ⟨(bb : Int) + m, z⟩ _ rfl) (by intro u hu; simp at hu; rcases hu with rfl | rfl <;> rfl) (by simp [maxLen]; omega) (by omega) (by simp; omega) ?_)
                intro v8 w8 hown8 hgrow8
                have k89 : Keep [] wr (wr.alloc (.cells #[.int .i64 ((bb : Int) + m), .int .u64 z] 66)) := Keep.alloc _ _
                have hK8 : Keep [] w4 w8 := (hkr.trans k89).since (own_grown (ownsRow_keep HOW.out k89 (by simp)) hgrow8) (own_above (ownsRow_keep HOW.out k89 (by simp)))
                have HF := Lib.hid (And.intro hown8 hK8)
                clear hown8 hgrow8 hK8 k89
                go_wp2_with fail
                exact ⟨⟨m + 1, by omega, by go_num, by rw [HE.out.1, HE.out.2]; exact HF.out.1, HF.out.2⟩, by simp [intOf]; omega⟩
            · obtain rfl : m = nw C.all := by omega
              have hmm : ¬ ((nw C.all : Nat) : Int) < (nw C.all : Nat) := by omega
              obtain ⟨A8, cp8, rfl, hE, hEg⟩ := Ents.of_owns hrow
              have HF := Lib.hid (And.intro hE (And.intro ((HT4.out.keep0 hkr).congr hUU.symm (kp_put U T l false j).symm) (HK4.out.trans hkr.of_nil)))
              have HOK2 := Lib.hid HOK.out
              clear hrow hE hEg
              go_wp2_with fail
              go_ret2
              exact .inl ⟨HOK2.out, A8, cp8, by rw [hNN]; rfl, by rw [hNN, hUU]; exact HF.out.1, HF.out.2.1, HF.out.2.2⟩
end Go.Proofs.Ytfihaaciaobolaa
