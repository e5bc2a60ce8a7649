/-
  Package value: Text, Parse; the document's twin's ValueText, ParseValue: what each returns. Conditions: what the library's tables hold; a text not longer than one may be.
-/
import Derived.Test.YtjnaglellobmmaaDoorVal3
import Derived.Test.YtjnaglellobmmaaDoorDcn
import Derived.Lib.ItoaLen
namespace Go.Proofs.YtjnaglellobmmaaDoor
open Go.RowKit Go.Flo
set_option maxRecDepth 100000

def nilB : ByteArray := { data := #[110, 105, 108] }

/-- A value's text. -/
def textV (v : Val) : ByteArray :=
  if v.K = 0 then nilB else if v.K = 1 then itoaB v.n else if v.K = 2 then { data := #[99] } ++ textB v.p.toNat v.q.toNat else if v.K = 3 then { data := #[35] } ++ itoaB v.r else { data := #[] }

/-- A text as a value. -/
def parseV (s : ByteArray) : Option Val :=
  if s = nilB then some z0
  else if s.data.toList.head? = some 99 then (pC (nums (s.extract 1 s.size))).map fun ab => ⟨2, 0, ab.1, ab.2, 0⟩
  else if s.data.toList.head? = some 35 then (numB (s.extract 1 s.size)).map fun n => ⟨3, 0, 0, 0, n⟩
  else (numB s).map fun n => ⟨1, n, 0, 0, 0⟩

/-- A value's parts are numbers of 64 bits. -/
structure VOk (v : Val) : Prop where
  n0 : -9223372036854775808 ≤ v.n
  n1 : v.n ≤ 9223372036854775807
  p0 : 0 ≤ v.p
  p1 : v.p < 18446744073709551616
  q0 : 0 ≤ v.q
  q1 : v.q < 18446744073709551616
  r0 : -9223372036854775808 ≤ v.r
  r1 : v.r ≤ 9223372036854775807

theorem ret_strV {a b : ByteArray} (h : a = b) : Ending.returned (.string a) = .returned (.string b) := by rw [h]


theorem vtext_any (K n p q r : Int) (hv : VOk ⟨K, n, p, q, r⟩) (w : World) (hT : Tabs w) :
    Calls Tryd.prog 27 #[.agg #[.int .i64 K, .int .i64 n, .int .u64 p, .int .u64 q, .int .i64 r]] w fun e w' => e = .returned (.string (textV ⟨K, n, p, q, r⟩)) ∧ Keep [] w w' := by
  obtain ⟨n0, n1, p0, p1, q0, q1, r0, r1⟩ := hv
  dsimp only at *
  have hp : p.toNat < 18446744073709551616 := by omega
  have hq : q.toNat < 18446744073709551616 := by omega
  have ka : Keep [] w (w.alloc (.cells #[.int .i64 K, .int .i64 n, .int .u64 p, .int .u64 q, .int .i64 r] 24)) := Keep.alloc _ _
  have hFI := fun W (hk : Keep [] w W) => fint_any n n0 n1 W (hT.keep hk)
  have hIT := fun W (hk : Keep [] w W) => itoa_any r r0 r1 W (hT.keep hk)
  have hOF := fun W => of_any p q W
  have hTX := fun W (hk : Keep [] w W) => text_any p.toNat q.toNat W (by have := hp; omega) (by have := hq; omega)
  unfold TextPost at hTX
  have hzS : (textB p.toNat q.toNat).size = 33 := textB_size _ _
  have hzR : (itoaB r).size ≤ 21 := Lib.itoa_length_le r r0 r1
  unfold textV
  dsimp only
  generalize textB p.toNat q.toNat = S at *
  clear n0 n1 p0 p1 q0 q1 r0 r1 hp hq hT
  by_cases h0 : K = 0
  · subst h0
    go_enter Tryd.func27, Tryd.ntmps27
    go_wp2
    go_ret
    exact ⟨rfl, ka⟩
  rw [if_neg h0]
  by_cases h1 : K = 1
  · subst h1
    have HH := Lib.hid (And.intro hFI ka)
    clear hFI hIT hOF hTX ka
    rw [if_pos rfl]
    go_enter Tryd.func27, Tryd.ntmps27
    go_wp2_with fail
    (with_reducible refine (HH.out.1 _ HH.out.2).mono ?_)
    rintro e w1 ⟨rfl, k1⟩
    go_wp2
    go_ret
    exact ⟨rfl, HH.out.2.trans k1⟩
  rw [if_neg h1]
  by_cases h2 : K = 2
  · subst h2
    have HH := Lib.hid (And.intro hTX ka)
    have HO := Lib.hid hOF
    clear hFI hIT hOF hTX ka
    rw [if_pos rfl]
    go_enter Tryd.func27, Tryd.ntmps27
    go_wp2_with fail
    (with_reducible refine (HO.out _).mono ?_)
    rintro e w1 ⟨rfl, rfl⟩
    go_wp2_with fail
    (with_reducible refine (HH.out.1 _ HH.out.2).mono ?_)
    rintro e w1 ⟨rfl, k1⟩
    go_wp2
    go_ret
    exact ⟨rfl, HH.out.2.trans (keep_below k1)⟩
  rw [if_neg h2]
  by_cases h3 : K = 3
  · subst h3
    have HH := Lib.hid (And.intro hIT ka)
    clear hFI hIT hOF hTX ka
    rw [if_pos rfl]
    go_enter Tryd.func27, Tryd.ntmps27
    go_wp2_with fail
    (with_reducible refine (HH.out.1 _ HH.out.2).mono ?_)
    rintro e w1 ⟨rfl, k1⟩
    go_wp2
    go_ret
    exact ⟨rfl, HH.out.2.trans k1⟩
  rw [if_neg h3]
  go_enter Tryd.func27, Tryd.ntmps27
  go_wp2
  go_ret
  exact ⟨rfl, ka⟩

theorem rvtext_any (K n p q r : Int) (hv : VOk ⟨K, n, p, q, r⟩) (w : World) (hT : Tabs w) :
    Calls Tryd.prog 28 #[.agg #[.int .i64 K, .int .i64 n, .int .u64 p, .int .u64 q, .int .i64 r]] w fun e w' => e = .returned (.string (textV ⟨K, n, p, q, r⟩)) ∧ Keep [] w w' := by
  obtain ⟨n0, n1, p0, p1, q0, q1, r0, r1⟩ := hv
  dsimp only at *
  have hp : p.toNat < 18446744073709551616 := by omega
  have hq : q.toNat < 18446744073709551616 := by omega
  have ka : Keep [] w (w.alloc (.cells #[.int .i64 K, .int .i64 n, .int .u64 p, .int .u64 q, .int .i64 r] 24)) := Keep.alloc _ _
  have hFI := fun W (hk : Keep [] w W) => fint_any n n0 n1 W (hT.keep hk)
  have hIT := fun W (hk : Keep [] w W) => itoa_any r r0 r1 W (hT.keep hk)
  have hOF := fun W => rof_any p q W
  have hTX := fun W (hk : Keep [] w W) => rtext_any p.toNat q.toNat W (by have := hp; omega) (by have := hq; omega) (hT.keep hk).t64 (hT.keep hk).lt
  unfold RTPost at hTX
  have hzS : (textB p.toNat q.toNat).size = 33 := textB_size _ _
  have hzR : (itoaB r).size ≤ 21 := Lib.itoa_length_le r r0 r1
  unfold textV
  dsimp only
  generalize textB p.toNat q.toNat = S at *
  clear n0 n1 p0 p1 q0 q1 r0 r1 hp hq hT
  by_cases h0 : K = 0
  · subst h0
    go_enter Tryd.func28, Tryd.ntmps28
    go_wp2
    go_ret
    exact ⟨rfl, ka⟩
  rw [if_neg h0]
  by_cases h1 : K = 1
  · subst h1
    have HH := Lib.hid (And.intro hFI ka)
    clear hFI hIT hOF hTX ka
    rw [if_pos rfl]
    go_enter Tryd.func28, Tryd.ntmps28
    go_wp2_with fail
    (with_reducible refine (HH.out.1 _ HH.out.2).mono ?_)
    rintro e w1 ⟨rfl, k1⟩
    go_wp2
    go_ret
    exact ⟨rfl, HH.out.2.trans k1⟩
  rw [if_neg h1]
  by_cases h2 : K = 2
  · subst h2
    have HH := Lib.hid (And.intro hTX ka)
    have HO := Lib.hid hOF
    clear hFI hIT hOF hTX ka
    rw [if_pos rfl]
    go_enter Tryd.func28, Tryd.ntmps28
    go_wp2_with fail
    (with_reducible refine (HO.out _).mono ?_)
    rintro e w1 ⟨rfl, rfl⟩
    go_wp2_with fail
    (with_reducible refine (HH.out.1 _ HH.out.2).mono ?_)
    rintro e w1 ⟨rfl, k1⟩
    go_wp2
    go_ret
    exact ⟨rfl, HH.out.2.trans (keep_below k1)⟩
  rw [if_neg h2]
  by_cases h3 : K = 3
  · subst h3
    have HH := Lib.hid (And.intro hIT ka)
    clear hFI hIT hOF hTX ka
    rw [if_pos rfl]
    go_enter Tryd.func28, Tryd.ntmps28
    go_wp2_with fail
    (with_reducible refine (HH.out.1 _ HH.out.2).mono ?_)
    rintro e w1 ⟨rfl, k1⟩
    go_wp2
    go_ret
    exact ⟨rfl, HH.out.2.trans k1⟩
  rw [if_neg h3]
  go_enter Tryd.func28, Tryd.ntmps28
  go_wp2
  go_ret
  exact ⟨rfl, ka⟩

theorem pcx_any (s : ByteArray) (w : World) : Calls Tryd.prog 39 #[.string s] w (OPost ((pC (nums s)).map fun ab => ⟨2, 0, ab.1, ab.2, 0⟩) w) := by
  have ka : Keep [] w (w.alloc (.cells #[.int .i64 0, .int .i64 0, .int .u64 0, .int .u64 0, .int .i64 0] 24)) := Keep.alloc _ _
  have hB := Blk.new w 24 #[.int .i64 0, .int .i64 0, .int .u64 0, .int .u64 0, .int .i64 0]
  have hP := fun W => parse_any s W
  cases ho : pC (nums s) with
  | none =>
    rw [ho] at hP
    simp only [Option.getD_none, Option.isSome_none] at hP
    clear ho
    go_enter Tryd.func39, Tryd.ntmps39
    go_wp2_with fail
    (with_reducible refine (hP _).mono ?_)
    rintro e w1 ⟨rfl, rfl⟩
    clear hP
    go_wp2
    (try simp only [Exit.inBlock, Exit.then])
    refine bodyPost_ret (v := .tuple #[.agg #[.int .i64 0, .int .i64 0, .int .u64 0, .int .u64 0, .int .i64 0], .bool false]) (results_cell_tmpV rfl _ _ w.heap.size 24 #[.int .i64 0, .int .i64 0, .int .u64 0, .int .u64 0, .int .i64 0] (0, 0) _ _ rfl rfl (heap_alloc_new _ _) Tryd.underlying24 rfl kz) rfl ?_
    exact ⟨rfl, ka⟩
  | some ab =>
    obtain ⟨a, b⟩ := ab
    rw [ho] at hP
    simp only [Option.getD_some, Option.isSome_some] at hP
    have hV := fun W => vcplx_any a b W
    clear ho
    go_enter Tryd.func39, Tryd.ntmps39
    go_wp2_with fail
    (with_reducible refine (hP _).mono ?_)
    rintro e w1 ⟨rfl, rfl⟩
    clear hP
    go_wp2_with fail
    (with_reducible refine (hV _).mono ?_)
    rintro e w2 ⟨rfl, k2⟩
    clear hV
    have hZ := hB.keep k2 (by simp)
    go_wp2_with (refine wpList_store_row rfl 24 (.tmp 2) (.tmp 15) rfl w.heap.size #[.int .i64 2, .int .i64 0, .int .u64 a, .int .u64 b, .int .i64 0] rfl rfl 24 #[.int .i64 0, .int .i64 0, .int .u64 0, .int .u64 0, .int .i64 0] hZ kz rfl (h1c ..) ?_)
    (try simp only [Exit.inBlock, Exit.then])
    refine bodyPost_ret (v := .tuple #[.agg #[.int .i64 2, .int .i64 0, .int .u64 a, .int .u64 b, .int .i64 0], .bool true]) (results_cell_tmpV rfl _ _ w.heap.size 24 #[.int .i64 2, .int .i64 0, .int .u64 a, .int .u64 b, .int .i64 0] (0, 0) _ _ rfl rfl (setRow_heap _ _ _ _ _ _ hZ) Tryd.underlying24 rfl kz) rfl ?_
    exact ⟨rfl, (ka.trans k2).setV (Nat.le_refl _)⟩

theorem nil_beq (s : ByteArray) (b : Bool) (h : decide (s = nilB) = b) : (s.toList == [110, 105, 108]) = b := by
  subst h
  have e : nilB.toList = [110, 105, 108] := by rw [ByteArray.toList_eq]; rfl
  rw [← e]
  exact str_beq s nilB

theorem vparse_nil (w : World) : Calls Tryd.prog 25 #[.string nilB] w (OPost (some z0) w) := by
  have ka : Keep [] w (w.alloc (.cells #[.int .i64 0, .int .i64 0, .int .u64 0, .int .u64 0, .int .i64 0] 24)) := Keep.alloc _ _
  have hB := Blk.new w 24 #[.int .i64 0, .int .i64 0, .int .u64 0, .int .u64 0, .int .i64 0]
  have hN := fun W => vnil_any W
  have hq := nil_beq nilB true (by decide)
  generalize nilB = s at *
  go_enter Tryd.func25, Tryd.ntmps25
  go_wp2_with fail
  (with_reducible refine (hN _).mono ?_)
  rintro e w2 ⟨rfl, k2⟩
  clear hN
  have hZ := hB.keep k2 (by simp)
  go_wp2_with (refine wpList_store_row rfl 24 (.tmp 2) (.tmp 12) rfl w.heap.size #[.int .i64 0, .int .i64 0, .int .u64 0, .int .u64 0, .int .i64 0] rfl rfl 24 #[.int .i64 0, .int .i64 0, .int .u64 0, .int .u64 0, .int .i64 0] hZ kz rfl (h1c ..) ?_)
  (try simp only [Exit.inBlock, Exit.then])
  refine bodyPost_ret (v := .tuple #[.agg #[.int .i64 0, .int .i64 0, .int .u64 0, .int .u64 0, .int .i64 0], .bool true]) (results_cell_tmpV rfl _ _ w.heap.size 24 #[.int .i64 0, .int .i64 0, .int .u64 0, .int .u64 0, .int .i64 0] (0, 0) _ _ rfl rfl (setRow_heap _ _ _ _ _ _ hZ) Tryd.underlying24 rfl kz) rfl ?_
  exact ⟨rfl, (ka.trans k2).setV (Nat.le_refl _)⟩

theorem vparse_c (s : ByteArray) (h : ¬ s = nilB) (hc : s.data.toList.head? = some 99) (w : World) : Calls Tryd.prog 25 #[.string s] w (OPost ((pC (nums (s.extract 1 s.size))).map fun ab => ⟨2, 0, ab.1, ab.2, 0⟩) w) := by
  have ka : Keep [] w (w.alloc (.cells #[.int .i64 0, .int .i64 0, .int .u64 0, .int .u64 0, .int .i64 0] 24)) := Keep.alloc _ _
  have hB := Blk.new w 24 #[.int .i64 0, .int .i64 0, .int .u64 0, .int .u64 0, .int .i64 0]
  have hq := nil_beq s false (decide_eq_false h)
  have hC := fun W => cut_yes 99 s hc W
  generalize s.extract 1 s.size = t at *
  have hV := fun W => pcx_any t W
  unfold OPost at hV ⊢
  generalize ((pC (nums t)).map fun ab => (⟨2, 0, ab.1, ab.2, 0⟩ : Val)).isSome = i1 at *
  generalize ((pC (nums t)).map fun ab => (⟨2, 0, ab.1, ab.2, 0⟩ : Val)).getD z0 = V at *
  obtain ⟨K, n, p, q, r⟩ := V
  dsimp only at hV ⊢
  clear h hc
  go_enter Tryd.func25, Tryd.ntmps25
  go_wp2_with fail
  (with_reducible refine (hC _).mono ?_)
  rintro e w1 ⟨rfl, rfl⟩
  go_wp2_with fail
  (with_reducible refine (hV _).mono ?_)
  rintro e w2 ⟨rfl, k2⟩
  clear hV hC
  have hZ := hB.keep k2 (by simp)
  go_wp2_with (refine wpList_store_row rfl 24 (.tmp 2) (.tmp 21) rfl w.heap.size #[.int .i64 K, .int .i64 n, .int .u64 p, .int .u64 q, .int .i64 r] rfl rfl 24 #[.int .i64 0, .int .i64 0, .int .u64 0, .int .u64 0, .int .i64 0] hZ kz rfl (h1c ..) ?_)
  (try simp only [Exit.inBlock, Exit.then])
  refine bodyPost_ret (v := .tuple #[.agg #[.int .i64 K, .int .i64 n, .int .u64 p, .int .u64 q, .int .i64 r], .bool i1]) (results_cell_tmpV rfl _ _ w.heap.size 24 #[.int .i64 K, .int .i64 n, .int .u64 p, .int .u64 q, .int .i64 r] (0, 0) _ _ rfl rfl (setRow_heap _ _ _ _ _ _ hZ) Tryd.underlying24 rfl kz) rfl ?_
  exact ⟨rfl, (ka.trans k2).setV (Nat.le_refl _)⟩

theorem vparse_ref (s : ByteArray) (hs : s.size ≤ 281474976710656) (h : ¬ s = nilB) (hc : s.data.toList.head? ≠ some 99) (hr : s.data.toList.head? = some 35) (w : World) (hT : Tabs w) : Calls Tryd.prog 25 #[.string s] w (OPost ((numB (s.extract 1 s.size)).map fun n => ⟨3, 0, 0, 0, n⟩) w) := by
  have ka : Keep [] w (w.alloc (.cells #[.int .i64 0, .int .i64 0, .int .u64 0, .int .u64 0, .int .i64 0] 24)) := Keep.alloc _ _
  have hB := Blk.new w 24 #[.int .i64 0, .int .i64 0, .int .u64 0, .int .u64 0, .int .i64 0]
  have hq := nil_beq s false (decide_eq_false h)
  have hC := fun W => cut_no 99 s hc W
  have hR := fun W => cut_yes 35 s hr W
  have hx : (s.extract 1 s.size).size ≤ 281474976710656 := by rw [ByteArray.size_extract]; omega
  generalize s.extract 1 s.size = t at *
  have hD := fun W (hk : Keep [] w W) => pdec_any t (by omega) W (hT.keep hk)
  unfold DecPost at hD
  clear h hc hr hs hx hT
  cases ho : numB t with
  | none =>
    rw [ho] at hD
    simp only [Option.getD_none, Option.isSome_none] at hD
    clear ho
    have HD := Lib.hid hD
    clear hD
    go_enter Tryd.func25, Tryd.ntmps25
    go_wp2_with fail
    (with_reducible refine (hC _).mono ?_)
    rintro e w1 ⟨rfl, rfl⟩
    go_wp2_with fail
    (with_reducible refine (hR _).mono ?_)
    rintro e w1 ⟨rfl, rfl⟩
    go_wp2_with fail
    (with_reducible refine (HD.out _ ka).mono ?_)
    rintro e w2 ⟨rfl, k2⟩
    clear hC hR
    have hZ := hB.keep k2 (by simp)
    go_wp2_with (refine wpList_store_row rfl 24 (.tmp 2) (.tmp 36) rfl w.heap.size #[.int .i64 0, .int .i64 0, .int .u64 0, .int .u64 0, .int .i64 0] rfl rfl 24 #[.int .i64 0, .int .i64 0, .int .u64 0, .int .u64 0, .int .i64 0] hZ kz rfl (h1c ..) ?_)
    (try simp only [Exit.inBlock, Exit.then])
    refine bodyPost_ret (v := .tuple #[.agg #[.int .i64 0, .int .i64 0, .int .u64 0, .int .u64 0, .int .i64 0], .bool false]) (results_cell_tmpV rfl _ _ w.heap.size 24 #[.int .i64 0, .int .i64 0, .int .u64 0, .int .u64 0, .int .i64 0] (0, 0) _ _ rfl rfl (setRow_heap _ _ _ _ _ _ hZ) Tryd.underlying24 rfl kz) rfl ?_
    exact ⟨rfl, (ka.trans k2).setV (Nat.le_refl _)⟩
  | some n =>
    rw [ho] at hD
    simp only [Option.getD_some, Option.isSome_some] at hD
    clear ho
    have HD := Lib.hid hD
    have hV := fun W => vref_any n W
    clear hD
    go_enter Tryd.func25, Tryd.ntmps25
    go_wp2_with fail
    (with_reducible refine (hC _).mono ?_)
    rintro e w1 ⟨rfl, rfl⟩
    go_wp2_with fail
    (with_reducible refine (hR _).mono ?_)
    rintro e w1 ⟨rfl, rfl⟩
    go_wp2_with fail
    (with_reducible refine (HD.out _ ka).mono ?_)
    rintro e w2 ⟨rfl, k2⟩
    go_wp2_with fail
    (with_reducible refine (hV _).mono ?_)
    rintro e w3 ⟨rfl, k3⟩
    clear hC hR hV
    have hZ := hB.keep (k2.trans k3) (by simp)
    go_wp2_with (refine wpList_store_row rfl 24 (.tmp 2) (.tmp 40) rfl w.heap.size #[.int .i64 3, .int .i64 0, .int .u64 0, .int .u64 0, .int .i64 n] rfl rfl 24 #[.int .i64 0, .int .i64 0, .int .u64 0, .int .u64 0, .int .i64 0] hZ kz rfl (h1c ..) ?_)
    (try simp only [Exit.inBlock, Exit.then])
    refine bodyPost_ret (v := .tuple #[.agg #[.int .i64 3, .int .i64 0, .int .u64 0, .int .u64 0, .int .i64 n], .bool true]) (results_cell_tmpV rfl _ _ w.heap.size 24 #[.int .i64 3, .int .i64 0, .int .u64 0, .int .u64 0, .int .i64 n] (0, 0) _ _ rfl rfl (setRow_heap _ _ _ _ _ _ hZ) Tryd.underlying24 rfl kz) rfl ?_
    exact ⟨rfl, (ka.trans (k2.trans k3)).setV (Nat.le_refl _)⟩

theorem vparse_int (s : ByteArray) (hs : s.size ≤ 281474976710656) (h : ¬ s = nilB) (hc : s.data.toList.head? ≠ some 99) (hr : s.data.toList.head? ≠ some 35) (w : World) (hT : Tabs w) : Calls Tryd.prog 25 #[.string s] w (OPost ((numB (s)).map fun n => ⟨1, n, 0, 0, 0⟩) w) := by
  have ka : Keep [] w (w.alloc (.cells #[.int .i64 0, .int .i64 0, .int .u64 0, .int .u64 0, .int .i64 0] 24)) := Keep.alloc _ _
  have hB := Blk.new w 24 #[.int .i64 0, .int .i64 0, .int .u64 0, .int .u64 0, .int .i64 0]
  have hq := nil_beq s false (decide_eq_false h)
  have hC := fun W => cut_no 99 s hc W
  have hR := fun W => cut_no 35 s hr W
  have hx : (s.extract 1 s.size).size ≤ 281474976710656 := by rw [ByteArray.size_extract]; omega
  have hD := fun W (hk : Keep [] w W) => pdec_any s (by omega) W (hT.keep hk)
  unfold DecPost at hD
  clear h hc hr hs hx hT
  cases ho : numB s with
  | none =>
    rw [ho] at hD
    simp only [Option.getD_none, Option.isSome_none] at hD
    clear ho
    have HD := Lib.hid hD
    clear hD
    go_enter Tryd.func25, Tryd.ntmps25
    go_wp2_with fail
    (with_reducible refine (hC _).mono ?_)
    rintro e w1 ⟨rfl, rfl⟩
    go_wp2_with fail
    (with_reducible refine (hR _).mono ?_)
    rintro e w1 ⟨rfl, rfl⟩
    go_wp2_with fail
    (with_reducible refine (HD.out _ ka).mono ?_)
    rintro e w2 ⟨rfl, k2⟩
    clear hC hR
    have hZ := hB.keep k2 (by simp)
    go_wp2_with (refine wpList_store_row rfl 24 (.tmp 2) (.tmp 36) rfl w.heap.size #[.int .i64 0, .int .i64 0, .int .u64 0, .int .u64 0, .int .i64 0] rfl rfl 24 #[.int .i64 0, .int .i64 0, .int .u64 0, .int .u64 0, .int .i64 0] hZ kz rfl (h1c ..) ?_)
    (try simp only [Exit.inBlock, Exit.then])
    refine bodyPost_ret (v := .tuple #[.agg #[.int .i64 0, .int .i64 0, .int .u64 0, .int .u64 0, .int .i64 0], .bool false]) (results_cell_tmpV rfl _ _ w.heap.size 24 #[.int .i64 0, .int .i64 0, .int .u64 0, .int .u64 0, .int .i64 0] (0, 0) _ _ rfl rfl (setRow_heap _ _ _ _ _ _ hZ) Tryd.underlying24 rfl kz) rfl ?_
    exact ⟨rfl, (ka.trans k2).setV (Nat.le_refl _)⟩
  | some n =>
    rw [ho] at hD
    simp only [Option.getD_some, Option.isSome_some] at hD
    clear ho
    have HD := Lib.hid hD
    have hV := fun W => vint_any n W
    clear hD
    go_enter Tryd.func25, Tryd.ntmps25
    go_wp2_with fail
    (with_reducible refine (hC _).mono ?_)
    rintro e w1 ⟨rfl, rfl⟩
    go_wp2_with fail
    (with_reducible refine (hR _).mono ?_)
    rintro e w1 ⟨rfl, rfl⟩
    go_wp2_with fail
    (with_reducible refine (HD.out _ ka).mono ?_)
    rintro e w2 ⟨rfl, k2⟩
    go_wp2_with fail
    (with_reducible refine (hV _).mono ?_)
    rintro e w3 ⟨rfl, k3⟩
    clear hC hR hV
    have hZ := hB.keep (k2.trans k3) (by simp)
    go_wp2_with (refine wpList_store_row rfl 24 (.tmp 2) (.tmp 42) rfl w.heap.size #[.int .i64 1, .int .i64 n, .int .u64 0, .int .u64 0, .int .i64 0] rfl rfl 24 #[.int .i64 0, .int .i64 0, .int .u64 0, .int .u64 0, .int .i64 0] hZ kz rfl (h1c ..) ?_)
    (try simp only [Exit.inBlock, Exit.then])
    refine bodyPost_ret (v := .tuple #[.agg #[.int .i64 1, .int .i64 n, .int .u64 0, .int .u64 0, .int .i64 0], .bool true]) (results_cell_tmpV rfl _ _ w.heap.size 24 #[.int .i64 1, .int .i64 n, .int .u64 0, .int .u64 0, .int .i64 0] (0, 0) _ _ rfl rfl (setRow_heap _ _ _ _ _ _ hZ) Tryd.underlying24 rfl kz) rfl ?_
    exact ⟨rfl, (ka.trans (k2.trans k3)).setV (Nat.le_refl _)⟩

theorem vparse_any (s : ByteArray) (hs : s.size ≤ 281474976710656) (w : World) (hT : Tabs w) : Calls Tryd.prog 25 #[.string s] w (OPost (parseV s) w) := by
  unfold parseV
  by_cases h : s = nilB
  · rw [if_pos h, h]
    exact vparse_nil w
  rw [if_neg h]
  by_cases hc : s.data.toList.head? = some 99
  · rw [if_pos hc]
    exact vparse_c s h hc w
  rw [if_neg hc]
  by_cases hr : s.data.toList.head? = some 35
  · rw [if_pos hr]
    exact vparse_ref s hs h hc hr w hT
  · rw [if_neg hr]
    exact vparse_int s hs h hc hr w hT

theorem rvparse_nil (w : World) : Calls Tryd.prog 26 #[.string nilB] w (OPost (some z0) w) := by
  have ka : Keep [] w (w.alloc (.cells #[.int .i64 0, .int .i64 0, .int .u64 0, .int .u64 0, .int .i64 0] 24)) := Keep.alloc _ _
  have hq := nil_beq nilB true (by decide)
  generalize nilB = s at *
  go_enter Tryd.func26, Tryd.ntmps26
  go_wp2
  (try simp only [Exit.inBlock, Exit.then])
  refine bodyPost_ret (v := .tuple #[.agg #[.int .i64 0, .int .i64 0, .int .u64 0, .int .u64 0, .int .i64 0], .bool true]) (results_cell_tmpV rfl _ _ w.heap.size 24 #[.int .i64 0, .int .i64 0, .int .u64 0, .int .u64 0, .int .i64 0] (0, 0) _ _ rfl rfl (heap_alloc_new _ _) Tryd.underlying24 rfl kz) rfl ?_
  exact ⟨rfl, ka⟩

theorem rvparse_c (s : ByteArray) (h : ¬ s = nilB) (h0 : 0 < s.size) (hc : s[0].toNat = 99) (w : World) : Calls Tryd.prog 26 #[.string s] w (OPost ((pC (nums (s.extract 1 s.size))).map fun ab => ⟨2, 0, ab.1, ab.2, 0⟩) w) := by
  have ka : Keep [] w (w.alloc (.cells #[.int .i64 0, .int .i64 0, .int .u64 0, .int .u64 0, .int .i64 0] 24)) := Keep.alloc _ _
  have hq := nil_beq s false (decide_eq_false h)
  obtain ⟨t, ht⟩ : ∃ t, s.extract 1 s.size = t := ⟨_, rfl⟩
  rw [ht]
  have hP := fun W => rparse_any t W
  clear h
  cases ho : pC (nums t) with
  | none =>
    rw [ho] at hP
    simp only [Option.getD_none, Option.isSome_none] at hP
    clear ho
    go_enter Tryd.func26, Tryd.ntmps26
    go_wp2_with fail
    (with_reducible refine (hP _).mono ?_)
    rintro e w1 ⟨rfl, rfl⟩
    clear hP
    go_wp2
    (try simp only [Exit.inBlock, Exit.then])
    refine bodyPost_ret (v := .tuple #[.agg #[.int .i64 0, .int .i64 0, .int .u64 0, .int .u64 0, .int .i64 0], .bool false]) (results_cell_tmpV rfl _ _ w.heap.size 24 #[.int .i64 0, .int .i64 0, .int .u64 0, .int .u64 0, .int .i64 0] (0, 0) _ _ rfl rfl (heap_alloc_new _ _) Tryd.underlying24 rfl kz) rfl ?_
    exact ⟨rfl, ka⟩
  | some ab =>
    obtain ⟨a, b⟩ := ab
    rw [ho] at hP
    simp only [Option.getD_some, Option.isSome_some] at hP
    have hV := fun W => rwords_any a b W
    clear ho
    go_enter Tryd.func26, Tryd.ntmps26
    go_wp2_with fail
    (with_reducible refine (hP _).mono ?_)
    rintro e w1 ⟨rfl, rfl⟩
    clear hP
    go_wp2_with fail
    (with_reducible refine (hV _).mono ?_)
    rintro e w1 ⟨rfl, rfl⟩
    clear hV
    go_wp2
    (try simp only [Exit.inBlock, Exit.then])
    refine bodyPost_ret (v := .tuple #[.agg #[.int .i64 2, .int .i64 0, .int .u64 a, .int .u64 b, .int .i64 0], .bool true]) (results_cell_tmpV rfl _ _ w.heap.size 24 #[.int .i64 2, .int .i64 0, .int .u64 a, .int .u64 b, .int .i64 0] (0, 0) _ _ rfl rfl (heap_alloc_new _ _) Tryd.underlying24 rfl kz) rfl ?_
    exact ⟨rfl, Keep.alloc _ _⟩

theorem rvparse_ref (s : ByteArray) (h : ¬ s = nilB) (h0 : 0 < s.size) (hr : s[0].toNat = 35) (w : World) : Calls Tryd.prog 26 #[.string s] w (OPost ((numB (s.extract 1 s.size)).map fun n => ⟨3, 0, 0, 0, n⟩) w) := by
  have ka : Keep [] w (w.alloc (.cells #[.int .i64 0, .int .i64 0, .int .u64 0, .int .u64 0, .int .i64 0] 24)) := Keep.alloc _ _
  have hq := nil_beq s false (decide_eq_false h)
  obtain ⟨t, ht⟩ : ∃ t, s.extract 1 s.size = t := ⟨_, rfl⟩
  rw [ht]
  have hD := fun W => rnum_any t W
  clear h
  cases ho : numB t with
  | none =>
    rw [ho] at hD
    simp only [Option.getD_none, Option.isSome_none] at hD
    clear ho
    go_enter Tryd.func26, Tryd.ntmps26
    go_wp2_with fail
    (with_reducible refine (hD _).mono ?_)
    rintro e w1 ⟨rfl, rfl⟩
    clear hD
    go_wp2
    (try simp only [Exit.inBlock, Exit.then])
    refine bodyPost_ret (v := .tuple #[.agg #[.int .i64 0, .int .i64 0, .int .u64 0, .int .u64 0, .int .i64 0], .bool false]) (results_cell_tmpV rfl _ _ w.heap.size 24 #[.int .i64 0, .int .i64 0, .int .u64 0, .int .u64 0, .int .i64 0] (0, 0) _ _ rfl rfl (heap_alloc_new _ _) Tryd.underlying24 rfl kz) rfl ?_
    exact ⟨rfl, ka⟩
  | some n =>
    rw [ho] at hD
    simp only [Option.getD_some, Option.isSome_some] at hD
    clear ho
    go_enter Tryd.func26, Tryd.ntmps26
    go_wp2_with fail
    (with_reducible refine (hD _).mono ?_)
    rintro e w1 ⟨rfl, rfl⟩
    clear hD
    go_wp2
    (try simp only [Exit.inBlock, Exit.then])
    refine bodyPost_ret (v := .tuple #[.agg #[.int .i64 3, .int .i64 0, .int .u64 0, .int .u64 0, .int .i64 n], .bool true]) (results_cell_tmpV rfl _ _ w.heap.size 24 #[.int .i64 3, .int .i64 0, .int .u64 0, .int .u64 0, .int .i64 n] (0, 0) _ _ rfl rfl (heap_alloc_new _ _) Tryd.underlying24 rfl kz) rfl ?_
    exact ⟨rfl, Keep.alloc _ _⟩

theorem rvparse_int (s : ByteArray) (h : ¬ s = nilB) (h0 : 0 < s.size) (hc : ¬ s[0].toNat = 99) (hr : ¬ s[0].toNat = 35) (w : World) : Calls Tryd.prog 26 #[.string s] w (OPost ((numB (s)).map fun n => ⟨1, n, 0, 0, 0⟩) w) := by
  have ka : Keep [] w (w.alloc (.cells #[.int .i64 0, .int .i64 0, .int .u64 0, .int .u64 0, .int .i64 0] 24)) := Keep.alloc _ _
  have hq := nil_beq s false (decide_eq_false h)
  have hD := fun W => rnum_any s W
  clear h
  cases ho : numB s with
  | none =>
    rw [ho] at hD
    simp only [Option.getD_none, Option.isSome_none] at hD
    clear ho
    go_enter Tryd.func26, Tryd.ntmps26
    go_wp2_with fail
    (with_reducible refine (hD _).mono ?_)
    rintro e w1 ⟨rfl, rfl⟩
    clear hD
    go_wp2
    (try simp only [Exit.inBlock, Exit.then])
    refine bodyPost_ret (v := .tuple #[.agg #[.int .i64 0, .int .i64 0, .int .u64 0, .int .u64 0, .int .i64 0], .bool false]) (results_cell_tmpV rfl _ _ w.heap.size 24 #[.int .i64 0, .int .i64 0, .int .u64 0, .int .u64 0, .int .i64 0] (0, 0) _ _ rfl rfl (heap_alloc_new _ _) Tryd.underlying24 rfl kz) rfl ?_
    exact ⟨rfl, ka⟩
  | some n =>
    rw [ho] at hD
    simp only [Option.getD_some, Option.isSome_some] at hD
    clear ho
    go_enter Tryd.func26, Tryd.ntmps26
    go_wp2_with fail
    (with_reducible refine (hD _).mono ?_)
    rintro e w1 ⟨rfl, rfl⟩
    clear hD
    go_wp2
    (try simp only [Exit.inBlock, Exit.then])
    refine bodyPost_ret (v := .tuple #[.agg #[.int .i64 1, .int .i64 n, .int .u64 0, .int .u64 0, .int .i64 0], .bool true]) (results_cell_tmpV rfl _ _ w.heap.size 24 #[.int .i64 1, .int .i64 n, .int .u64 0, .int .u64 0, .int .i64 0] (0, 0) _ _ rfl rfl (heap_alloc_new _ _) Tryd.underlying24 rfl kz) rfl ?_
    exact ⟨rfl, Keep.alloc _ _⟩

theorem rvparse_none (s : ByteArray) (h : ¬ s = nilB) (h0 : ¬ 0 < s.size) (w : World) : Calls Tryd.prog 26 #[.string s] w (OPost ((numB (s)).map fun n => ⟨1, n, 0, 0, 0⟩) w) := by
  have ka : Keep [] w (w.alloc (.cells #[.int .i64 0, .int .i64 0, .int .u64 0, .int .u64 0, .int .i64 0] 24)) := Keep.alloc _ _
  have hq := nil_beq s false (decide_eq_false h)
  have hD := fun W => rnum_any s W
  clear h
  cases ho : numB s with
  | none =>
    rw [ho] at hD
    simp only [Option.getD_none, Option.isSome_none] at hD
    clear ho
    go_enter Tryd.func26, Tryd.ntmps26
    go_wp2_with fail
    (with_reducible refine (hD _).mono ?_)
    rintro e w1 ⟨rfl, rfl⟩
    clear hD
    go_wp2
    (try simp only [Exit.inBlock, Exit.then])
    refine bodyPost_ret (v := .tuple #[.agg #[.int .i64 0, .int .i64 0, .int .u64 0, .int .u64 0, .int .i64 0], .bool false]) (results_cell_tmpV rfl _ _ w.heap.size 24 #[.int .i64 0, .int .i64 0, .int .u64 0, .int .u64 0, .int .i64 0] (0, 0) _ _ rfl rfl (heap_alloc_new _ _) Tryd.underlying24 rfl kz) rfl ?_
    exact ⟨rfl, ka⟩
  | some n =>
    rw [ho] at hD
    simp only [Option.getD_some, Option.isSome_some] at hD
    clear ho
    go_enter Tryd.func26, Tryd.ntmps26
    go_wp2_with fail
    (with_reducible refine (hD _).mono ?_)
    rintro e w1 ⟨rfl, rfl⟩
    clear hD
    go_wp2
    (try simp only [Exit.inBlock, Exit.then])
    refine bodyPost_ret (v := .tuple #[.agg #[.int .i64 1, .int .i64 n, .int .u64 0, .int .u64 0, .int .i64 0], .bool true]) (results_cell_tmpV rfl _ _ w.heap.size 24 #[.int .i64 1, .int .i64 n, .int .u64 0, .int .u64 0, .int .i64 0] (0, 0) _ _ rfl rfl (heap_alloc_new _ _) Tryd.underlying24 rfl kz) rfl ?_
    exact ⟨rfl, Keep.alloc _ _⟩

theorem rvparse_any (s : ByteArray) (w : World) : Calls Tryd.prog 26 #[.string s] w (OPost (parseV s) w) := by
  unfold parseV
  by_cases h : s = nilB
  · rw [if_pos h, h]
    exact rvparse_nil w
  rw [if_neg h]
  by_cases h0 : 0 < s.size
  case neg =>
    have e := head_none h0
    rw [e]
    exact rvparse_none s h h0 w
  have hh : ∀ b : UInt8, s.data.toList.head? = some b ↔ s[0].toNat = b.toNat := fun b => by
    rw [head_at h0]
    exact ⟨fun e => by injection e with e; rw [e], fun e => by rw [UInt8.toNat_inj.1 e]⟩
  by_cases hc : s.data.toList.head? = some 99
  · rw [if_pos hc]
    exact rvparse_c s h h0 ((hh 99).1 hc) w
  rw [if_neg hc]
  by_cases hr : s.data.toList.head? = some 35
  · rw [if_pos hr]
    exact rvparse_ref s h h0 ((hh 35).1 hr) w
  · rw [if_neg hr]
    exact rvparse_int s h h0 (fun e => hc ((hh 99).2 e)) (fun e => hr ((hh 35).2 e)) w
end Go.Proofs.YtjnaglellobmmaaDoor
