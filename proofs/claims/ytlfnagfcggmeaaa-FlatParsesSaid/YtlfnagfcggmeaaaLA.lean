/- Proved here: which shapes may be (the program's May). Condition: shapes that lie in memory, within limits. · is a number in a list (slices.Contains); how many contours and points are too many (room). Condition: lists that lie in memory. · contours in new memory, each in a row of its own (slices.Clone, copied). Condition: contours that lie in memory, each with a point. · all points of contours in rows of their own, moved in place (move). Condition: contours in rows of their own, whose points and a part that may be. -/
import Derived.Test.YtlfnagfcggmeaaaFA
import Derived.Test.YtlfnagfcggmeaaaPA
import Derived.Test.YtlfnagfcggmeaaaKA
import Derived.Test.YtlfnagfcggmeaaaFB
namespace Go.Proofs.Ytlfnagfcggmeaaa
open Go.RowKit

theorem mayG_nil : MayG [] := ⟨by simp, fun i hi => absurd hi (by simp)⟩
set_option maxHeartbeats 4000000 in
set_option maxRecDepth 100000 in
theorem mayShape_any (B B' : Option Addr) (c c' : Nat) (CC : List (List Pt)) (PP : List C.Prt) (m : Int) (w : World) (hC : Ctl w B CC.length CC) (hP : C.Prl w B' PP.length PP)
    (l1 : CC.length ≤ 1000) (l2 : ∀ j, j < CC.length → (ct CC j).length ≤ 5000) (l3 : PP.length ≤ 1000) :
    Calls Try.prog 22 #[.agg #[.slice B CC.length c, .slice B' PP.length c'], .int .i64 m] w fun e w' => e = .returned (.bool (decide (okSh (CC, PP) m))) ∧ Below w.heap.size w w' := by
  have HA := Lib.hid (show Below w.heap.size w (w.alloc (.cells #[.slice B CC.length c, .slice B' PP.length c'] 50)) from (Below.refl _ _).alloc (Nat.le_refl _) _)
  have HBx := Lib.hid (Bs.new w B CC.length c B' PP.length c')
  have CM := Lib.hid (may_any B CC.length c CC _ (hC.bel HA.out) l1 l2)
  have CP := Lib.hid (C.may_any B' PP.length c' PP m _ (hP.bel HA.out) (by omega))
  have HO := Lib.hid (show okSh (CC, PP) m ↔ ¬ (0 < CC.length ∧ 0 < PP.length) ∧ MayG CC ∧ (0 < PP.length → C.MayL PP m) from Iff.rfl)
  have HZ := Lib.hid (show CC.length = 0 → MayG CC from fun h => by rw [List.length_eq_zero_iff.1 h]; exact mayG_nil)
  obtain ⟨n1, hn1⟩ : ∃ n, n = CC.length := ⟨_, rfl⟩
  obtain ⟨n2, hn2⟩ : ∃ n, n = PP.length := ⟨_, rfl⟩
  rw [← hn1] at HA HBx CM CP HO HZ ⊢
  rw [← hn2] at HA HBx CM CP HO ⊢
  obtain ⟨x0, x1⟩ := HBx.out.cells
  clear hC hP l1 l2 l3 hn1 hn2
  by_cases h2 : n2 = 0
  · subst h2
    have hd : decide (okSh (CC, PP) m) = decide (MayG CC) := decide_eq_decide.2 ⟨fun h => (HO.out.1 h).2.1, fun h => HO.out.2 ⟨fun h2 => absurd h2.2 (by omega), h, fun h2 => absurd h2 (by omega)⟩⟩
    rw [hd]
    clear hd
    go_enter Try.func22, Try.ntmps22
    go_wp2_with (go_at_call 39; (with_reducible refine CM.out.mono ?_); rintro e w1 ⟨rfl, hb⟩; have HW := Lib.hid (HA.out.trans (hb.mono HA.out.size)); clear hb)
    go_ret
    exact ⟨rfl, HW.out⟩
  · have e2 : ((n2 : Int) == 0) = false := beq_eq_false_iff_ne.2 (by omega)
    by_cases h1 : n1 = 0
    · subst h1
      have hd : decide (okSh (CC, PP) m) = decide (C.MayL PP m) := decide_eq_decide.2 ⟨fun h => (HO.out.1 h).2.2 (by omega), fun h => HO.out.2 ⟨fun h2 => absurd h2.1 (by omega), HZ.out rfl, fun _ => h⟩⟩
      rw [hd]
      clear hd
      go_enter Try.func22, Try.ntmps22
      go_wp2_with (go_at_call 40; (with_reducible refine CP.out.mono ?_); rintro e w1 ⟨rfl, hb⟩; have HW := Lib.hid (HA.out.trans (hb.mono HA.out.size)); clear hb)
      go_ret
      exact ⟨rfl, HW.out⟩
    · have e1 : ((n1 : Int) == 0) = false := beq_eq_false_iff_ne.2 (by omega)
      rw [decide_eq_false (show ¬ okSh (CC, PP) m from fun h => (HO.out.1 h).1 ⟨by omega, by omega⟩)]
      go_enter Try.func22, Try.ntmps22
      go_wp2_with fail
      go_ret
      exact ⟨rfl, HA.out⟩
set_option maxHeartbeats 4000000 in
set_option maxRecDepth 100000 in
theorem mayShapes_any (A : Option Addr) (m c : Nat) (SS : List Shp) (w : World) (hP : Shl w A m SS) (hL : LimS SS) (hm : m ≤ 100000) :
    Calls Try.prog 13 #[.slice A m c] w fun e w' => e = .returned (.bool (decide (MayS SS))) ∧ Below w.heap.size w w' := by
  have hlen := hP.len
  by_cases h0 : m = 0
  · subst h0
    rw [decide_eq_false (show ¬ MayS SS from fun h => by have := h.1.1; omega)]
    clear hlen hP hL
    go_enter Try.func13, Try.ntmps13
    go_wp2_with fail
    go_ret
    exact ⟨rfl, Below.refl _ _⟩
  have e0 : ((m : Int) == 0) = false := beq_eq_false_iff_ne.2 (by omega)
  by_cases h64 : 1024 < m
  · rw [decide_eq_false (show ¬ MayS SS from fun h => by have := h.1.2; omega)]
    have e1 : decide (1024 < (m : Int)) = true := decide_eq_true (by omega)
    clear hlen hP hL
    go_enter Try.func13, Try.ntmps13
    go_wp2_with fail
    go_ret
    exact ⟨rfl, Below.refl _ _⟩
  have e1 : decide (1024 < (m : Int)) = false := decide_eq_false (by omega)
  have HY := Lib.hid (show (∀ i, i < m → okSh (sh SS i) (m : Int)) → decide (MayS SS) = true from fun h => decide_eq_true ⟨by omega, by rw [hlen]; exact h⟩)
  have HN := Lib.hid (show ∀ k, k < m → ¬ okSh (sh SS k) (m : Int) → decide (MayS SS) = false from fun k hk h => decide_eq_false fun h2 => h (by have := h2.2 k (by omega); rw [hlen] at this; exact this))
  have HI := Lib.hid hP
  have HL := Lib.hid (show ∀ i, i < m → _ from by rw [← hlen]; exact hL)
  clear hlen hP hL
  go_enter Try.func13, Try.ntmps13
  go_wp2_with fail
  go_loopw [15] (fun i wr => ∃ k : Nat, i = .int .i64 (k : Int) ∧ k ≤ m ∧ (∀ i, i < k → okSh (sh SS i) (m : Int)) ∧ Below w.heap.size w wr) (fun i _ => m - (intOf i).toNat)
  case atStart => exact ⟨0, rfl, Nat.zero_le _, fun i hi => by omega, Below.refl _ _⟩
  case round =>
    obtain ⟨k, rfl, hk, hok, hb⟩ := hrel
    have HB := Lib.hid hb
    by_cases hgo : k < m
    · obtain ⟨ad, B, c1, B', c1', rfl, d0, d1, hC, hP⟩ := HI.out.at_ hb hgo
      have HSU := Lib.hid (show okSh (sh SS k) (m : Int) → ∀ i, i < k + 1 → okSh (sh SS i) (m : Int) from all_succ hok)
      have HNK := Lib.hid (HN.out k hgo)
      obtain ⟨l1, l2, l3⟩ := HL.out k hgo
      obtain ⟨s, hs⟩ : ∃ s, s = sh SS k := ⟨_, rfl⟩
      rw [← hs] at d0 d1 hC hP HSU HNK l1 l2 l3
      obtain ⟨CC, PP⟩ := s
      dsimp only at d0 d1 hC hP l1 l2 l3
      have HX := Lib.hid (show Below w.heap.size w (wr.alloc (.cells #[.slice B CC.length c1, .slice B' PP.length c1'] 50)) from hb.alloc hb.size _)
      obtain ⟨x0, x1⟩ := (Bs.new wr B CC.length c1 B' PP.length c1').cells
      have HA := Lib.hid (show Below wr.heap.size wr (wr.alloc (.cells #[.slice B CC.length c1, .slice B' PP.length c1'] 50)) from (Below.refl _ _).alloc (Nat.le_refl _) _)
      have CV := Lib.hid (mayShape_any B B' c1 c1' CC PP (m : Int) _ (hC.bel HA.out) (hP.bel HA.out) l1 l2 l3)
      obtain ⟨n1, hn1⟩ : ∃ n, n = CC.length := ⟨_, rfl⟩
      obtain ⟨n2, hn2⟩ : ∃ n, n = PP.length := ⟨_, rfl⟩
      rw [← hn1] at d0 HX x0 x1 CV
      rw [← hn2] at d1 HX x0 x1 CV
      clear hs hC hP l1 l2 l3 hn1 hn2 hb hok HA
      by_cases hg : okSh (CC, PP) (m : Int)
      · rw [decide_eq_true hg] at CV
        have HK := Lib.hid (HSU.out hg)
        clear hg
        go_wp2_with (go_at_call 22; (with_reducible refine CV.out.mono ?_); rintro e w1 ⟨rfl, hb⟩; have HW := Lib.hid (HX.out.trans (hb.mono HX.out.size)); clear hb)
        exact ⟨⟨k + 1, by simp, by omega, HK.out, HW.out⟩, by simp [intOf]; omega⟩
      · rw [decide_eq_false hg] at CV
        have HK := Lib.hid (HNK.out hg)
        clear hg
        go_wp2_with (go_at_call 22; (with_reducible refine CV.out.mono ?_); rintro e w1 ⟨rfl, hb⟩; have HW := Lib.hid (HX.out.trans (hb.mono HX.out.size)); clear hb)
        go_ret
        exact ⟨by rw [HK.out]; rfl, HW.out⟩
    · obtain rfl : k = m := by omega
      have HX := Lib.hid (HY.out hok)
      clear hb hok
      go_wp2_with fail
      go_ret
      exact ⟨by rw [HX.out]; rfl, HB.out⟩
end Go.Proofs.Ytlfnagfcggmeaaa
namespace Go.Proofs.Ytlfnagfcggmeaaa
open Go.RowKit

set_option maxHeartbeats 4000000 in
set_option maxRecDepth 100000 in
theorem index_any (A : Option Addr) (n c : Nat) (xs : List Int) (x : Int) (w : World) (h : Il .i64 w A n xs) (hn : n ≤ 100000) :
    Calls Try.prog 84 #[.slice A n c, .int .i64 x] w fun e w' => (∃ r : Int, e = .returned (.int .i64 r) ∧ (0 ≤ r ↔ x ∈ xs)) ∧ Below w.heap.size w w' := by
  have hlen := h.len
  have HI := Lib.hid h
  have HM := Lib.hid (show x ∈ xs ↔ ∃ i, i < n ∧ co xs i = x from by rw [← hlen]; exact mem_co)
  clear hlen h
  go_enter Try.func84, Try.ntmps84
  go_wp2_with fail
  go_loopw [8] (fun v wr => ∃ i : Nat, v = .int .i64 (i : Int) ∧ i ≤ n ∧ (∀ j, j < i → co xs j ≠ x) ∧ Below w.heap.size w wr) (fun v _ => n - (intOf v).toNat)
  case atStart => exact ⟨0, rfl, Nat.zero_le _, fun j hj => by omega, Below.refl _ _⟩
  case round =>
    obtain ⟨i, rfl, hi, hno, hb⟩ := hrel
    have HB := Lib.hid hb
    by_cases hgo : i < n
    · obtain ⟨ad, rfl, d0⟩ := HI.out.at_ hb hgo
      have HS := Lib.hid (show co xs i ≠ x → ∀ j, j < i + 1 → co xs j ≠ x from all_succ hno)
      have HY := Lib.hid (show co xs i = x → x ∈ xs from fun h => HM.out.2 ⟨i, hgo, h⟩)
      obtain ⟨y, hy⟩ : ∃ y, y = co xs i := ⟨_, rfl⟩
      rw [← hy] at d0 HS HY
      clear hb hno hy
      by_cases he : x = y
      · have hm := Lib.hid (HY.out he.symm)
        have e1 : (x == y) = true := by simp [he]
        clear he
        go_wp2_with fail
        go_ret
        exact ⟨⟨(i : Int), rfl, fun _ => hm.out, fun _ => by omega⟩, HB.out⟩
      · have hm := Lib.hid (HS.out (fun h => he h.symm))
        have e1 : (x == y) = false := by simp [he]
        clear he
        go_wp2_with fail
        exact ⟨⟨i + 1, by simp, by omega, hm.out, HB.out⟩, by simp [intOf]; omega⟩
    · obtain rfl : i = n := by omega
      have hm := Lib.hid (show ¬ x ∈ xs from fun h => by obtain ⟨j, hj, h2⟩ := HM.out.1 h; exact hno j hj h2)
      clear hb hno
      go_wp2_with fail
      go_ret
      exact ⟨⟨-1, rfl, fun h => absurd h (by decide), fun h => absurd h hm.out⟩, HB.out⟩
set_option maxHeartbeats 4000000 in
theorem contains_any (A : Option Addr) (n c : Nat) (xs : List Int) (x : Int) (w : World) (h : Il .i64 w A n xs) (hn : n ≤ 100000) :
    Calls Try.prog 69 #[.slice A n c, .int .i64 x] w fun e w' => e = .returned (.bool (decide (x ∈ xs))) ∧ Below w.heap.size w w' := by
  have CI := Lib.hid (index_any A n c xs x w h hn)
  clear h
  go_enter Try.func69, Try.ntmps69
  go_wp2_with (go_at_call 84; (with_reducible refine CI.out.mono ?_); rintro e w1 ⟨⟨r, rfl, hr⟩, hb⟩; have HB := Lib.hid hb; have HR := Lib.hid hr; clear hb hr)
  go_ret
  exact ⟨by rw [← decide_eq_decide.2 HR.out]; rfl, HB.out⟩
/-- Too many contours, or points. -/
def roE (LL : List (List Pt)) : Int := if 256 < LL.length ∨ 4096 < tots LL then 6 else 0
set_option maxHeartbeats 4000000 in
set_option maxRecDepth 100000 in
theorem room_any (A : Option Addr) (m c : Nat) (LL : List (List Pt)) (w : World) (hP : Ctl w A m LL) (hm : m ≤ 1000) (hl : ∀ i, i < m → (ct LL i).length ≤ 100000) :
    Calls Try.prog 35 #[.slice A m c] w fun e w' => e = .returned (.int .i64 (roE LL)) ∧ Below w.heap.size w w' := by
  have hlen := hP.len
  have HI := Lib.hid hP
  have HL := Lib.hid hl
  have HR := Lib.hid (show roE LL = if 256 < m ∨ 4096 < tot LL m then 6 else 0 from by unfold roE tots; rw [hlen])
  clear hP hl hlen
  go_enter Try.func35, Try.ntmps35
  go_wp2_with fail
  go_loopw [3, 8] (fun v i wr => ∃ k : Nat, i = .int .i64 (k : Int) ∧ k ≤ m ∧ v = .int .i64 (tot LL k : Int) ∧ tot LL k ≤ k * 100000 ∧ Below w.heap.size w wr) (fun _ i _ => m - (intOf i).toNat)
  case atStart => exact ⟨0, rfl, Nat.zero_le _, rfl, by simp [tot], Below.refl _ _⟩
  case round =>
    obtain ⟨k, rfl, hk, rfl, ht, hb⟩ := hrel
    by_cases hgo : k < m
    · obtain ⟨ad, B, c1, rfl, d0, _⟩ := HI.out.at_ hb hgo
      have HB := Lib.hid hb
      have hn := HL.out k hgo
      have HT := Lib.hid (show tot LL (k + 1) = tot LL k + (ct LL k).length from rfl)
      obtain ⟨n, hn1⟩ : ∃ n, n = (ct LL k).length := ⟨_, rfl⟩
      rw [← hn1] at d0 hn HT
      obtain ⟨t, ht1⟩ : ∃ t, t = tot LL k := ⟨_, rfl⟩
      rw [← ht1] at ht HT ⊢
      clear hb hn1 ht1
      go_wp2_with fail
      exact ⟨⟨k + 1, by simp, by omega, by rw [HT.out]; simp, by rw [HT.out]; omega, HB.out⟩, by simp [intOf]; omega⟩
    · obtain rfl : k = m := by omega
      have HB := Lib.hid hb
      obtain ⟨t, ht1⟩ : ∃ t, t = tot LL k := ⟨_, rfl⟩
      rw [← ht1] at ht HR ⊢
      clear hb ht1
      by_cases c1 : 256 < k
      · have e1 : decide (256 < (k : Int)) = true := decide_eq_true (by omega)
        rw [if_pos (.inl c1)] at HR
        clear ht
        go_wp2_with fail
        go_ret
        exact ⟨by rw [HR.out]; rfl, HB.out⟩
      · have e1 : decide (256 < (k : Int)) = false := decide_eq_false (by omega)
        by_cases c2 : 4096 < t
        · have e2 : decide (4096 < (t : Int)) = true := decide_eq_true (by omega)
          rw [if_pos (.inr c2)] at HR
          clear ht
          go_wp2_with fail
          go_ret
          exact ⟨by rw [HR.out]; rfl, HB.out⟩
        · have e2 : decide (4096 < (t : Int)) = false := decide_eq_false (by omega)
          rw [if_neg (fun h => h.elim c1 c2)] at HR
          clear ht
          go_wp2_with fail
          go_ret
          exact ⟨by rw [HR.out]; rfl, HB.out⟩
end Go.Proofs.Ytlfnagfcggmeaaa
namespace Go.Proofs.Ytlfnagfcggmeaaa
open Go.RowKit

/-- Contours, each in a row of its own. -/
structure Dc (W : World) (base : Nat) (A : Option Addr) (k c : Nat) (C : Nat → List Pt) (cs : List Value) (bs : Nat → Nat) : Prop where
  own : W.ownsRow base 47 1 (.slice A k c) k cs
  row : ∀ i, i < k → ∃ c', cs[i]? = some (.slice (some ⟨bs i, 0, none⟩) (C i).length c') ∧ W.ownsRow base 46 3 (.slice (some ⟨bs i, 0, none⟩) (C i).length c') (C i).length (ptC (C i))
  ord : ∀ i j, i < j → j < k → bs i < bs j
theorem own_keep {W W' : World} {base e size n : Nat} {v : Value} {xs : List Value} (h : W.ownsRow base e size v n xs) (hk : ∀ g cs fr, base ≤ g → W.heap[g]? = some (.cells cs e fr) → W'.heap[g]? = W.heap[g]?) : W'.ownsRow base e size v n xs := by
  refine ⟨h.1, ?_⟩
  rcases h.2 with h0 | ⟨j, cap, cur, hv, hj, hh, rest⟩
  · exact .inl h0
  · exact .inr ⟨j, cap, cur, hv, hj, (hk _ _ _ hj hh).trans hh, rest⟩
theorem own_lt {W : World} {base e size n c b : Nat} {xs : List Value} (h : W.ownsRow base e size (.slice (some ⟨b, 0, none⟩) n c) n xs) : base ≤ b ∧ b < W.heap.size := h.lt b rfl
section
variable {W W' : World} {base : Nat} {A : Option Addr} {k c : Nat} {C : Nat → List Pt} {cs : List Value} {bs : Nat → Nat}
theorem Dc.nil (W : World) (base : Nat) (C : Nat → List Pt) (bs : Nat → Nat) : Dc W base none 0 0 C [] bs := ⟨World.ownsRow_nil _ _ _ _, fun i hi => by omega, fun i j h1 h2 => by omega⟩
theorem Dc.keep (h : Dc W base A k c C cs bs) (hk : ∀ g cs' T fr, base ≤ g → W.heap[g]? = some (.cells cs' T fr) → T = 46 ∨ T = 47 → W'.heap[g]? = W.heap[g]?) : Dc W' base A k c C cs bs :=
  ⟨own_keep h.own fun g cs' fr h1 h2 => hk g cs' 47 fr h1 h2 (.inr rfl), fun i hi => by
    obtain ⟨c', h1, h2⟩ := h.row i hi
    exact ⟨c', h1, own_keep h2 fun g cs' fr h1 h2 => hk g cs' 46 fr h1 h2 (.inl rfl)⟩, h.ord⟩
theorem Dc.bel (h : Dc W base A k c C cs bs) (hb : Below W.heap.size W W') : Dc W' base A k c C cs bs := h.keep fun g _cs' _T _fr _ h2 _ => hb.block g (heap_lt h2)
theorem Dc.rebase (h : Dc W base A k c C cs bs) {b : Nat} (hb : b ≤ base) : Dc W b A k c C cs bs := ⟨own_base h.own hb, fun i hi => by
  obtain ⟨c', h1, h2⟩ := h.row i hi
  exact ⟨c', h1, own_base h2 hb⟩, h.ord⟩
theorem Dc.lt (h : Dc W base A k c C cs bs) {i : Nat} (hi : i < k) : base ≤ bs i ∧ bs i < W.heap.size := by
  obtain ⟨c', h1, h2⟩ := h.row i hi
  exact own_lt h2
theorem Dc.len (h : Dc W base A k c C cs bs) : cs.length = k := by have := h.own.1; omega
theorem Dc.eqv (h : Dc W base A k c C cs bs) {C2 : Nat → List Pt} (he : ∀ i, i < k → C2 i = C i) : Dc W base A k c C2 cs bs := ⟨h.own, fun i hi => by rw [he i hi]; exact h.row i hi, h.ord⟩
theorem Dc.fo (h : Dc W base A k c C cs bs) : Fo W k C cs := ⟨h.len, fun i hi => by
  obtain ⟨c', h1, h2⟩ := h.row i hi
  exact ⟨_, c', h1, own_ptl h2 rfl, own_t39 h2⟩⟩
theorem Dc.ctl {LL : List (List Pt)} (h : Dc W base A k c (ct LL) cs bs) (hl : LL.length = k) : Ctl W A k LL := CtO.ctl ⟨hl, base, cs, h.own, h.fo⟩
theorem Dc.push (h : Dc W base A k c C cs bs) {b n c' : Nat} (hn : n = (C k).length) (hr : W.ownsRow base 46 3 (.slice (some ⟨b, 0, none⟩) n c') n (ptC (C k))) (hb : ∀ i, i < k → bs i < b) {A' : Option Addr} {c2 : Nat}
    (ho : W'.ownsRow base 47 1 (.slice A' (k + 1) c2) (k + 1) (cs ++ [.slice (some ⟨b, 0, none⟩) n c'])) (hg : W.grownBy W' (Value.slice A k c).ownBlock) : Dc W' base A' (k + 1) c2 C (cs ++ [.slice (some ⟨b, 0, none⟩) n c']) (fun i => if i < k then bs i else b) := by
  subst hn
  have hk : ∀ g cs' fr, base ≤ g → W.heap[g]? = some (.cells cs' 46 fr) → W'.heap[g]? = W.heap[g]? := fun g cs' fr _ h2 => hg.block g (heap_lt h2) (own_not h.own h2 (by decide))
  have hl := h.len
  refine ⟨ho, fun i hi => ?_, fun i j h1 h2 => ?_⟩
  · by_cases hik : i < k
    · rw [if_pos hik]
      obtain ⟨c3, h1, h2⟩ := h.row i hik
      exact ⟨c3, by rw [List.getElem?_append_left (by omega)]; exact h1, own_keep h2 hk⟩
    · obtain rfl : i = k := by omega
      rw [if_neg hik]
      exact ⟨c', by rw [List.getElem?_append_right (by omega), hl, Nat.sub_self]; rfl, own_keep hr hk⟩
  · show (if i < k then bs i else b) < (if j < k then bs j else b)
    by_cases hj : j < k
    · rw [if_pos hj, if_pos (by omega)]; exact h.ord i j h1 hj
    · rw [if_neg hj, if_pos (by omega)]; exact hb i (by omega)
theorem Dc.app (h : Dc W base A k c C cs bs) {base2 : Nat} {A2 : Option Addr} {k2 c2 : Nat} {C2 : Nat → List Pt} {cs2 : List Value} {bs2 : Nat → Nat} (h' : Dc W base2 A2 k2 c2 C2 cs2 bs2) (hbb : base ≤ base2) (hb : ∀ i, i < k → bs i < base2) {A' : Option Addr} {c3 : Nat}
    (ho : W'.ownsRow base 47 1 (.slice A' (k + k2) c3) (k + k2) (cs ++ cs2)) (hg : W.grownBy W' (Value.slice A k c).ownBlock) : Dc W' base A' (k + k2) c3 (fun i => if i < k then C i else C2 (i - k)) (cs ++ cs2) (fun i => if i < k then bs i else bs2 (i - k)) := by
  have hk : ∀ g cs' fr, base ≤ g → W.heap[g]? = some (.cells cs' 46 fr) → W'.heap[g]? = W.heap[g]? := fun g cs' fr _ h2 => hg.block g (heap_lt h2) (own_not h.own h2 (by decide))
  have hl := h.len
  refine ⟨ho, fun i hi => ?_, fun i j h1 h2 => ?_⟩
  · by_cases hik : i < k
    · rw [if_pos hik]
      show ∃ c', _ ∧ W'.ownsRow base 46 3 (.slice _ (if i < k then C i else C2 (i - k)).length c') _ (ptC (if i < k then C i else C2 (i - k)))
      rw [if_pos hik]
      obtain ⟨c3, h1, h2⟩ := h.row i hik
      exact ⟨c3, by rw [List.getElem?_append_left (by omega)]; exact h1, own_keep h2 hk⟩
    · rw [if_neg hik]
      show ∃ c', _ ∧ W'.ownsRow base 46 3 (.slice _ (if i < k then C i else C2 (i - k)).length c') _ (ptC (if i < k then C i else C2 (i - k)))
      rw [if_neg hik]
      obtain ⟨c3, h1, h2⟩ := h'.row (i - k) (by omega)
      exact ⟨c3, by rw [List.getElem?_append_right (by omega), hl]; exact h1, own_keep (own_base h2 hbb) hk⟩
  · show (if i < k then bs i else bs2 (i - k)) < (if j < k then bs j else bs2 (j - k))
    by_cases hj : j < k
    · rw [if_pos hj, if_pos (by omega)]; exact h.ord i j h1 hj
    · rw [if_neg hj]
      by_cases hi : i < k
      · rw [if_pos hi]; have := hb i hi; have := (h'.lt (i := j - k) (by omega)).1; omega
      · rw [if_neg hi]; exact h'.ord _ _ (by omega) (by omega)
end
theorem ptl_cells {w : World} {a : Addr} {n : Nat} {L : List Pt} (h : Ptl w (some a) n L) : ∀ j u, (ptC L)[j]? = some u → w.cell? (a.add j) = some u := by
  intro j u hu
  have hl := h.len
  have hj : j < n * 3 := by
    rcases Nat.lt_or_ge j (ptC L).length with h1 | h1
    · rw [ptC_len, hl] at h1; exact h1
    · rw [List.getElem?_eq_none h1] at hu; cases hu
  obtain ⟨q, hq⟩ : ∃ q, j = q * 3 ∨ j = q * 3 + 1 ∨ j = q * 3 + 2 := ⟨j / 3, by omega⟩
  obtain ⟨ad, h1, _, g0, g1, g2⟩ := h.get q (by omega)
  injection h1 with h1
  subst h1
  obtain ⟨q0, q1, q2⟩ := ptC_get L q (by omega)
  rcases hq with e | e | e
  · subst e; rw [q0] at hu; injection hu with hu; rw [← hu]; exact g0
  · subst e; rw [q1] at hu; injection hu with hu; rw [← hu]; exact g1
  · subst e; rw [q2] at hu; injection hu with hu; rw [← hu]; exact g2
theorem ptC_onec (L : List Pt) : ∀ u ∈ ptC L, u.oneCell' = true := by
  intro u hu
  simp only [ptC, List.mem_flatMap] at hu
  obtain ⟨e, _, h⟩ := hu
  simp at h
  rcases h with rfl | rfl | rfl <;> rfl
theorem own_some {W : World} {base e size n c : Nat} {A : Option Addr} {xs : List Value} (h : W.ownsRow base e size (.slice A n c) n xs) (hn : 0 < n) : ∃ b, A = some ⟨b, 0, none⟩ := by
  rcases h.2 with ⟨h1, h2⟩ | ⟨g, cap, cur, h1, _⟩
  · omega
  · injection h1 with h1; exact ⟨g, h1⟩
set_option maxHeartbeats 4000000 in
set_option maxRecDepth 100000 in
theorem clone_any (A : Option Addr) (n c : Nat) (L : List Pt) (w : World) (hP : Ptl w A n L) (h1 : 1 ≤ n) (hn : n ≤ 100000) :
    Calls Try.prog 51 #[.slice A n c] w fun e w' => ∃ b c', e = .returned (.slice (some ⟨b, 0, none⟩) n c') ∧ w'.ownsRow w.heap.size 46 3 (.slice (some ⟨b, 0, none⟩) n c') n (ptC L) ∧ Below w.heap.size w w' := by
  obtain ⟨ad, rfl, _⟩ := hP.get 0 (by omega)
  have hnil : ∀ W, (binOp .eql 47 (.slice (some ad) n c) (.slice none 0 0)).run Try.prog W = .ok (.bool false) W := fun W => Lib.run_eql_slice_nil W 47 46 (some ad) n c 0 0 Try.underlying47
  obtain ⟨i0, hi0, hz0, hz1, hz2⟩ := info_parts Try.info46
  have H46 := Lib.hid (And.intro hi0 (And.intro hz0 (And.intro hz1 hz2)))
  have hA : Below w.heap.size w (w.alloc (.cells #[] 46)) := (Below.refl _ _).alloc (Nat.le_refl _) _
  have HOl := Lib.hid (show (w.alloc (.cells #[] 46)).ownsRow w.heap.size 46 3 (.slice (some ⟨w.heap.size, 0, none⟩) 0 0) 0 [] from World.ownsRow_lit w #[] 0 (Nat.le_refl _) (by unfold maxLen; omega) rfl)
  have HA := Lib.hid hA
  have HC := Lib.hid (ptl_cells (hP.bel hA))
  have HLn := Lib.hid (show (ptC L).length = n * 3 from by rw [ptC_len, hP.len])
  clear hP hi0 hz0 hz1 hz2 hA
  go_enter Try.func51, Try.ntmps51
  go_wp2_with (at_builtin; go_must (refine wpList_append_own _ rfl (.tmp 5) (.tmp 6) 47 rfl w.heap.size 46 i0 _ 3 24 Try.underlying47 H46.out.1 H46.out.2.1 H46.out.2.2.1 H46.out.2.2.2 rfl (by decide) (.slice (some ⟨w.heap.size, 0, none⟩) 0 0) 0 [] rfl HOl.out ad n c (ptC L) rfl HLn.out HC.out (ptC_onec L) (by unfold maxLen; omega) (by omega) HA.out.size ?_); intro v' w7 hown' hg' _; simp only [Nat.zero_add, List.nil_append] at hown'; obtain ⟨A7, c7, rfl⟩ := own_form hown'; have HB7 := Lib.hid (below_grown HA.out HOl.out hg'); have HO7 := Lib.hid hown'; clear hown' hg')
  go_ret
  obtain ⟨b, rfl⟩ := own_some HO7.out (by omega)
  exact ⟨b, c7, rfl, HO7.out, HB7.out⟩
set_option maxHeartbeats 4000000 in
set_option maxRecDepth 100000 in
theorem copied_any (A : Option Addr) (m c : Nat) (LL : List (List Pt)) (w : World) (hP : Ctl w A m LL) (hm : m ≤ 1000) (hl : ∀ i, i < m → 1 ≤ (ct LL i).length ∧ (ct LL i).length ≤ 5000) :
    Calls Try.prog 31 #[.slice A m c] w fun e w' => ∃ A' c' cs bs, e = .returned (.slice A' m c') ∧ Dc w' w.heap.size A' m c' (ct LL) cs bs ∧ Below w.heap.size w w' := by
  have HI := Lib.hid hP
  have HL := Lib.hid hl
  obtain ⟨i0, hi0, hz0, hz1, hz2⟩ := info_parts Try.info47
  have H47 := Lib.hid (And.intro hi0 (And.intro hz0 (And.intro hz1 hz2)))
  clear hP hl hi0 hz0 hz1 hz2
  go_enter Try.func31, Try.ntmps31
  go_wp2_with fail
  go_loopw [3, 8] (fun v i wr => ∃ (k : Nat) (A' : Option Addr) (c' : Nat) (cs : List Value) (bs : Nat → Nat), i = .int .i64 (k : Int) ∧ k ≤ m ∧ v = .slice A' k c' ∧ Dc wr w.heap.size A' k c' (ct LL) cs bs ∧ Below w.heap.size w wr) (fun _ i _ => m - (intOf i).toNat)
  case atStart => exact ⟨0, none, 0, [], fun _ => 0, rfl, Nat.zero_le _, rfl, Dc.nil _ _ _ _, Below.refl _ _⟩
  case round =>
    obtain ⟨k, A', c', cs, bs, rfl, hk, rfl, hD, hb⟩ := hrel
    have HB := Lib.hid hb
    have HD := Lib.hid hD
    by_cases hgo : k < m
    · obtain ⟨ad, B, c1, hA, dd, hpt⟩ := HI.out.at_ hb hgo
      subst hA
      obtain ⟨n1, n5⟩ := HL.out k hgo
      obtain ⟨n, hn⟩ : ∃ n, n = (ct LL k).length := ⟨_, rfl⟩
      rw [← hn] at dd hpt n1 n5
      have HN := Lib.hid hn
      have CC := Lib.hid (clone_any B n c1 (ct LL k) wr hpt n1 (by omega))
      clear hD hb hpt hn n1 n5
      go_upto_region 5 with fail
      go_upto_region 6 with (first
        | (go_at_call 51; (with_reducible refine CC.out.mono ?_); rintro e w5 ⟨b, c5, rfl, ho5, hb5⟩; have HO5 := Lib.hid (own_bel ho5 ((Below.refl w5.heap.size w5).alloc (Nat.le_refl _) (.cells #[.slice (some ⟨b, 0, none⟩) n c5] 47))); have HB5 := Lib.hid hb5; have HD5 := Lib.hid ((HD.out.bel hb5).bel ((Below.refl w5.heap.size w5).alloc (Nat.le_refl _) (.cells #[.slice (some ⟨b, 0, none⟩) n c5] 47))); have HB6 := Lib.hid ((HB.out.trans (hb5.mono HB.out.size)).trans (((Below.refl w5.heap.size w5).alloc (Nat.le_refl _) (.cells #[.slice (some ⟨b, 0, none⟩) n c5] 47)).mono (Nat.le_trans HB.out.size hb5.size))); have HL5 := Lib.hid (own_lt ho5).1; clear ho5 hb5)
        | (at_builtin; go_must (refine wpList_append_own _ rfl (.tmp 12) (.tmp 15) 25 rfl w.heap.size 47 i0 _ 1 24 Try.underlying25 H47.out.1 H47.out.2.1 H47.out.2.2.1 H47.out.2.2.2 rfl (by decide) (.slice A' k c') k cs rfl HD5.out.own ⟨w5.heap.size, 0, none⟩ 1 1 [.slice (some ⟨b, 0, none⟩) n c5] rfl rfl (cells_new _ _ _) (by intro u hu; simp at hu; subst hu; rfl) (by unfold maxLen; omega) (by omega) HB6.out.size ?_); intro v' w7 hown' hg' _; obtain ⟨A7, c7, rfl⟩ := own_form hown'; have HB7 := Lib.hid (below_grown HB6.out HD5.out.own hg'); have HD7 := Lib.hid (HD5.out.push HN.out (own_base HO5.out HB.out.size) (fun i hi => Nat.lt_of_lt_of_le (HD.out.lt hi).2 HL5.out) hown' hg'); clear hown' hg'))
      go_wp2_with fail
      exact ⟨⟨k + 1, A7, c7, _, _, by simp, by omega, rfl, HD7.out, HB7.out⟩, by simp [intOf]; omega⟩
    · obtain rfl : k = m := by omega
      clear hD hb
      go_wp2_with fail
      go_ret
      exact ⟨A', c', cs, bs, rfl, HD.out, HB.out⟩
end Go.Proofs.Ytlfnagfcggmeaaa
namespace Go.Proofs.Ytlfnagfcggmeaaa
open Go.RowKit

/-- What stays while points above a base are turned: blocks below the base, and blocks of other types. -/
structure F46 (base : Nat) (W W' : World) : Prop where
  os : W'.os = W.os
  tape : W'.tape = W.tape
  output : W'.output = W.output
  size : W.heap.size ≤ W'.heap.size
  block : ∀ g, g < W.heap.size → (g < base ∨ ∀ cs fr, W.heap[g]? ≠ some (.cells cs 46 fr)) → W'.heap[g]? = W.heap[g]?
theorem F46.of {base : Nat} {W W' : World} (h : Below W.heap.size W W') : F46 base W W' := ⟨h.os, h.tape, h.output, h.size, fun g hg _ => h.block g hg⟩
theorem F46.step {base b : Nat} {W W1 W2 : World} (h : F46 base W W1) (ho : Onl b W1 W2) (hb : base ≤ b) {cs : Array Value} {fr : Nat × Nat} (ht : W1.heap[b]? = some (.cells cs 46 fr)) : F46 base W W2 :=
  ⟨ho.os.trans h.os, ho.tape.trans h.tape, ho.output.trans h.output, Nat.le_trans h.size ho.size, fun g hg hc => by
    have h1 := h.block g hg hc
    refine (ho.block g (Nat.lt_of_lt_of_le hg h.size) fun e => ?_).trans h1
    subst e
    rcases hc with hc | hc
    · omega
    · rw [h1] at ht; exact hc _ _ ht⟩
theorem ptC_set (q q' : Pt) (R : List Pt) : ∀ M : List Pt, (((ptC (M ++ q :: R)).set (M.length * 3) (.int .i64 q'.1)).set (M.length * 3 + 1) (.int .i64 q'.2.1)).set (M.length * 3 + 2) (.bool q'.2.2) = ptC (M ++ q' :: R)
  | [] => rfl
  | m :: M => by
    have ih := ptC_set q q' R M
    have e : ∀ x, ptC (m :: M ++ x :: R) = .int .i64 m.1 :: .int .i64 m.2.1 :: .bool m.2.2 :: ptC (M ++ x :: R) := fun x => rfl
    rw [e, e, ← ih, List.length_cons, show (M.length + 1) * 3 = M.length * 3 + 1 + 1 + 1 by omega]
    rfl
theorem Dc.turn {W W' : World} {base : Nat} {A : Option Addr} {k c : Nat} {C C' : Nat → List Pt} {cs : List Value} {bs : Nat → Nat} (h : Dc W base A k c C cs bs) {i : Nat} (hi : i < k) (ho : Onl (bs i) W W') (hC : ∀ j, j ≠ i → C' j = C j) {n c' : Nat} (hn : (C i).length = n) (hn' : (C' i).length = n)
    (h1 : cs[i]? = some (.slice (some ⟨bs i, 0, none⟩) n c')) (hr : W'.ownsRow base 46 3 (.slice (some ⟨bs i, 0, none⟩) n c') n (ptC (C' i))) : Dc W' base A k c C' cs bs := by
  obtain ⟨c0, g0, g1⟩ := h.row i hi
  obtain ⟨cur, hcur⟩ : ∃ cur, W.heap[bs i]? = some (.cells cur 46 (0, 0)) := by
    rcases g1.2 with ⟨h1, _⟩ | ⟨j, cap, cur, h1, _, h3, _⟩
    · cases h1
    · injection h1 with h1; injection h1 with h1; injection h1 with h1; rw [h1]; exact ⟨cur, h3⟩
  refine ⟨own_keep h.own fun g cs' fr _ h2 => ho.block g (heap_lt h2) fun e => ?_, fun j hj => ?_, h.ord⟩
  · subst e; rw [hcur] at h2; injection h2 with h2; injection h2 with _ h2; exact absurd h2 (by decide)
  · by_cases hij : j = i
    · subst hij
      rw [hn']
      exact ⟨c', h1, hr⟩
    · rw [hC j hij]
      obtain ⟨c3, q1, q2⟩ := h.row j hj
      refine ⟨c3, q1, ?_⟩
      refine ⟨q2.1, ?_⟩
      rcases q2.2 with h0 | ⟨j2, cap, cur2, hv, hj2, hh, rest⟩
      · exact .inl h0
      · refine .inr ⟨j2, cap, cur2, hv, hj2, (ho.block j2 (heap_lt hh) ?_).trans hh, rest⟩
        injection hv with hv
        injection hv with hv
        injection hv with hv
        rw [← hv]
        rcases Nat.lt_trichotomy i j with h5 | h5 | h5
        · have := h.ord i j h5 hj; omega
        · exact absurd h5.symm hij
        · have := h.ord j i h5 hi; omega
/-- May the points be? -/
def OkPt (LL : List (List Pt)) : Prop := ∀ i, i < LL.length → ∀ j, j < (ct LL i).length → okU (px (ct LL i) j) ∧ okU (py (ct LL i) j)
theorem mvA_two {p : C.Prt} {x y : Int} (hp : C.okP p 1024) (hx : C.okU x) (hy : C.okU y) : (C.mvA p x y).2.2 = 0 ∨ (C.mvA p x y).2.2 = 2 := by
  unfold C.mvA
  rw [if_neg (fun h => h ⟨hp, hx, hy⟩)]
  by_cases h : ¬ (C.okU (C.mvR p x y).1 ∧ C.okU (C.mvR p x y).2)
  · rw [if_pos h]; exact .inr rfl
  · rw [if_neg h]; exact .inl rfl
theorem mvA_ok {p : C.Prt} {x y : Int} (h : (C.mvA p x y).2.2 = 0) : C.okU (C.mvA p x y).1 ∧ C.okU (C.mvA p x y).2.1 := by
  unfold C.mvA at h ⊢
  by_cases c1 : ¬ (C.okP p 1024 ∧ C.okU x ∧ C.okU y)
  · rw [if_pos c1] at h; exact absurd h (by decide)
  rw [if_neg c1] at h ⊢
  by_cases c2 : ¬ (C.okU (C.mvR p x y).1 ∧ C.okU (C.mvR p x y).2)
  · rw [if_pos c2] at h; exact absurd h (by decide)
  rw [if_neg c2]
  exact Classical.byContradiction fun h2 => c2 h2
/-- Contours of which the first i are moved. -/
def mvC (p : C.Prt) (LL : List (List Pt)) (i j : Nat) : List Pt := if j < i then (ct LL j).map (mvPt p) else ct LL j
theorem mvC_zero (p : C.Prt) (LL : List (List Pt)) (j : Nat) : mvC p LL 0 j = ct LL j := if_neg (Nat.not_lt_zero _)
theorem mvC_next (p : C.Prt) (LL : List (List Pt)) (i j : Nat) (h : j ≠ i) : mvC p LL (i + 1) j = mvC p LL i j := by
  unfold mvC
  by_cases hj : j < i
  · rw [if_pos hj, if_pos (by omega)]
  · rw [if_neg hj, if_neg (by omega)]
theorem mvC_at (p : C.Prt) (LL : List (List Pt)) (i : Nat) : mvC p LL i i = ct LL i := if_neg (Nat.lt_irrefl _)
theorem mvC_new (p : C.Prt) (LL : List (List Pt)) (i : Nat) : mvC p LL (i + 1) i = (ct LL i).map (mvPt p) := if_pos (Nat.lt_succ_self _)
theorem mvC_all (p : C.Prt) (LL : List (List Pt)) (h : okMvC p LL) (k : Nat) (hk : LL.length = k) : ∀ j, j < k → ct (movL p LL) j = mvC p LL k j := by
  intro j hj
  unfold movL mvC
  rw [if_pos h, if_pos hj]
  simp [ct, hk, hj]
/-- A contour of which the first l points are moved. -/
def mvQ (p : C.Prt) (Q : List Pt) (l : Nat) : List Pt := (Q.take l).map (mvPt p) ++ Q.drop l
theorem mvQ_zero (p : C.Prt) (Q : List Pt) : mvQ p Q 0 = Q := by simp [mvQ]
theorem mvQ_all (p : C.Prt) (Q : List Pt) : mvQ p Q Q.length = Q.map (mvPt p) := by simp [mvQ]
theorem mvQ_len (p : C.Prt) (Q : List Pt) (l : Nat) : (mvQ p Q l).length = Q.length := by simp [mvQ]; omega
theorem mvQ_get (p : C.Prt) (Q : List Pt) (l : Nat) (h : l < Q.length) : px (mvQ p Q l) l = px Q l ∧ py (mvQ p Q l) l = py Q l ∧ po (mvQ p Q l) l = po Q l := by
  have e : (mvQ p Q l).getD l (0, 0, false) = Q.getD l (0, 0, false) := by
    unfold mvQ
    rw [List.getD_eq_getElem?_getD, List.getD_eq_getElem?_getD, List.getElem?_append_right (by simp; omega)]
    simp [Nat.min_eq_left (Nat.le_of_lt h)]
  unfold px py po
  rw [e]
  exact ⟨rfl, rfl, rfl⟩
theorem mvQ_next (p : C.Prt) (Q : List Pt) (l : Nat) (h : l < Q.length) : (((ptC (mvQ p Q l)).set (l * 3) (.int .i64 (mvPt p (pt Q l)).1)).set (l * 3 + 1) (.int .i64 (mvPt p (pt Q l)).2.1)).set (l * 3 + 2) (.bool (mvPt p (pt Q l)).2.2) = ptC (mvQ p Q (l + 1)) := by
  have e1 : mvQ p Q l = (Q.take l).map (mvPt p) ++ pt Q l :: Q.drop (l + 1) := by
    unfold mvQ
    rw [List.drop_eq_getElem_cons h]
    simp [pt, h]
  have e2 : mvQ p Q (l + 1) = (Q.take l).map (mvPt p) ++ mvPt p (pt Q l) :: Q.drop (l + 1) := by
    unfold mvQ
    rw [take_succ_map _ _ _ h, List.append_assoc]
    rfl
  have h2 := ptC_set (pt Q l) (mvPt p (pt Q l)) (Q.drop (l + 1)) ((Q.take l).map (mvPt p))
  rw [show ((Q.take l).map (mvPt p)).length = l by simp; omega] at h2
  rw [e1, e2]
  exact h2
/-- What stands in a contour's row while its points are moved. -/
structure MqS (b : Nat) (W0 W : World) (n cap : Nat) (L : List Pt) (cx : List Value) : Prop where
  on : Onl b W0 W
  rv : Rv W b 46 cx
  len : cx.length = cap * 3
  tk : cx.take (n * 3) = ptC L
section
variable {b : Nat} {W0 W W' : World} {n cap : Nat} {L L' : List Pt} {cx : List Value}
theorem MqS.bel (h : MqS b W0 W n cap L cx) (hb : Below W.heap.size W W') : MqS b W0 W' n cap L cx := ⟨h.on.trans (Onl.of hb), h.rv.bel hb, h.len, h.tk⟩
theorem MqS.put (h : MqS b W0 W n cap L cx) {l : Nat} (u0 u1 u2 : Value) (he : (((ptC L).set (l * 3) u0).set (l * 3 + 1) u1).set (l * 3 + 2) u2 = ptC L') :
    MqS b W0 (((W.setCell ⟨b, l * 3, none⟩ u0).setCell ⟨b, l * 3 + 1, none⟩ u1).setCell ⟨b, l * 3 + 2, none⟩ u2) n cap L' (((cx.set (l * 3) u0).set (l * 3 + 1) u1).set (l * 3 + 2) u2) :=
  ⟨((h.on.trans (Onl.set b _ _ _)).trans (Onl.set b _ _ _)).trans (Onl.set b _ _ _), ((h.rv.set _ _).set _ _).set _ _, by simp [h.len], by rw [List.take_set, List.take_set, List.take_set, h.tk]; exact he⟩
theorem MqS.get (h : MqS b W0 W n cap L cx) {j : Nat} {u : Value} (hu : (ptC L)[j]? = some u) : W.cell? ⟨b, j, none⟩ = some u := by
  refine h.rv.get ?_
  rw [← h.tk, List.getElem?_take] at hu
  split at hu
  · exact hu
  · cases hu
theorem MqS.own (h : MqS b W0 W n cap L cx) {base : Nat} (hb : base ≤ b) (hn : L.length = n) (hc : n ≤ cap) (hm : cap ≤ maxLen) : W.ownsRow base 46 3 (.slice (some ⟨b, 0, none⟩) n cap) n (ptC L) :=
  ⟨by rw [ptC_len, hn], .inr ⟨b, cap, cx.toArray, rfl, hb, h.rv, hc, hm, by simp [h.len], h.tk⟩⟩
end
theorem own_rv {W : World} {base n c b : Nat} {L : List Pt} (h : W.ownsRow base 46 3 (.slice (some ⟨b, 0, none⟩) n c) n (ptC L)) : base ≤ b ∧ n ≤ c ∧ c ≤ maxLen ∧ ∃ cx, MqS b W W n c L cx := by
  rcases h.2 with ⟨h1, _⟩ | ⟨j, cap, cur, h1, h2, h3, h4, h5, h6, h7⟩
  · cases h1
  · injection h1 with e1 _ e3
    injection e1 with e1
    injection e1 with e1
    subst e1 e3
    exact ⟨h2, h4, h5, cur.toList, Onl.refl _ _, h3, by rw [Array.length_toList, h6], h7⟩
end Go.Proofs.Ytlfnagfcggmeaaa
