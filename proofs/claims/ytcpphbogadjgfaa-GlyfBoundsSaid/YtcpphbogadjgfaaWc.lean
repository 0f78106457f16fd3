/- Proved here: what the law GlyfBounds answers, over memory. Condition: a contour that lies in memory. -/
import Derived.Test.YtcpphbogadjgfaaWb
namespace Go.Proofs.Ytcpphbogadjgfaa
open Go.RowKit

/-- A contour that is taken k times. -/
def many (C : List Pt) (k : Nat) : List (List Pt) := List.replicate k C
/-- The row of it; and the point's box. -/
structure OvS (w W : World) (b : Nat) (A : Option Addr) (m c : Nat) (v : Value) (k : Nat) (x y : Int) (o : Bool) : Prop where
  bel : Below w.heap.size w W
  own : W.ownsRow w.heap.size 36 1 v k (List.replicate k (.slice A m c))
  box : Pz W b x y o
section
variable {w W W' : World} {b m c k : Nat} {A : Option Addr} {v : Value} {x y : Int} {o : Bool}
theorem OvS.next (h : OvS w W b A m c v k x y o) (hb : Below W.heap.size W W') : OvS w W' b A m c v k x y o := ⟨h.bel.trans (hb.mono h.bel.size), own_bel h.own hb, h.box.bel hb⟩
theorem OvS.push (h : OvS w W b A m c v k x y o) {v' : Value} (ho : W'.ownsRow w.heap.size 36 1 v' (k + 1) (List.replicate k (.slice A m c) ++ [.slice A m c])) (hg : W.grownBy W' v.ownBlock) : OvS w W' b A m c v' (k + 1) x y o :=
  ⟨below_grown h.bel h.own hg, by rw [List.replicate_succ']; exact ho, (hg.block b h.box.lt (own_not h.own h.box (by decide))).trans h.box⟩
end
theorem ct_many {C : List Pt} {k i : Nat} {Q : List Pt} (hi : i < k) : ct (many C k ++ [Q]) i = C := by
  unfold ct many
  rw [List.getD_eq_getElem?_getD, List.getElem?_append_left (by simpa using hi)]
  simp [hi]
theorem ct_last {C : List Pt} {k : Nat} {Q : List Pt} : ct (many C k ++ [Q]) k = Q := by
  unfold ct many
  rw [List.getD_eq_getElem?_getD, List.getElem?_append_right (by simp)]
  simp
set_option maxHeartbeats 8000000 in
set_option maxRecDepth 100000 in
theorem law_bounds (A : Option Addr) (m c n : Nat) (C : List Pt) (x y : Int) (o : Bool) (w : World) (hP : Ptl w A m C) (hn : n < 65536) :
    Calls Try.prog 5 #[.slice A m c, .int .u16 (n : Int), .agg #[.int .i64 x, .int .i64 y, .bool o]] w fun e w' => e = .returned (.bool true) ∧ Below w.heap.size w w' := by
  have hA0 : Below w.heap.size w (w.alloc (.cells #[.int .i64 x, .int .i64 y, .bool o] 39)) := (Below.refl _ _).alloc (Nat.le_refl _) _
  have CA := Lib.hid (awake_any (w.alloc (.cells #[.int .i64 x, .int .i64 y, .bool o] 39)))
  have HA0 := Lib.hid hA0
  have HZ := Lib.hid (Pz.new w x y o)
  have HP := Lib.hid hP
  have hlen := hP.len
  clear hA0 hP
  obtain ⟨b, hb⟩ : ∃ b, b = w.heap.size := ⟨_, rfl⟩
  obtain ⟨W0, hW0⟩ : ∃ W, W = w.alloc (.cells #[.int .i64 x, .int .i64 y, .bool o] 39) := ⟨_, rfl⟩
  rw [← hW0] at CA HA0 HZ
  have HZ : Hid (Pz W0 b x y o) := by rw [hb]; exact HZ
  by_cases hm : 300 < m
  · go_enter Try.func5, Try.ntmps5
    go_upto_region 1 with fail
    rw [← hW0]
    clear hW0 hb
    go_wp2_with (go_at_call 6; (with_reducible refine CA.out.mono ?_); rintro e w1 ⟨rfl, hb⟩; have B := Lib.hid (HA0.out.trans (hb.mono HA0.out.size)); clear hb)
    go_ret
    exact ⟨rfl, B.out⟩
  · by_cases hn3 : 300 < n
    · go_enter Try.func5, Try.ntmps5
      go_upto_region 1 with fail
      rw [← hW0]
      clear hW0 hb
      go_wp2_with (go_at_call 6; (with_reducible refine CA.out.mono ?_); rintro e w1 ⟨rfl, hb⟩; have B := Lib.hid (HA0.out.trans (hb.mono HA0.out.size)); clear hb)
      go_ret
      exact ⟨rfl, B.out⟩
    · have hm3 : m ≤ 300 := by omega
      have hn4 : n ≤ 300 := by omega
      obtain ⟨LL, hLL⟩ : ∃ LL, LL = many C n ++ [[(x, y, o)]] := ⟨_, rfl⟩
      have hll : LL.length = n + 1 := by rw [hLL]; simp [many]
      have hl5 : ∀ i, i < n + 1 → (ct LL i).length ≤ 5000 := fun i hi => by
        rw [hLL]
        rcases Nat.lt_or_ge i n with h | h
        · rw [ct_many h, hlen]; omega
        · rw [show i = n by omega, ct_last]; simp
      have CY := Lib.hid (fun (A : Option Addr) (c : Nat) (W : World) (h1 : Ctl W A (n + 1) LL) => may_any A (n + 1) c LL W h1 (by omega) hl5)
      have CZ := Lib.hid (fun (A : Option Addr) (c : Nat) (W : World) (h1 : Ctl W A (n + 1) LL) => rmay_any A (n + 1) c LL W h1 (by omega) hl5)
      obtain ⟨bm, hbm⟩ : ∃ b, b = decide (MayG LL) := ⟨_, rfl⟩
      rw [← hbm] at CY CZ
      have HLL := Lib.hid (And.intro hLL (And.intro hll hlen))
      obtain ⟨i36, h36a, h36b, h36c, h36d⟩ := info_parts Try.info36
      have H36 := Lib.hid (And.intro h36a (And.intro h36b (And.intro h36c h36d)))
      have HBW := Lib.hid (show b < W0.heap.size from HZ.out.lt)
      clear hLL hll hl5 hbm h36a h36b h36c h36d hlen hm hn3
      go_enter Try.func5, Try.ntmps5
      go_upto_region 1 with fail
      rw [← hW0, ← hb]
      clear hW0 hb
      go_upto_region 5 with (go_at_call 6; (with_reducible refine CA.out.mono ?_); rintro e w1 ⟨rfl, hb⟩; have B1 := Lib.hid (HA0.out.trans (hb.mono HA0.out.size)); have HZ1 := Lib.hid (HZ.out.bel hb); clear hb)
      have HS0 := Lib.hid (show OvS w1 w1 b A m c (.slice none 0 0) 0 x y o from ⟨Below.refl _ _, World.ownsRow_nil _ _ _ _, HZ1.out⟩)
      go_wp2_with fail
      go_loopw [7, 18] (fun v u wr => ∃ (k : Nat) (A' : Option Addr) (c' : Nat), u = .int .u16 (k : Int) ∧ k ≤ n ∧ v = .slice A' k c' ∧ OvS w1 wr b A m c (.slice A' k c') k x y o) (fun _ u _ => n - (intOf u).toNat)
      case atStart => exact ⟨0, none, 0, rfl, Nat.zero_le _, rfl, HS0.out⟩
      case round =>
        obtain ⟨k, A', c', rfl, hk, rfl, hS⟩ := hrel
        have HS1 := Lib.hid hS
        by_cases hgo : k < n
        · have HS2 := Lib.hid (hS.next ((Below.refl _ wr).alloc (Nat.le_refl _) (.cells #[.slice A m c] 36)))
          have HBs := Lib.hid HS2.out.bel.size
          clear hS
          go_wp2_with (at_builtin; go_must (refine wpList_append_own _ rfl (.tmp 20) (.tmp 22) 22 rfl w1.heap.size 36 i36 _ 1 24 Try.underlying22 H36.out.1 H36.out.2.1 H36.out.2.2.1 H36.out.2.2.2 rfl (by decide) (.slice A' k c') k (List.replicate k (.slice A m c)) rfl HS2.out.own ⟨wr.heap.size, 0, none⟩ 1 1 [.slice A m c] rfl rfl (cells_new _ _ _) (by intro u hu; simp at hu; subst hu; rfl) (by unfold maxLen; omega) (by omega) HBs.out ?_); intro v' w8 hown' hg' _; obtain ⟨A9, c9, rfl⟩ := own_form hown'; have H9 := Lib.hid (HS2.out.push hown' hg'); clear hown' hg')
          exact ⟨⟨k + 1, A9, c9, by simp, by omega, rfl, H9.out⟩, by simp [intOf]; omega⟩
        · obtain rfl : k = n := by omega
          obtain ⟨p0, p1, p2⟩ := hS.box.cells
          have HT1 := Lib.hid (hS.next ((Below.refl _ wr).alloc (Nat.le_refl _) (.cells #[.int .i64 x, .int .i64 y, .bool o] 39)))
          have HPn := Lib.hid (Pz.new wr x y o)
          have HT2 := Lib.hid (HT1.out.next ((Below.refl _ _).alloc (Nat.le_refl _) (.cells #[.slice (some ⟨wr.heap.size, 0, none⟩) 1 1] 36)))
          have HPn2 := Lib.hid (HPn.out.bel ((Below.refl _ _).alloc (Nat.le_refl _) (.cells #[.slice (some ⟨wr.heap.size, 0, none⟩) 1 1] 36)))
          have HBs := Lib.hid HT2.out.bel.size
          have HCN := Lib.hid (fun j u (hu : [Value.slice (some ⟨wr.heap.size, 0, none⟩) 1 1][j]? = some u) => cells_new (wr.alloc (.cells #[.int .i64 x, .int .i64 y, .bool o] 39)) [Value.slice (some ⟨wr.heap.size, 0, none⟩) 1 1] 36 j u hu)
          clear hS
          go_upto_region 11 with (at_builtin; go_must (refine wpList_append_own _ rfl (.tmp 25) (.tmp 28) 22 rfl w1.heap.size 36 i36 _ 1 24 Try.underlying22 H36.out.1 H36.out.2.1 H36.out.2.2.1 H36.out.2.2.2 rfl (by decide) (.slice A' k c') k (List.replicate k (.slice A m c)) rfl HT2.out.own ⟨wr.heap.size + 1, 0, none⟩ 1 1 [.slice (some ⟨wr.heap.size, 0, none⟩) 1 1] rfl rfl (by intro j u hu; have := HCN.out j u hu; simpa using this) (by intro u hu; simp at hu; subst hu; rfl) (by unfold maxLen; omega) (by omega) HBs.out ?_); intro v' w8 hown' hg' _)
          obtain ⟨A9, c9, rfl⟩ := own_form hown'
          have HB8 := Lib.hid (below_grown HT2.out.bel HT2.out.own hg')
          have HPn8 := Lib.hid (show Pz w8 wr.heap.size x y o from (hg'.block _ HPn2.out.lt (own_not HT2.out.own HPn2.out (by decide))).trans HPn2.out)
          have HB9 := Lib.hid (B1.out.trans (HB8.out.mono B1.out.size))
          have HC8 := Lib.hid (show Ctl w8 A9 (k + 1) LL from ⟨HLL.out.2.1, fun i hi => by
            obtain ⟨ad, h1, h2, h3⟩ := own_cell hown' (by omega)
            rcases Nat.lt_or_ge i k with h | h
            · have hc := h3 i (.slice A m c) (by rw [List.getElem?_append_left (by simpa using h)]; simp [h])
              refine ⟨ad, A, c, h1, h2, ?_, ?_⟩
              · rw [HLL.out.1, ct_many h, HLL.out.2.2]; exact hc
              · rw [HLL.out.1, ct_many h, HLL.out.2.2]; exact HP.out.bel HB9.out
            · obtain rfl : i = k := by omega
              have hc := h3 i (.slice (some ⟨wr.heap.size, 0, none⟩) 1 1) (by rw [List.getElem?_append_right (by simp)]; simp)
              refine ⟨ad, some ⟨wr.heap.size, 0, none⟩, 1, h1, h2, ?_, ?_⟩
              · rw [HLL.out.1, ct_last]; exact hc
              · rw [HLL.out.1, ct_last]
                obtain ⟨g0, g1, g2⟩ := HPn8.out.cells
                refine ⟨rfl, fun j hj => ?_⟩
                obtain rfl : j = 0 := by have : j < 1 := hj; omega
                refine ⟨_, rfl, HPn8.out.lt, ?_, ?_, ?_⟩
                · rw [add_at]; exact g0
                · rw [add_at]; exact g1
                · rw [add_at]; exact g2⟩)
          clear hown' hg' p0 p1 p2
          go_wp2_with (first
            | (go_at_call 10; (with_reducible refine (CY.out _ _ _ HC8.out).mono ?_); rintro e w9 ⟨rfl, hb⟩; have B2 := Lib.hid (HB9.out.trans (hb.mono HB9.out.size)); have HC9 := Lib.hid (HC8.out.bel hb); clear hb)
            | (go_at_call 11; (with_reducible refine (CZ.out _ _ _ HC9.out).mono ?_); rintro e w10 ⟨rfl, hb⟩; have B3 := Lib.hid (B2.out.trans (hb.mono B2.out.size)); clear hb))
          go_ret
          exact ⟨by simp, B3.out⟩
end Go.Proofs.Ytcpphbogadjgfaa
