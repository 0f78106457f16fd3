/- Proved here: what the reference package's Div answers and leaves in memory. Condition: numbers of 64 bits. -/
import Derived.Test.YtmhpfmhpilmfdaaDoorRk
import Derived.Test.YtmhpfmhpilmfdaaDoorWd
namespace Go.Proofs.YtmhpfmhpilmfdaaDoor
open Go.RowKit

theorem value_num (v : Value) (x l : Nat) (w : World) (hv : Num w v x l) (hl : l ≤ 1000) (hx : x < 65536 ^ 8) :
    Calls Tryd.prog 36 #[v] w fun e w' => e = .returned (.tuple #[.agg #[.int .u64 (hiW x : Int), .int .u64 (loW x : Int)], .bool true]) ∧ Below w.heap.size w w' := by
  obtain ⟨xs, h1, h2, rfl, h4⟩ := hv
  exact value_any v xs w h1 h2 (by omega) hx
theorem digits_lo (n : Nat) (w : World) (hl : n < 18446744073709551616) :
    Calls Tryd.prog 24 #[.agg #[.int .u64 0, .int .u64 (n : Int)]] w fun e w' => ∃ z, e = .returned z ∧ Num w' z n 8 ∧ Below w.heap.size w w' := by
  have := digits_num 0 n w (by decide) hl
  have e : numW 0 n = n := by simp [numW]
  rw [e] at this
  exact this
/-- A number in a box and a box for the answer. -/
def SB (w W : World) (a b : Nat) : Prop := Box W w.heap.size a b ∧ Box W (w.heap.size + 1) 0 0 ∧ Below w.heap.size w W
theorem SB.start (w : World) (a b : Nat) : SB w ((w.alloc (.cells #[.int .u64 (a : Int), .int .u64 (b : Int)] 24)).alloc (.cells #[.int .u64 0, .int .u64 0] 24)) a b :=
  ⟨(Box.new w a b).alloc _, new2 w _ 0 0, bel2 w _ _⟩
theorem SB.next {w W W' : World} {a b : Nat} (h : SB w W a b) (hb : Below W.heap.size W W') : SB w W' a b :=
  ⟨h.1.below hb h.1.lt, h.2.1.below hb h.2.1.lt, h.2.2.trans (hb.mono h.2.2.size)⟩
theorem SB.alloc {w W : World} {a b : Nat} (h : SB w W a b) (o : Obj) : SB w (W.alloc o) a b := h.next ((Below.refl _ _).alloc (Nat.le_refl _) o)
theorem box_fin {W : World} {g a b : Nat} (h : Box W g a b) (x y : Nat) : Box ((W.setCell ⟨g, 0, none⟩ (.int .u64 (x : Int))).setCell ⟨g, 1, none⟩ (.int .u64 (y : Int))).drew g x y := ((h.set0 x).set1 y).drew
theorem far2 {W : World} {g b : Nat} {i : Nat} {x y v : Value} (hne : g < b) (h : W.cell? ⟨b, i, none⟩ = some v) : ((W.setCell ⟨g, 0, none⟩ x).setCell ⟨g, 1, none⟩ y).drew.cell? ⟨b, i, none⟩ = some v := by
  show ((W.setCell ⟨g, 0, none⟩ x).setCell ⟨g, 1, none⟩ y).cell? ⟨b, i, none⟩ = some v
  rw [World.cell?_setCell_other _ _ _ _ (by simp <;> omega), World.cell?_setCell_other _ _ _ _ (by simp <;> omega)]
  exact h
theorem rdiv_post {w W : World} {hi lo x n : Nat} (hn : 0 < n) (hL : loW (x % n) = x % n) (hs : SB w W hi lo) :
    DivE x n w (.returned (.tuple #[.agg #[.int .u64 (hiW (x / n) : Int), .int .u64 (loW (x / n) : Int)], .int .u64 (loW (x % n) : Int), .int .i64 0]))
      ((W.setCell ⟨w.heap.size + 1, 0, none⟩ (.int .u64 (hiW (x / n) : Int))).setCell ⟨w.heap.size + 1, 1, none⟩ (.int .u64 (loW (x / n) : Int))).drew :=
  ⟨hiW (x / n), loW (x / n), loW (x % n), 0, rfl, .inr ⟨hn, rfl, rfl, hL, rfl⟩, ((hs.2.2.setCell (p := ⟨w.heap.size + 1, 0, none⟩) (by simp) _).setCell (p := ⟨w.heap.size + 1, 1, none⟩) (by simp) _).drew⟩
set_option maxHeartbeats 2000000 in
set_option maxRecDepth 100000 in
theorem rdiv_any (hi lo n : Nat) (w : World) (hl : lo < 18446744073709551616) (hh : hi < 18446744073709551616) (hn : n < 18446744073709551616) :
    Calls Tryd.prog 17 #[.agg #[.int .u64 (hi : Int), .int .u64 (lo : Int)], .int .u64 (n : Int)] w (DivE (numW hi lo) n w) := by
  rcases Nat.eq_zero_or_pos n with h0 | h0
  · subst h0
    clear hl hh hn
    go_enter Tryd.func17, Tryd.ntmps17
    go_wp2_with fail
    exact bodyPost_ret (ret_box3 rfl rfl rfl rfl (new2 w _ 0 0)) rfl ⟨0, 0, 0, 13, rfl, .inl ⟨rfl, rfl, rfl, rfl, rfl⟩, bel2 w _ _⟩
  · have h1 : ((n : Int) == 0) = false := by simp; omega
    have hx : numW hi lo < 65536 ^ 8 := by rw [e8]; unfold numW; omega
    have HX := Lib.hid hx
    have HX2 : Hid (numW hi lo < 2 ^ 128) := by have e : (65536 ^ 8 : Nat) = 2 ^ 128 := by decide
                                                rw [← e]; exact hx
    have HQ : Hid (numW hi lo / n < 65536 ^ 8) := Nat.lt_of_le_of_lt (Nat.div_le_self _ _) hx
    have HR : Hid (numW hi lo % n < 65536 ^ 8) := Nat.lt_of_le_of_lt (Nat.mod_le _ _) hx
    have HL : Hid (loW (numW hi lo % n) = numW hi lo % n) := Nat.mod_eq_of_lt (Nat.lt_trans (Nat.mod_lt _ h0) hn)
    have HA := Lib.hid (And.intro hl (And.intro hh hn))
    have H0 := Lib.hid h0
    have HS := Lib.hid (SB.start w hi lo)
    clear hl hh hn hx h0
    go_enter Tryd.func17, Tryd.ntmps17
    go_wp2_with (first
      | (go_at_call 24; (with_reducible refine (digits_num hi lo _ HA.out.2.1 HA.out.1).mono ?_); rintro e wa ⟨za, rfl, hna, hba⟩; have HNa := Lib.hid hna; have HSa := Lib.hid (HS.out.next hba); clear hna hba)
      | (go_at_call 24; (with_reducible refine (digits_lo n _ HA.out.2.2).mono ?_); rintro e wb ⟨zb, rfl, hnb, hbb⟩; have HNb := Lib.hid hnb; have HNab := Lib.hid (HNa.out.below hbb (Nat.le_refl _)); have HSb := Lib.hid (HSa.out.next hbb); clear hnb hbb)
      | (go_at_call 35; (with_reducible refine (divide_num za zb _ n wb HNab.out HNb.out HX2.out H0.out).mono ?_); rintro e wc ⟨zq, zr, lr, rfl, hq, hr, hlr, hbc⟩; have HNq := Lib.hid hq; have HNr := Lib.hid hr; have HSc := Lib.hid (HSb.out.next hbc); clear hq hr hbc)
      | (go_at_call 36; (with_reducible refine (value_num zq _ 8 wc HNq.out (by decide) HQ.out).mono ?_); rintro e wd ⟨rfl, hbd⟩; have HNr2 := Lib.hid (HNr.out.below hbd (Nat.le_refl _)); have HSd := Lib.hid (HSc.out.next hbd); clear hbd)
      | (go_at_call 36; (with_reducible refine (value_num zr _ lr _ (HNr2.out.below ((Below.refl _ _).alloc (Nat.le_refl _) _) (Nat.le_refl _)) (by omega) HR.out).mono ?_); rintro e we ⟨rfl, hbe⟩; have HSe := Lib.hid ((HSd.out.alloc _).next hbe); have HBq := Lib.hid ((Box.new wd (hiW (numW hi lo / n)) (loW (numW hi lo / n))).below hbe (by simp)); clear hbe))
    obtain ⟨W, hW⟩ : ∃ W, W = we.alloc (.cells #[.int .u64 (hiW (numW hi lo % n) : Int), .int .u64 (loW (numW hi lo % n) : Int)] 24) := ⟨_, rfl⟩
    rw [← hW]
    have hsw : SB w W hi lo := by rw [hW]; exact HSe.out.alloc _
    have hq : Box W wd.heap.size (hiW (numW hi lo / n)) (loW (numW hi lo / n)) := by rw [hW]; exact HBq.out.alloc _
    have hr : Box W we.heap.size (hiW (numW hi lo % n)) (loW (numW hi lo % n)) := by rw [hW]; exact Box.new we _ _
    clear hW
    have f1 := hq.c0
    have f2 := hq.c1
    have f3 := hr.c1
    have f4 := hsw.2.1.c0
    have f5 := hsw.2.1.c1
    have f6 := hsw.2.1.fr 0
    have f7 := hsw.2.1.fr 1
    have HSW := Lib.hid hsw
    clear hsw hq hr
    have l1 := HSe.out.2.1.lt
    have l2 := HSd.out.2.1.lt
    go_region_held3 (fun w' => w'.cell? ⟨wd.heap.size, 0, none⟩ = some (.int .u64 (hiW (numW hi lo / n) : Int)) ∧ w'.cell? ⟨wd.heap.size, 1, none⟩ = some (.int .u64 (loW (numW hi lo / n) : Int)) ∧ w'.cell? ⟨we.heap.size, 1, none⟩ = some (.int .u64 (loW (numW hi lo % n) : Int)))
      (first | (go_split_ands; refine ⟨?_, ?_, ?_⟩ <;> first | assumption | exact far2 (by omega) (by assumption)) | go_keep)
      (first | fail)
    all_goals
      go_wp2_with fail
      refine bodyPost_ret (v := .tuple #[.agg #[.int .u64 (hiW (numW hi lo / n) : Int), .int .u64 (loW (numW hi lo / n) : Int)], .int .u64 (loW (numW hi lo % n) : Int), .int .i64 0]) (ret_box3 rfl rfl rfl rfl (box_fin HSW.out.2.1 _ _)) rfl ?_
      exact rdiv_post H0.out HL.out HSW.out
end Go.Proofs.YtmhpfmhpilmfdaaDoor
