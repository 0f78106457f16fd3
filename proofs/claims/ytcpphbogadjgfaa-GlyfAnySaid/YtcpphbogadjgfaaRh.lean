/- Proved here: a glyph's bytes (plain); what Make answers. Condition: at most 1000 contours that lie in memory, of at most 5000 points each. -/
import Derived.Test.YtcpphbogadjgfaaRg
import Derived.Test.YtcpphbogadjgfaaPc
namespace Go.Proofs.Ytcpphbogadjgfaa
open Go.RowKit

/-- What Make answers: an error, and the bytes. -/
def mkE (LL : List (List Pt)) : Int := if MayG LL then (if LL.length = 0 then 0 else tpE LL LL.length) else 1
def mkB (LL : List (List Pt)) : List UInt8 := if MayG LL ∧ LL.length ≠ 0 ∧ okSt 0 0 (preP LL LL.length) then u2 (LL.length : Int) ++ boxB LL LL.length ++ plc LL LL.length ++ u2 0 ++ tpB LL LL.length else []
theorem u2_nat (n : Nat) (h : n < 65536) : u2 (n : Int) = byt 2 n := by
  unfold u2
  rw [show ((n : Int) % 65536).toNat = n by omega]
theorem tpB_len {LL : List (List Pt)} {m : Nat} (h : tot LL m ≤ 4096) : (tpB LL m).length ≤ 30000 := by
  unfold tpB
  have q7 := encF_len (preP LL m) 0 0
  have q8 := encX_len (preP LL m) 0
  have q9 := encY_len (preP LL m) 0
  rw [preP_len] at q7 q8 q9
  split
  · simp only [List.length_append]; omega
  · simp
set_option maxHeartbeats 4000000 in
set_option maxRecDepth 100000 in
theorem make_any (A : Option Addr) (m c : Nat) (LL : List (List Pt)) (w : World) (hP : Ctl w A m LL) (hm : m ≤ 1000) (hl : ∀ i, i < m → (ct LL i).length ≤ 5000) :
    Calls Try.prog 8 #[.slice A m c] w fun e w' => e = .returned (.tuple #[.string ⟨(mkB LL).toArray⟩, .int .i64 (mkE LL)]) ∧ Below w.heap.size w w' := by
  have hlen := hP.len
  have CM := Lib.hid (may_any A m c LL w hP hm hl)
  have B0 := Lib.hid (Below.refl w.heap.size w)
  by_cases hM : MayG LL
  · rw [decide_eq_true hM] at CM
    by_cases h0 : m = 0
    · have tE : mkE LL = 0 := by unfold mkE; rw [if_pos hM, if_pos (by omega)]
      have tB : mkB LL = [] := by unfold mkB; rw [if_neg (fun h => h.2.1 (by omega))]
      rw [tE, tB]
      subst h0
      clear hP hl hM tE tB
      go_enter Try.func8, Try.ntmps8
      go_wp2_with (go_at_call 10; (with_reducible refine CM.out.mono ?_); rintro e w1 ⟨rfl, hb⟩; have B1 := Lib.hid hb; clear hb)
      go_ret2
      exact ⟨rfl, B1.out⟩
    · have e0 : ((m : Int) == 0) = false := by simp [h0]
      have hm0 : 0 < m := by omega
      have CT := Lib.hid (fun W (hb : Below w.heap.size w W) => tellPoints_any A m c LL W (hP.bel hb) hm0 hM)
      by_cases hk : okSt 0 0 (preP LL m)
      · have tE : mkE LL = 0 := by unfold mkE; rw [if_pos hM, if_neg (by omega), hlen]; unfold tpE; rw [if_pos hk]
        have tB : mkB LL = u2 (m : Int) ++ boxB LL m ++ plc LL m ++ u2 0 ++ tpB LL m := by unfold mkB; rw [hlen, if_pos ⟨hM, h0, hk⟩]
        have tP : tpE LL m = 0 := by unfold tpE; rw [if_pos hk]
        rw [tP] at CT
        rw [tE]
        have hm2 : m ≤ 256 := by have := hM.1; omega
        have hall := hM.2
        rw [hlen] at hall
        have htm : tot LL m ≤ 4096 := by
          cases m with
          | zero => exact Nat.zero_le _
          | succ k => exact (hall k (by omega)).1.2
        have h1 := (hall 0 hm0).1.1
        have CBx := Lib.hid (fun W (hb : Below w.heap.size w W) => tellBox_any A m c LL W (hP.bel hb) hm2 hm0 htm h1)
        have CPl := Lib.hid (fun W (hb : Below w.heap.size w W) => tellPlaces_any A m c LL W (hP.bel hb) hm2 htm)
        have z1 := boxB_len LL m
        have z2 := plc_len LL m
        have z3 := tpB_len htm
        obtain ⟨D1, hD1⟩ : ∃ D : ByteArray, D = ⟨(byt 2 m).toArray⟩ := ⟨_, rfl⟩
        obtain ⟨D2, hD2⟩ : ∃ D : ByteArray, D = ⟨(boxB LL m).toArray⟩ := ⟨_, rfl⟩
        obtain ⟨D3, hD3⟩ : ∃ D : ByteArray, D = ⟨(plc LL m).toArray⟩ := ⟨_, rfl⟩
        obtain ⟨D4, hD4⟩ : ∃ D : ByteArray, D = ⟨(byt 2 0).toArray⟩ := ⟨_, rfl⟩
        obtain ⟨D5, hD5⟩ : ∃ D : ByteArray, D = ⟨(tpB LL m).toArray⟩ := ⟨_, rfl⟩
        rw [← hD2] at CBx
        rw [← hD3] at CPl
        rw [← hD5] at CT
        have C1 := Lib.hid (show ∀ W, Calls Try.prog 16 #[.int .u16 (m : Int)] W fun e w' => e = .returned (.string D1) ∧ Below W.heap.size W w' from fun W => by rw [hD1]; exact p16_any m W (by omega))
        have C4 := Lib.hid (show ∀ W, Calls Try.prog 16 #[.int .u16 0] W fun e w' => e = .returned (.string D4) ∧ Below W.heap.size W w' from fun W => by rw [hD4]; exact p16_any 0 W (by omega))
        have s1 : D1.size = 2 := by rw [hD1]; show (byt 2 m).toArray.size = 2; rw [List.size_toArray, byt_len]
        have s2 : D2.size = 8 := by rw [hD2]; show (boxB LL m).toArray.size = 8; rw [List.size_toArray]; exact z1
        have s3 : D3.size = 2 * m := by rw [hD3]; show (plc LL m).toArray.size = 2 * m; rw [List.size_toArray]; exact z2
        have s4 : D4.size = 2 := by rw [hD4]; show (byt 2 0).toArray.size = 2; rw [List.size_toArray, byt_len]
        have s5 : D5.size ≤ 30000 := by rw [hD5]; show (tpB LL m).toArray.size ≤ 30000; rw [List.size_toArray]; exact z3
        have y1 : ¬ 9223372036854775807 < D1.size + D2.size := by omega
        have y2 : ¬ 9223372036854775807 < D1.size + D2.size + D3.size := by omega
        have y3 : ¬ 9223372036854775807 < D1.size + D2.size + D3.size + D4.size := by omega
        have y4 : ¬ 9223372036854775807 < D1.size + D2.size + D3.size + D4.size + D5.size := by omega
        have HR := Lib.hid (show D1 ++ D2 ++ D3 ++ D4 ++ D5 = ⟨(mkB LL).toArray⟩ by rw [hD1, hD2, hD3, hD4, hD5, app_txt, app_txt, app_txt, app_txt, tB, u2_nat m (by omega)]; rfl)
        have e1 : IntKind.u16.wrap (m : Int) = (m : Int) := wrap_u16n m (by omega)
        clear hP hl hM hk tE tB tP hall htm h1 z1 z2 z3 hD1 hD2 hD3 hD4 hD5 s1 s2 s3 s4 s5 h0
        go_enter Try.func8, Try.ntmps8
        go_wp2_with (first
          | (go_at_call 10; (with_reducible refine CM.out.mono ?_); rintro e w1 ⟨rfl, hb⟩; have B1 := Lib.hid hb; clear hb)
          | (go_at_call 15; (with_reducible refine (CT.out _ B1.out).mono ?_); rintro e w2 ⟨rfl, hb⟩; have B1 := Lib.hid (B1.out.trans (hb.mono B1.out.size)); clear hb)
          | (go_at_call 16; (with_reducible refine (C1.out _).mono ?_); rintro e w2 ⟨rfl, hb⟩; have B1 := Lib.hid (B1.out.trans (hb.mono B1.out.size)); clear hb)
          | (go_at_call 16; (with_reducible refine (C4.out _).mono ?_); rintro e w2 ⟨rfl, hb⟩; have B1 := Lib.hid (B1.out.trans (hb.mono B1.out.size)); clear hb)
          | (go_at_call 17; (with_reducible refine (CBx.out _ B1.out).mono ?_); rintro e w2 ⟨rfl, hb⟩; have B1 := Lib.hid (B1.out.trans (hb.mono B1.out.size)); clear hb)
          | (go_at_call 18; (with_reducible refine (CPl.out _ B1.out).mono ?_); rintro e w2 ⟨rfl, hb⟩; have B1 := Lib.hid (B1.out.trans (hb.mono B1.out.size)); clear hb))
        go_ret2
        exact ⟨by rw [← HR.out]; rfl, B1.out⟩
      · have tE : mkE LL = 2 := by unfold mkE; rw [if_pos hM, if_neg (by omega), hlen]; unfold tpE; rw [if_neg hk]
        have tB : mkB LL = [] := by unfold mkB; rw [if_neg (fun h => hk (by rw [← hlen]; exact h.2.2))]
        have tP : tpE LL m = 2 := by unfold tpE; rw [if_neg hk]
        rw [tP] at CT
        rw [tE, tB]
        clear hP hl hM tE tB tP h0 hk
        go_enter Try.func8, Try.ntmps8
        go_wp2_with (first
          | (go_at_call 10; (with_reducible refine CM.out.mono ?_); rintro e w1 ⟨rfl, hb⟩; have B1 := Lib.hid hb; clear hb)
          | (go_at_call 15; (with_reducible refine (CT.out _ B1.out).mono ?_); rintro e w2 ⟨rfl, hb⟩; have B1 := Lib.hid (B1.out.trans (hb.mono B1.out.size)); clear hb))
        go_ret2
        exact ⟨rfl, B1.out⟩
  · rw [decide_eq_false hM] at CM
    have tE : mkE LL = 1 := by unfold mkE; rw [if_neg hM]
    have tB : mkB LL = [] := by unfold mkB; rw [if_neg (fun h => hM h.1)]
    rw [tE, tB]
    clear hP hl hM tE tB
    go_enter Try.func8, Try.ntmps8
    go_wp2_with (go_at_call 10; (with_reducible refine CM.out.mono ?_); rintro e w1 ⟨rfl, hb⟩; have B1 := Lib.hid hb; clear hb)
    go_ret2
    exact ⟨rfl, B1.out⟩
end Go.Proofs.Ytcpphbogadjgfaa
