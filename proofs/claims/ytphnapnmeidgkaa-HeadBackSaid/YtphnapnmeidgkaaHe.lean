/- Proved here: the readers of maxp and hhea, where the table is there and long enough. Condition: a list of tables that lies in memory, of bytes of at most a million each; what is read lies in a block of its own. -/
import Derived.Test.YtphnapnmeidgkaaHd
namespace Go.Proofs.Ytphnapnmeidgkaa
open Go.RowKit

set_option maxHeartbeats 4000000 in
theorem rdMaxp_ok (A : Option Addr) (m c : Nat) (L : List (List UInt8 × List UInt8)) (g : Nat) (h : Hd) (w : World) (hT : Tl w A m L) (hm : m ≤ 1000000) (hd : ∀ i, i < m → (dt L i).length ≤ 1000000) (hX : HB w g h) (hE : fdE L tMaxp 32 = 0) :
    Calls Try.prog 21 #[.slice A m c, .pointer (some ⟨g, 0, none⟩)] w fun e w' => e = .returned (.int .i64 (maxpE (findL L tMaxp).1 : Int)) ∧ Onl g w w' ∧ ∃ k, HB w' g k ∧ (maxpE (findL L tMaxp).1 = 0 → k = h2 (findL L tMaxp).1 h) := by
  have hf := fd_any A m c L tMaxp 32 32 rfl w hT hm hd
  have hl := hT.len
  obtain ⟨q1, q2, q3⟩ := fd_zero hE
  have q4 : (findL L tMaxp).1.length ≤ 1000000 := findL_len (fun i hi => hd i (by omega))
  rw [hE, q3] at hf
  obtain ⟨d, hd0⟩ : ∃ d, d = (findL L tMaxp).1 := ⟨_, rfl⟩
  rw [← hd0] at hf q2 q4 ⊢
  obtain ⟨D, hD⟩ : ∃ D : ByteArray, D = ⟨d.toArray⟩ := ⟨_, rfl⟩
  have hz : D.size = d.length := by rw [hD]; exact List.size_toArray
  have hDl : D.data.toList = d := by rw [hD]
  rw [← hD] at hf
  have HF := Lib.hid (show Calls Try.prog 32 _ w fun e w' => e = .returned (.tuple #[.string D, .int .i64 0]) ∧ Below w.heap.size w w' from hf)
  have HX := Lib.hid hX
  have l0 : D.size ≤ 1000000000 := by omega
  have p4 := fun W => plain_any D 4 4 rfl W l0 (by omega)
  have pb := fun W => begins_any D W l0 (by omega)
  rw [hDl] at p4 pb
  unfold maxpE h2
  rw [if_neg (by omega)]
  have v1 := n2_lt d 4
  obtain ⟨x, hx⟩ : ∃ x, x = n2 d 4 := ⟨_, rfl⟩
  obtain ⟨b0, hb0⟩ : ∃ x, x = n4 d 0 := ⟨_, rfl⟩
  rw [← hx] at p4 v1 ⊢
  rw [← hb0] at pb ⊢
  have P4 := Lib.hid p4
  have PB := Lib.hid pb
  clear hT hm hd hX hE hl q1 q2 q3 q4 hd0 hD hDl hz l0 hf p4 pb v1 hx hb0
  by_cases k0 : b0 = 65536
  · rw [decide_eq_true k0] at PB
    by_cases k1 : x = 0
    · have dx : ((x : Int) == 0) = true := by simp; omega
      rw [if_neg (by omega)]
      clear k0 k1
      go_enter Try.func21, Try.ntmps21
      go_wp2_with (first
        | (go_at_call 32; (with_reducible refine HF.out.mono ?_); rintro e w1 ⟨rfl, hb⟩; have B := Lib.hid hb; have HW := Lib.hid (HX.out.bel hb); obtain ⟨c0, c1, c2, c3, c4, c5, c6⟩ := (HX.out.bel hb).cells; obtain ⟨r0, r1, r2, r3, r4, r5, r6⟩ := (HX.out.bel hb).frs; clear hb)
        | (go_at_call 33; (with_reducible refine (P4.out _).mono ?_); rintro e w' ⟨rfl, rfl⟩)
        | (go_at_call 34; (with_reducible refine (PB.out _).mono ?_); rintro e w' ⟨rfl, rfl⟩))
      go_ret
      exact ⟨rfl, (Onl.of B.out).trans (Onl.set g _ 2 _), _, HW.out.set2 _, fun h => absurd h (by decide)⟩
    · have dx : ((x : Int) == 0) = false := by simp; omega
      rw [if_pos (by omega)]
      by_cases k2 : 1024 < x
      · have dy : decide (1024 < (x : Int)) = true := decide_eq_true (by omega)
        rw [if_pos k2]
        clear k0 k1 k2
        go_enter Try.func21, Try.ntmps21
        go_wp2_with (first
          | (go_at_call 32; (with_reducible refine HF.out.mono ?_); rintro e w1 ⟨rfl, hb⟩; have B := Lib.hid hb; have HW := Lib.hid (HX.out.bel hb); obtain ⟨c0, c1, c2, c3, c4, c5, c6⟩ := (HX.out.bel hb).cells; obtain ⟨r0, r1, r2, r3, r4, r5, r6⟩ := (HX.out.bel hb).frs; clear hb)
          | (go_at_call 33; (with_reducible refine (P4.out _).mono ?_); rintro e w' ⟨rfl, rfl⟩)
          | (go_at_call 34; (with_reducible refine (PB.out _).mono ?_); rintro e w' ⟨rfl, rfl⟩))
        go_ret
        exact ⟨rfl, (Onl.of B.out).trans (Onl.set g _ 2 _), _, HW.out.set2 _, fun h => absurd h (by decide)⟩
      · have dy : decide (1024 < (x : Int)) = false := decide_eq_false (by omega)
        rw [if_neg k2]
        clear k0 k1 k2
        go_enter Try.func21, Try.ntmps21
        go_wp2_with (first
          | (go_at_call 32; (with_reducible refine HF.out.mono ?_); rintro e w1 ⟨rfl, hb⟩; have B := Lib.hid hb; have HW := Lib.hid (HX.out.bel hb); obtain ⟨c0, c1, c2, c3, c4, c5, c6⟩ := (HX.out.bel hb).cells; obtain ⟨r0, r1, r2, r3, r4, r5, r6⟩ := (HX.out.bel hb).frs; clear hb)
          | (go_at_call 33; (with_reducible refine (P4.out _).mono ?_); rintro e w' ⟨rfl, rfl⟩)
          | (go_at_call 34; (with_reducible refine (PB.out _).mono ?_); rintro e w' ⟨rfl, rfl⟩))
        go_ret
        exact ⟨rfl, (Onl.of B.out).trans (Onl.set g _ 2 _), _, HW.out.set2 _, fun _ => rfl⟩
  · rw [decide_eq_false k0] at PB
    rw [if_neg (by omega)]
    clear k0
    go_enter Try.func21, Try.ntmps21
    go_wp2_with (first
      | (go_at_call 32; (with_reducible refine HF.out.mono ?_); rintro e w1 ⟨rfl, hb⟩; have B := Lib.hid hb; have HW := Lib.hid (HX.out.bel hb); obtain ⟨c0, c1, c2, c3, c4, c5, c6⟩ := (HX.out.bel hb).cells; obtain ⟨r0, r1, r2, r3, r4, r5, r6⟩ := (HX.out.bel hb).frs; clear hb)
      | (go_at_call 33; (with_reducible refine (P4.out _).mono ?_); rintro e w' ⟨rfl, rfl⟩)
      | (go_at_call 34; (with_reducible refine (PB.out _).mono ?_); rintro e w' ⟨rfl, rfl⟩))
    go_ret
    exact ⟨rfl, (Onl.of B.out).trans (Onl.set g _ 2 _), _, HW.out.set2 _, fun h => absurd h (by decide)⟩
set_option maxHeartbeats 4000000 in
theorem rdHhea_ok (A : Option Addr) (m c : Nat) (L : List (List UInt8 × List UInt8)) (g : Nat) (h : Hd) (w : World) (hT : Tl w A m L) (hm : m ≤ 1000000) (hd : ∀ i, i < m → (dt L i).length ≤ 1000000) (hX : HB w g h) (gl : Nat) (hg : h.gl = (gl : Int)) (hE : fdE L tHhea 36 = 0) :
    Calls Try.prog 22 #[.slice A m c, .pointer (some ⟨g, 0, none⟩)] w fun e w' => e = .returned (.int .i64 (hheaE (findL L tHhea).1 gl : Int)) ∧ Onl g w w' ∧ ∃ k, HB w' g k ∧ (hheaE (findL L tHhea).1 gl = 0 → k = h3 (findL L tHhea).1 h) := by
  have hf := fd_any A m c L tHhea 36 36 rfl w hT hm hd
  have hl := hT.len
  obtain ⟨q1, q2, q3⟩ := fd_zero hE
  have q4 : (findL L tHhea).1.length ≤ 1000000 := findL_len (fun i hi => hd i (by omega))
  rw [hE, q3] at hf
  obtain ⟨d, hd0⟩ : ∃ d, d = (findL L tHhea).1 := ⟨_, rfl⟩
  rw [← hd0] at hf q2 q4 ⊢
  obtain ⟨D, hD⟩ : ∃ D : ByteArray, D = ⟨d.toArray⟩ := ⟨_, rfl⟩
  have hz : D.size = d.length := by rw [hD]; exact List.size_toArray
  have hDl : D.data.toList = d := by rw [hD]
  rw [← hD] at hf
  have HF := Lib.hid (show Calls Try.prog 32 _ w fun e w' => e = .returned (.tuple #[.string D, .int .i64 0]) ∧ Below w.heap.size w w' from hf)
  have HX := Lib.hid hX
  have l0 : D.size ≤ 1000000000 := by omega
  have p4 := fun W => turned_any D 4 4 rfl W l0 (by omega)
  have p6 := fun W => turned_any D 6 6 rfl W l0 (by omega)
  have p8 := fun W => turned_any D 8 8 rfl W l0 (by omega)
  have p34 := fun W => plain_any D 34 34 rfl W l0 (by omega)
  have p32 := fun W => plain_any D 32 32 rfl W l0 (by omega)
  have pb := fun W => begins_any D W l0 (by omega)
  rw [hDl] at p4 p6 p8 p34 p32 pb
  unfold hheaE h3
  rw [if_neg (by omega)]
  have v1 := n2_lt d 34
  have v2 := n2_lt d 32
  obtain ⟨s1, hs1⟩ : ∃ x, x = sg16 (n2 d 4) := ⟨_, rfl⟩
  obtain ⟨s2, hs2⟩ : ∃ x, x = sg16 (n2 d 6) := ⟨_, rfl⟩
  obtain ⟨s3, hs3⟩ : ∃ x, x = sg16 (n2 d 8) := ⟨_, rfl⟩
  obtain ⟨x, hx⟩ : ∃ x, x = n2 d 34 := ⟨_, rfl⟩
  obtain ⟨u, hu⟩ : ∃ x, x = n2 d 32 := ⟨_, rfl⟩
  obtain ⟨b0, hb0⟩ : ∃ x, x = n4 d 0 := ⟨_, rfl⟩
  rw [← hs1] at p4 ⊢
  rw [← hs2] at p6 ⊢
  rw [← hs3] at p8 ⊢
  rw [← hx] at p34 v1 ⊢
  rw [← hu] at p32 v2 ⊢
  rw [← hb0] at pb ⊢
  have pe := fun W => mayMet_any h.em h.lg h.gl (x : Int) s1 s2 s3 W
  rw [hg] at pe
  have P4 := Lib.hid p4
  have P6 := Lib.hid p6
  have P8 := Lib.hid p8
  have P34 := Lib.hid p34
  have P32 := Lib.hid p32
  have PB := Lib.hid pb
  have PX := Lib.hid pe
  have HG := Lib.hid hg
  clear hT hm hd hX hE hl q1 q2 q3 q4 hd0 hD hDl hz l0 hf p4 p6 p8 p34 p32 pb pe v1 v2 hx hb0 hu hs1 hs2 hs3 hg
  by_cases k0 : b0 = 65536
  · rw [decide_eq_true k0] at PB
    by_cases k1 : u = 0
    · have du : ((u : Int) != 0) = false := by simp; omega
      by_cases k2 : 1 ≤ x ∧ x ≤ gl
      · rw [decide_eq_true (show 1 ≤ (x : Int) ∧ (x : Int) ≤ (gl : Int) by omega)] at PX
        rw [if_pos (by omega)]
        clear k0 k1 k2
        go_enter Try.func22, Try.ntmps22
        go_wp2_with (first
          | (go_at_call 32; (with_reducible refine HF.out.mono ?_); rintro e w1 ⟨rfl, hb⟩; have B := Lib.hid hb; have HW := Lib.hid (HX.out.bel hb); obtain ⟨c0, c1, c2, c3, c4, c5, c6⟩ := (HX.out.bel hb).cells; obtain ⟨r0, r1, r2, r3, r4, r5, r6⟩ := (HX.out.bel hb).frs; rw [HG.out] at c2; clear hb)
          | (go_at_call 36; (with_reducible refine (P4.out _).mono ?_); rintro e w' ⟨rfl, rfl⟩)
          | (go_at_call 36; (with_reducible refine (P6.out _).mono ?_); rintro e w' ⟨rfl, rfl⟩)
          | (go_at_call 36; (with_reducible refine (P8.out _).mono ?_); rintro e w' ⟨rfl, rfl⟩)
          | (go_at_call 33; (with_reducible refine (P34.out _).mono ?_); rintro e w' ⟨rfl, rfl⟩)
          | (go_at_call 33; (with_reducible refine (P32.out _).mono ?_); rintro e w' ⟨rfl, rfl⟩)
          | (go_at_call 34; (with_reducible refine (PB.out _).mono ?_); rintro e w' ⟨rfl, rfl⟩)
          | (go_at_call 17; (with_reducible refine (PX.out _).mono ?_); rintro e w2 ⟨rfl, hb2⟩; have B2 := Lib.hid hb2; clear hb2))
        go_ret
        exact ⟨rfl, (((((Onl.of B.out).trans (Onl.set g _ 4 _)).trans (Onl.set g _ 5 _)).trans (Onl.set g _ 6 _)).trans (Onl.set g _ 3 _)).trans (Onl.of B2.out), _, ((((HW.out.set4 _).set5 _).set6 _).set3 _).bel B2.out, fun _ => rfl⟩
      · rw [decide_eq_false (show ¬ (1 ≤ (x : Int) ∧ (x : Int) ≤ (gl : Int)) by omega)] at PX
        rw [if_neg (by omega)]
        clear k0 k1 k2
        go_enter Try.func22, Try.ntmps22
        go_wp2_with (first
          | (go_at_call 32; (with_reducible refine HF.out.mono ?_); rintro e w1 ⟨rfl, hb⟩; have B := Lib.hid hb; have HW := Lib.hid (HX.out.bel hb); obtain ⟨c0, c1, c2, c3, c4, c5, c6⟩ := (HX.out.bel hb).cells; obtain ⟨r0, r1, r2, r3, r4, r5, r6⟩ := (HX.out.bel hb).frs; rw [HG.out] at c2; clear hb)
          | (go_at_call 36; (with_reducible refine (P4.out _).mono ?_); rintro e w' ⟨rfl, rfl⟩)
          | (go_at_call 36; (with_reducible refine (P6.out _).mono ?_); rintro e w' ⟨rfl, rfl⟩)
          | (go_at_call 36; (with_reducible refine (P8.out _).mono ?_); rintro e w' ⟨rfl, rfl⟩)
          | (go_at_call 33; (with_reducible refine (P34.out _).mono ?_); rintro e w' ⟨rfl, rfl⟩)
          | (go_at_call 33; (with_reducible refine (P32.out _).mono ?_); rintro e w' ⟨rfl, rfl⟩)
          | (go_at_call 34; (with_reducible refine (PB.out _).mono ?_); rintro e w' ⟨rfl, rfl⟩)
          | (go_at_call 17; (with_reducible refine (PX.out _).mono ?_); rintro e w2 ⟨rfl, hb2⟩; have B2 := Lib.hid hb2; clear hb2))
        go_ret
        exact ⟨rfl, (((((Onl.of B.out).trans (Onl.set g _ 4 _)).trans (Onl.set g _ 5 _)).trans (Onl.set g _ 6 _)).trans (Onl.set g _ 3 _)).trans (Onl.of B2.out), _, ((((HW.out.set4 _).set5 _).set6 _).set3 _).bel B2.out, fun h => absurd h (by decide)⟩
    · have du : ((u : Int) != 0) = true := by simp; omega
      rw [if_neg (by omega)]
      clear k0 k1
      go_enter Try.func22, Try.ntmps22
      go_wp2_with (first
        | (go_at_call 32; (with_reducible refine HF.out.mono ?_); rintro e w1 ⟨rfl, hb⟩; have B := Lib.hid hb; have HW := Lib.hid (HX.out.bel hb); obtain ⟨c0, c1, c2, c3, c4, c5, c6⟩ := (HX.out.bel hb).cells; obtain ⟨r0, r1, r2, r3, r4, r5, r6⟩ := (HX.out.bel hb).frs; rw [HG.out] at c2; clear hb)
        | (go_at_call 36; (with_reducible refine (P4.out _).mono ?_); rintro e w' ⟨rfl, rfl⟩)
        | (go_at_call 36; (with_reducible refine (P6.out _).mono ?_); rintro e w' ⟨rfl, rfl⟩)
        | (go_at_call 36; (with_reducible refine (P8.out _).mono ?_); rintro e w' ⟨rfl, rfl⟩)
        | (go_at_call 33; (with_reducible refine (P34.out _).mono ?_); rintro e w' ⟨rfl, rfl⟩)
        | (go_at_call 33; (with_reducible refine (P32.out _).mono ?_); rintro e w' ⟨rfl, rfl⟩)
        | (go_at_call 34; (with_reducible refine (PB.out _).mono ?_); rintro e w' ⟨rfl, rfl⟩)
        | (go_at_call 17; (with_reducible refine (PX.out _).mono ?_); rintro e w2 ⟨rfl, hb2⟩; have B2 := Lib.hid hb2; clear hb2))
      go_ret
      exact ⟨rfl, ((((Onl.of B.out).trans (Onl.set g _ 4 _)).trans (Onl.set g _ 5 _)).trans (Onl.set g _ 6 _)).trans (Onl.set g _ 3 _), _, (((HW.out.set4 _).set5 _).set6 _).set3 _, fun h => absurd h (by decide)⟩
  · rw [decide_eq_false k0] at PB
    rw [if_neg (by omega)]
    clear k0
    go_enter Try.func22, Try.ntmps22
    go_wp2_with (first
      | (go_at_call 32; (with_reducible refine HF.out.mono ?_); rintro e w1 ⟨rfl, hb⟩; have B := Lib.hid hb; have HW := Lib.hid (HX.out.bel hb); obtain ⟨c0, c1, c2, c3, c4, c5, c6⟩ := (HX.out.bel hb).cells; obtain ⟨r0, r1, r2, r3, r4, r5, r6⟩ := (HX.out.bel hb).frs; rw [HG.out] at c2; clear hb)
      | (go_at_call 36; (with_reducible refine (P4.out _).mono ?_); rintro e w' ⟨rfl, rfl⟩)
      | (go_at_call 36; (with_reducible refine (P6.out _).mono ?_); rintro e w' ⟨rfl, rfl⟩)
      | (go_at_call 36; (with_reducible refine (P8.out _).mono ?_); rintro e w' ⟨rfl, rfl⟩)
      | (go_at_call 33; (with_reducible refine (P34.out _).mono ?_); rintro e w' ⟨rfl, rfl⟩)
      | (go_at_call 33; (with_reducible refine (P32.out _).mono ?_); rintro e w' ⟨rfl, rfl⟩)
      | (go_at_call 34; (with_reducible refine (PB.out _).mono ?_); rintro e w' ⟨rfl, rfl⟩)
      | (go_at_call 17; (with_reducible refine (PX.out _).mono ?_); rintro e w2 ⟨rfl, hb2⟩; have B2 := Lib.hid hb2; clear hb2))
    go_ret
    exact ⟨rfl, ((((Onl.of B.out).trans (Onl.set g _ 4 _)).trans (Onl.set g _ 5 _)).trans (Onl.set g _ 6 _)).trans (Onl.set g _ 3 _), _, (((HW.out.set4 _).set5 _).set6 _).set3 _, fun h => absurd h (by decide)⟩
end Go.Proofs.Ytphnapnmeidgkaa
