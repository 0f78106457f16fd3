/- Proved here: the readers of maxp and hhea, where the table is there and long enough. Condition: a list of tables that lies in memory, of bytes of at most a million each; what is read lies in a block of its own · what Parse answers, in the program. Condition: a list of tables that lies in memory, of bytes of at most a million each · what the document's head, maxp and hhea answer. Condition: texts of at most a billion bytes · what the document's Signed and hhea answer. Condition: texts of at most a billion bytes. -/
import Derived.Test.YtfhaloclbbmbeaaGreatM08
namespace Go.Proofs.YtfhaloclbbmbeaaGreat
open Go.RowKit
set_option maxHeartbeats 4000000 in
theorem rdMaxp_ok (A : Option Addr) (m c : Nat) (L : List (List UInt8 × List UInt8)) (g : Nat) (h : Hd) (w : World) (hT : Tl w A m L) (hm : m ≤ 1000000) (hd : ∀ i, i < m → (dt L i).length ≤ 1000000) (hX : HB w g h) (hE : fdE L tMaxp 32 = 0) :
    Calls Tryz.prog 70 #[.slice A m c, .pointer (some ⟨g, 0, none⟩)] w fun e w' => e = .returned (.int .i64 (maxpE (findL L tMaxp).1 : Int)) ∧ Onl g w w' ∧ ∃ k, HB w' g k ∧ (maxpE (findL L tMaxp).1 = 0 → k = h2 (findL L tMaxp).1 h) := by
  have hf := fd_any A m c L tMaxp 32 32 rfl w hT hm hd
  have hl := hT.len
  obtain ⟨q1, q2, q3⟩ := fd_zero hE
  have q4 : (findL L tMaxp).1.length ≤ 1000000 := findL_len (fun i hi => hd i (by omega))
  rw [hE, q3] at hf
  obtain ⟨d, hd0⟩ : ∃ d, d = (findL L tMaxp).1 := ⟨_, rfl⟩
  rw [← hd0] at hf q2 q4 ⊢
  obtain ⟨D, hD⟩ : ∃ D : ByteArray, D = ⟨d.toArray⟩ := ⟨_, rfl⟩
  have hz : D.size = d.length := by rw [hD]; exact List.size_toArray
  have hDl : D.data.toList = d := by rw [hD]
  rw [← hD] at hf
  have HF := Lib.hid (show Calls Tryz.prog 138 _ w fun e w' => e = .returned (.tuple #[.string D, .int .i64 0]) ∧ Below w.heap.size w w' from hf)
  have HX := Lib.hid hX
  have l0 : D.size ≤ 1000000000 := by omega
  have p4 := fun W => plain_any D 4 4 rfl W l0 (by omega)
  have pb := fun W => begins_any D W l0 (by omega)
  rw [hDl] at p4 pb
  unfold maxpE h2
  rw [if_neg (by omega)]
  have v1 := n2_lt d 4
  obtain ⟨x, hx⟩ : ∃ x, x = n2 d 4 := ⟨_, rfl⟩
  obtain ⟨b0, hb0⟩ : ∃ x, x = n4 d 0 := ⟨_, rfl⟩
  rw [← hx] at p4 v1 ⊢
  rw [← hb0] at pb ⊢
  have P4 := Lib.hid p4
  have PB := Lib.hid pb
  clear hT hm hd hX hE hl q1 q2 q3 q4 hd0 hD hDl hz l0 hf p4 pb v1 hx hb0
  by_cases k0 : b0 = 65536
  · rw [decide_eq_true k0] at PB
    by_cases k1 : x = 0
    · have dx : ((x : Int) == 0) = true := by simp; omega
      rw [if_neg (by omega)]
      clear k0 k1
      go_enter Tryz.func70, Tryz.ntmps70
      go_wp2_with (first
        | (go_at_call 138; (with_reducible refine HF.out.mono ?_); rintro e w1 ⟨rfl, hb⟩; have B := Lib.hid hb; have HW := Lib.hid (HX.out.bel hb); obtain ⟨c0, c1, c2, c3, c4, c5, c6⟩ := (HX.out.bel hb).cells; obtain ⟨r0, r1, r2, r3, r4, r5, r6⟩ := (HX.out.bel hb).frs; clear hb)
        | (go_at_call 139; (with_reducible refine (P4.out _).mono ?_); rintro e w' ⟨rfl, rfl⟩)
        | (go_at_call 140; (with_reducible refine (PB.out _).mono ?_); rintro e w' ⟨rfl, rfl⟩))
      go_ret
      exact ⟨rfl, (Onl.of B.out).trans (Onl.set g _ 2 _), _, HW.out.set2 _, fun h => absurd h (by decide)⟩
    · have dx : ((x : Int) == 0) = false := by simp; omega
      rw [if_pos (by omega)]
      by_cases k2 : 1024 < x
      · have dy : decide (1024 < (x : Int)) = true := decide_eq_true (by omega)
        rw [if_pos k2]
        clear k0 k1 k2
        go_enter Tryz.func70, Tryz.ntmps70
        go_wp2_with (first
          | (go_at_call 138; (with_reducible refine HF.out.mono ?_); rintro e w1 ⟨rfl, hb⟩; have B := Lib.hid hb; have HW := Lib.hid (HX.out.bel hb); obtain ⟨c0, c1, c2, c3, c4, c5, c6⟩ := (HX.out.bel hb).cells; obtain ⟨r0, r1, r2, r3, r4, r5, r6⟩ := (HX.out.bel hb).frs; clear hb)
          | (go_at_call 139; (with_reducible refine (P4.out _).mono ?_); rintro e w' ⟨rfl, rfl⟩)
          | (go_at_call 140; (with_reducible refine (PB.out _).mono ?_); rintro e w' ⟨rfl, rfl⟩))
        go_ret
        exact ⟨rfl, (Onl.of B.out).trans (Onl.set g _ 2 _), _, HW.out.set2 _, fun h => absurd h (by decide)⟩
      · have dy : decide (1024 < (x : Int)) = false := decide_eq_false (by omega)
        rw [if_neg k2]
        clear k0 k1 k2
        go_enter Tryz.func70, Tryz.ntmps70
        go_wp2_with (first
          | (go_at_call 138; (with_reducible refine HF.out.mono ?_); rintro e w1 ⟨rfl, hb⟩; have B := Lib.hid hb; have HW := Lib.hid (HX.out.bel hb); obtain ⟨c0, c1, c2, c3, c4, c5, c6⟩ := (HX.out.bel hb).cells; obtain ⟨r0, r1, r2, r3, r4, r5, r6⟩ := (HX.out.bel hb).frs; clear hb)
          | (go_at_call 139; (with_reducible refine (P4.out _).mono ?_); rintro e w' ⟨rfl, rfl⟩)
          | (go_at_call 140; (with_reducible refine (PB.out _).mono ?_); rintro e w' ⟨rfl, rfl⟩))
        go_ret
        exact ⟨rfl, (Onl.of B.out).trans (Onl.set g _ 2 _), _, HW.out.set2 _, fun _ => rfl⟩
  · rw [decide_eq_false k0] at PB
    rw [if_neg (by omega)]
    clear k0
    go_enter Tryz.func70, Tryz.ntmps70
    go_wp2_with (first
      | (go_at_call 138; (with_reducible refine HF.out.mono ?_); rintro e w1 ⟨rfl, hb⟩; have B := Lib.hid hb; have HW := Lib.hid (HX.out.bel hb); obtain ⟨c0, c1, c2, c3, c4, c5, c6⟩ := (HX.out.bel hb).cells; obtain ⟨r0, r1, r2, r3, r4, r5, r6⟩ := (HX.out.bel hb).frs; clear hb)
      | (go_at_call 139; (with_reducible refine (P4.out _).mono ?_); rintro e w' ⟨rfl, rfl⟩)
      | (go_at_call 140; (with_reducible refine (PB.out _).mono ?_); rintro e w' ⟨rfl, rfl⟩))
    go_ret
    exact ⟨rfl, (Onl.of B.out).trans (Onl.set g _ 2 _), _, HW.out.set2 _, fun h => absurd h (by decide)⟩
set_option maxHeartbeats 4000000 in
theorem rdHhea_ok (A : Option Addr) (m c : Nat) (L : List (List UInt8 × List UInt8)) (g : Nat) (h : Hd) (w : World) (hT : Tl w A m L) (hm : m ≤ 1000000) (hd : ∀ i, i < m → (dt L i).length ≤ 1000000) (hX : HB w g h) (gl : Nat) (hg : h.gl = (gl : Int)) (hE : fdE L tHhea 36 = 0) :
    Calls Tryz.prog 71 #[.slice A m c, .pointer (some ⟨g, 0, none⟩)] w fun e w' => e = .returned (.int .i64 (hheaE (findL L tHhea).1 gl : Int)) ∧ Onl g w w' ∧ ∃ k, HB w' g k ∧ (hheaE (findL L tHhea).1 gl = 0 → k = h3 (findL L tHhea).1 h) := by
  have hf := fd_any A m c L tHhea 36 36 rfl w hT hm hd
  have hl := hT.len
  obtain ⟨q1, q2, q3⟩ := fd_zero hE
  have q4 : (findL L tHhea).1.length ≤ 1000000 := findL_len (fun i hi => hd i (by omega))
  rw [hE, q3] at hf
  obtain ⟨d, hd0⟩ : ∃ d, d = (findL L tHhea).1 := ⟨_, rfl⟩
  rw [← hd0] at hf q2 q4 ⊢
  obtain ⟨D, hD⟩ : ∃ D : ByteArray, D = ⟨d.toArray⟩ := ⟨_, rfl⟩
  have hz : D.size = d.length := by rw [hD]; exact List.size_toArray
  have hDl : D.data.toList = d := by rw [hD]
  rw [← hD] at hf
  have HF := Lib.hid (show Calls Tryz.prog 138 _ w fun e w' => e = .returned (.tuple #[.string D, .int .i64 0]) ∧ Below w.heap.size w w' from hf)
  have HX := Lib.hid hX
  have l0 : D.size ≤ 1000000000 := by omega
  have p4 := fun W => turned_any D 4 4 rfl W l0 (by omega)
  have p6 := fun W => turned_any D 6 6 rfl W l0 (by omega)
  have p8 := fun W => turned_any D 8 8 rfl W l0 (by omega)
  have p34 := fun W => plain_any D 34 34 rfl W l0 (by omega)
  have p32 := fun W => plain_any D 32 32 rfl W l0 (by omega)
  have pb := fun W => begins_any D W l0 (by omega)
  rw [hDl] at p4 p6 p8 p34 p32 pb
  unfold hheaE h3
  rw [if_neg (by omega)]
  have v1 := n2_lt d 34
  have v2 := n2_lt d 32
  obtain ⟨s1, hs1⟩ : ∃ x, x = sg16 (n2 d 4) := ⟨_, rfl⟩
  obtain ⟨s2, hs2⟩ : ∃ x, x = sg16 (n2 d 6) := ⟨_, rfl⟩
  obtain ⟨s3, hs3⟩ : ∃ x, x = sg16 (n2 d 8) := ⟨_, rfl⟩
  obtain ⟨x, hx⟩ : ∃ x, x = n2 d 34 := ⟨_, rfl⟩
  obtain ⟨u, hu⟩ : ∃ x, x = n2 d 32 := ⟨_, rfl⟩
  obtain ⟨b0, hb0⟩ : ∃ x, x = n4 d 0 := ⟨_, rfl⟩
  rw [← hs1] at p4 ⊢
  rw [← hs2] at p6 ⊢
  rw [← hs3] at p8 ⊢
  rw [← hx] at p34 v1 ⊢
  rw [← hu] at p32 v2 ⊢
  rw [← hb0] at pb ⊢
  have pe := fun W => mayMet_any h.em h.lg h.gl (x : Int) s1 s2 s3 W
  rw [hg] at pe
  have P4 := Lib.hid p4
  have P6 := Lib.hid p6
  have P8 := Lib.hid p8
  have P34 := Lib.hid p34
  have P32 := Lib.hid p32
  have PB := Lib.hid pb
  have PX := Lib.hid pe
  have HG := Lib.hid hg
  clear hT hm hd hX hE hl q1 q2 q3 q4 hd0 hD hDl hz l0 hf p4 p6 p8 p34 p32 pb pe v1 v2 hx hb0 hu hs1 hs2 hs3 hg
  by_cases k0 : b0 = 65536
  · rw [decide_eq_true k0] at PB
    by_cases k1 : u = 0
    · have du : ((u : Int) != 0) = false := by simp; omega
      by_cases k2 : 1 ≤ x ∧ x ≤ gl
      · rw [decide_eq_true (show 1 ≤ (x : Int) ∧ (x : Int) ≤ (gl : Int) by omega)] at PX
        rw [if_pos (by omega)]
        clear k0 k1 k2
        go_enter Tryz.func71, Tryz.ntmps71
        go_wp2_with (first
          | (go_at_call 138; (with_reducible refine HF.out.mono ?_); rintro e w1 ⟨rfl, hb⟩; have B := Lib.hid hb; have HW := Lib.hid (HX.out.bel hb); obtain ⟨c0, c1, c2, c3, c4, c5, c6⟩ := (HX.out.bel hb).cells; obtain ⟨r0, r1, r2, r3, r4, r5, r6⟩ := (HX.out.bel hb).frs; rw [HG.out] at c2; clear hb)
          | (go_at_call 143; (with_reducible refine (P4.out _).mono ?_); rintro e w' ⟨rfl, rfl⟩)
          | (go_at_call 143; (with_reducible refine (P6.out _).mono ?_); rintro e w' ⟨rfl, rfl⟩)
          | (go_at_call 143; (with_reducible refine (P8.out _).mono ?_); rintro e w' ⟨rfl, rfl⟩)
          | (go_at_call 139; (with_reducible refine (P34.out _).mono ?_); rintro e w' ⟨rfl, rfl⟩)
          | (go_at_call 139; (with_reducible refine (P32.out _).mono ?_); rintro e w' ⟨rfl, rfl⟩)
          | (go_at_call 140; (with_reducible refine (PB.out _).mono ?_); rintro e w' ⟨rfl, rfl⟩)
          | (go_at_call 144; (with_reducible refine (PX.out _).mono ?_); rintro e w2 ⟨rfl, hb2⟩; have B2 := Lib.hid hb2; clear hb2))
        go_ret
        exact ⟨rfl, (((((Onl.of B.out).trans (Onl.set g _ 4 _)).trans (Onl.set g _ 5 _)).trans (Onl.set g _ 6 _)).trans (Onl.set g _ 3 _)).trans (Onl.of B2.out), _, ((((HW.out.set4 _).set5 _).set6 _).set3 _).bel B2.out, fun _ => rfl⟩
      · rw [decide_eq_false (show ¬ (1 ≤ (x : Int) ∧ (x : Int) ≤ (gl : Int)) by omega)] at PX
        rw [if_neg (by omega)]
        clear k0 k1 k2
        go_enter Tryz.func71, Tryz.ntmps71
        go_wp2_with (first
          | (go_at_call 138; (with_reducible refine HF.out.mono ?_); rintro e w1 ⟨rfl, hb⟩; have B := Lib.hid hb; have HW := Lib.hid (HX.out.bel hb); obtain ⟨c0, c1, c2, c3, c4, c5, c6⟩ := (HX.out.bel hb).cells; obtain ⟨r0, r1, r2, r3, r4, r5, r6⟩ := (HX.out.bel hb).frs; rw [HG.out] at c2; clear hb)
          | (go_at_call 143; (with_reducible refine (P4.out _).mono ?_); rintro e w' ⟨rfl, rfl⟩)
          | (go_at_call 143; (with_reducible refine (P6.out _).mono ?_); rintro e w' ⟨rfl, rfl⟩)
          | (go_at_call 143; (with_reducible refine (P8.out _).mono ?_); rintro e w' ⟨rfl, rfl⟩)
          | (go_at_call 139; (with_reducible refine (P34.out _).mono ?_); rintro e w' ⟨rfl, rfl⟩)
          | (go_at_call 139; (with_reducible refine (P32.out _).mono ?_); rintro e w' ⟨rfl, rfl⟩)
          | (go_at_call 140; (with_reducible refine (PB.out _).mono ?_); rintro e w' ⟨rfl, rfl⟩)
          | (go_at_call 144; (with_reducible refine (PX.out _).mono ?_); rintro e w2 ⟨rfl, hb2⟩; have B2 := Lib.hid hb2; clear hb2))
        go_ret
        exact ⟨rfl, (((((Onl.of B.out).trans (Onl.set g _ 4 _)).trans (Onl.set g _ 5 _)).trans (Onl.set g _ 6 _)).trans (Onl.set g _ 3 _)).trans (Onl.of B2.out), _, ((((HW.out.set4 _).set5 _).set6 _).set3 _).bel B2.out, fun h => absurd h (by decide)⟩
    · have du : ((u : Int) != 0) = true := by simp; omega
      rw [if_neg (by omega)]
      clear k0 k1
      go_enter Tryz.func71, Tryz.ntmps71
      go_wp2_with (first
        | (go_at_call 138; (with_reducible refine HF.out.mono ?_); rintro e w1 ⟨rfl, hb⟩; have B := Lib.hid hb; have HW := Lib.hid (HX.out.bel hb); obtain ⟨c0, c1, c2, c3, c4, c5, c6⟩ := (HX.out.bel hb).cells; obtain ⟨r0, r1, r2, r3, r4, r5, r6⟩ := (HX.out.bel hb).frs; rw [HG.out] at c2; clear hb)
        | (go_at_call 143; (with_reducible refine (P4.out _).mono ?_); rintro e w' ⟨rfl, rfl⟩)
        | (go_at_call 143; (with_reducible refine (P6.out _).mono ?_); rintro e w' ⟨rfl, rfl⟩)
        | (go_at_call 143; (with_reducible refine (P8.out _).mono ?_); rintro e w' ⟨rfl, rfl⟩)
        | (go_at_call 139; (with_reducible refine (P34.out _).mono ?_); rintro e w' ⟨rfl, rfl⟩)
        | (go_at_call 139; (with_reducible refine (P32.out _).mono ?_); rintro e w' ⟨rfl, rfl⟩)
        | (go_at_call 140; (with_reducible refine (PB.out _).mono ?_); rintro e w' ⟨rfl, rfl⟩)
        | (go_at_call 144; (with_reducible refine (PX.out _).mono ?_); rintro e w2 ⟨rfl, hb2⟩; have B2 := Lib.hid hb2; clear hb2))
      go_ret
      exact ⟨rfl, ((((Onl.of B.out).trans (Onl.set g _ 4 _)).trans (Onl.set g _ 5 _)).trans (Onl.set g _ 6 _)).trans (Onl.set g _ 3 _), _, (((HW.out.set4 _).set5 _).set6 _).set3 _, fun h => absurd h (by decide)⟩
  · rw [decide_eq_false k0] at PB
    rw [if_neg (by omega)]
    clear k0
    go_enter Tryz.func71, Tryz.ntmps71
    go_wp2_with (first
      | (go_at_call 138; (with_reducible refine HF.out.mono ?_); rintro e w1 ⟨rfl, hb⟩; have B := Lib.hid hb; have HW := Lib.hid (HX.out.bel hb); obtain ⟨c0, c1, c2, c3, c4, c5, c6⟩ := (HX.out.bel hb).cells; obtain ⟨r0, r1, r2, r3, r4, r5, r6⟩ := (HX.out.bel hb).frs; rw [HG.out] at c2; clear hb)
      | (go_at_call 143; (with_reducible refine (P4.out _).mono ?_); rintro e w' ⟨rfl, rfl⟩)
      | (go_at_call 143; (with_reducible refine (P6.out _).mono ?_); rintro e w' ⟨rfl, rfl⟩)
      | (go_at_call 143; (with_reducible refine (P8.out _).mono ?_); rintro e w' ⟨rfl, rfl⟩)
      | (go_at_call 139; (with_reducible refine (P34.out _).mono ?_); rintro e w' ⟨rfl, rfl⟩)
      | (go_at_call 139; (with_reducible refine (P32.out _).mono ?_); rintro e w' ⟨rfl, rfl⟩)
      | (go_at_call 140; (with_reducible refine (PB.out _).mono ?_); rintro e w' ⟨rfl, rfl⟩)
      | (go_at_call 144; (with_reducible refine (PX.out _).mono ?_); rintro e w2 ⟨rfl, hb2⟩; have B2 := Lib.hid hb2; clear hb2))
    go_ret
    exact ⟨rfl, ((((Onl.of B.out).trans (Onl.set g _ 4 _)).trans (Onl.set g _ 5 _)).trans (Onl.set g _ 6 _)).trans (Onl.set g _ 3 _), _, (((HW.out.set4 _).set5 _).set6 _).set3 _, fun h => absurd h (by decide)⟩
end Go.Proofs.YtfhaloclbbmbeaaGreat
namespace Go.Proofs.YtfhaloclbbmbeaaGreat
open Go.RowKit
theorem h2_gl {k h : Hd} {d : List UInt8} (hk : k = h2 d h) : k.gl = (n2 d 4 : Int) := by subst hk; rfl
theorem fd_not {L : List (List UInt8 × List UInt8)} {t : List UInt8} {z : Nat} (h : fdE L t z ≠ 0) (f : List UInt8 → Nat) (hf : ∀ d, d.length < z → f d = 3) : (if (findL L t).2 then f (findL L t).1 else 7) = fdE L t z := by
  unfold fdE at h ⊢
  split
  · rename_i h3
    rw [if_pos h3] at h
    split
    · rename_i h4
      exact hf _ h4
    · rename_i h4
      rw [if_neg h4] at h
      omega
  · rfl
theorem rdHead_any (A : Option Addr) (m c : Nat) (L : List (List UInt8 × List UInt8)) (g : Nat) (h : Hd) (w : World) (hT : Tl w A m L) (hm : m ≤ 1000000) (hd : ∀ i, i < m → (dt L i).length ≤ 1000000) (hX : HB w g h) :
    Calls Tryz.prog 69 #[.slice A m c, .pointer (some ⟨g, 0, none⟩)] w fun e w' => e = .returned (.int .i64 (e1 L : Int)) ∧ Onl g w w' ∧ ∃ k, HB w' g k ∧ (e1 L = 0 → k = h1 (findL L tHead).1 h) := by
  by_cases hE : fdE L tHead 54 = 0
  · have q := (fd_zero hE).1
    have e0 : e1 L = headE (findL L tHead).1 := by unfold e1; rw [if_pos q]
    rw [e0]
    exact rdHead_ok A m c L g h w hT hm hd hX hE
  · have e0 : e1 L = fdE L tHead 54 := fd_not hE (fun d => headE d) (fun d hd => by unfold headE; rw [if_pos hd])
    rw [e0]
    exact (rdHead_no A m c L g h w hT hm hd hX hE).mono fun _ _ ⟨h1, h2, h3⟩ => ⟨h1, h2, h, h3, fun h4 => absurd h4 hE⟩
theorem rdMaxp_any (A : Option Addr) (m c : Nat) (L : List (List UInt8 × List UInt8)) (g : Nat) (h : Hd) (w : World) (hT : Tl w A m L) (hm : m ≤ 1000000) (hd : ∀ i, i < m → (dt L i).length ≤ 1000000) (hX : HB w g h) :
    Calls Tryz.prog 70 #[.slice A m c, .pointer (some ⟨g, 0, none⟩)] w fun e w' => e = .returned (.int .i64 (e2 L : Int)) ∧ Onl g w w' ∧ ∃ k, HB w' g k ∧ (e2 L = 0 → k = h2 (findL L tMaxp).1 h) := by
  by_cases hE : fdE L tMaxp 32 = 0
  · have q := (fd_zero hE).1
    have e0 : e2 L = maxpE (findL L tMaxp).1 := by unfold e2; rw [if_pos q]
    rw [e0]
    exact rdMaxp_ok A m c L g h w hT hm hd hX hE
  · have e0 : e2 L = fdE L tMaxp 32 := fd_not hE (fun d => maxpE d) (fun d hd => by unfold maxpE; rw [if_pos hd])
    rw [e0]
    exact (rdMaxp_no A m c L g h w hT hm hd hX hE).mono fun _ _ ⟨h1, h2, h3⟩ => ⟨h1, h2, h, h3, fun h4 => absurd h4 hE⟩
theorem rdHhea_any (A : Option Addr) (m c : Nat) (L : List (List UInt8 × List UInt8)) (g : Nat) (h : Hd) (w : World) (hT : Tl w A m L) (hm : m ≤ 1000000) (hd : ∀ i, i < m → (dt L i).length ≤ 1000000) (hX : HB w g h) (hg : h.gl = (n2 (findL L tMaxp).1 4 : Int)) :
    Calls Tryz.prog 71 #[.slice A m c, .pointer (some ⟨g, 0, none⟩)] w fun e w' => e = .returned (.int .i64 (e3 L : Int)) ∧ Onl g w w' ∧ ∃ k, HB w' g k ∧ (e3 L = 0 → k = h3 (findL L tHhea).1 h) := by
  by_cases hE : fdE L tHhea 36 = 0
  · have q := (fd_zero hE).1
    have e0 : e3 L = hheaE (findL L tHhea).1 (n2 (findL L tMaxp).1 4) := by unfold e3; rw [if_pos q]
    rw [e0]
    exact rdHhea_ok A m c L g h w hT hm hd hX _ hg hE
  · have e0 : e3 L = fdE L tHhea 36 := fd_not hE (fun d => hheaE d (n2 (findL L tMaxp).1 4)) (fun d hd => by unfold hheaE; rw [if_pos hd])
    rw [e0]
    exact (rdHhea_no A m c L g h w hT hm hd hX hE).mono fun _ _ ⟨h1, h2, h3⟩ => ⟨h1, h2, h, h3, fun h4 => absurd h4 hE⟩
theorem ret_hd {fn : Func} {p q : Tmp} {tmps : Array Value} {W : World} {g : Nat} {k : Hd} {v : Value} (h : fn.results = #[.cell p 39, .tmp q]) (hp : tmps.getD p undef = .pointer (some ⟨g, 0, none⟩)) (hq : tmps.getD q undef = v) (b : HB W g k) :
    (results fn tmps).run Tryz.prog W = .ok (.tuple #[k.val, v]) W := by
  obtain ⟨c0, c1, c2, c3, c4, c5, c6⟩ := b.cells
  rw [Array.getD_eq_getD_getElem?] at hp hq
  simp [results, h, hp, hq, go_sem, c0, c1, c2, c3, c4, c5, c6, Hd.val, Hd.cs]
structure PS (w W : World) (b g : Nat) (r k : Hd) : Prop where
  bel : Below w.heap.size w W
  ob : w.heap.size ≤ b
  og : w.heap.size ≤ g
  ne : b ≠ g
  res : HB W b r
  box : HB W g k
theorem PS.start (w : World) : PS w ((w.alloc (.cells #[.int .i64 0, .bool false, .int .i64 0, .int .i64 0, .int .i64 0, .int .i64 0, .int .i64 0] 39)).alloc (.cells #[.int .i64 0, .bool false, .int .i64 0, .int .i64 0, .int .i64 0, .int .i64 0, .int .i64 0] 39)) w.heap.size (w.heap.size + 1) Hd.zero Hd.zero := by
  refine ⟨((Below.refl _ _).alloc (Nat.le_refl _) _).alloc (by simp) _, Nat.le_refl _, by omega, by omega, ?_, ?_⟩
  · exact (HB.new w).bel ((Below.refl _ _).alloc (Nat.le_refl _) _)
  · have h := HB.new (w.alloc (.cells #[.int .i64 0, .bool false, .int .i64 0, .int .i64 0, .int .i64 0, .int .i64 0, .int .i64 0] 39))
    simpa using h
theorem PS.step {w W W' : World} {b g : Nat} {r k k' : Hd} (h : PS w W b g r k) (ho : Onl g W W') (hk : HB W' g k') : PS w W' b g r k' :=
  ⟨h.bel.trans (ho.below h.og h.bel.size), h.ob, h.og, h.ne, h.res.onl ho h.ne, hk⟩
theorem PS.out {w W : World} {b g : Nat} {r k : Hd} (h : PS w W b g r k) (x : Hd) : Below w.heap.size w (((((((W.setCell ⟨b, 0, none⟩ (.int .i64 x.em)).setCell ⟨b, 1, none⟩ (.bool x.lg)).setCell ⟨b, 2, none⟩ (.int .i64 x.gl)).setCell ⟨b, 3, none⟩ (.int .i64 x.me)).setCell ⟨b, 4, none⟩ (.int .i64 x.a1)).setCell ⟨b, 5, none⟩ (.int .i64 x.a2)).setCell ⟨b, 6, none⟩ (.int .i64 x.a3)) :=
  ((((((h.bel.setCell h.ob _).setCell h.ob _).setCell h.ob _).setCell h.ob _).setCell h.ob _).setCell h.ob _).setCell h.ob _
namespace N10
set_option maxHeartbeats 4000000 in
theorem parse_any (A : Option Addr) (m c : Nat) (L : List (List UInt8 × List UInt8)) (w : World) (hT : Tl w A m L) (hm : m ≤ 1000000) (hd : ∀ i, i < m → (dt L i).length ≤ 1000000) :
    Calls Tryz.prog 27 #[.slice A m c] w fun e w' => e = .returned (.tuple #[(PH L).val, .int .i64 (PE L : Int)]) ∧ Below w.heap.size w w' := by
  have HT := Lib.hid hT
  have c1 := fun g h W (hT : Tl W A m L) (hX : HB W g h) => rdHead_any A m c L g h W hT hm hd hX
  have c2 := fun g h W (hT : Tl W A m L) (hX : HB W g h) => rdMaxp_any A m c L g h W hT hm hd hX
  have c3 := fun g h W (hT : Tl W A m L) (hX : HB W g h) (hg : h.gl = (n2 (findL L tMaxp).1 4 : Int)) => rdHhea_any A m c L g h W hT hm hd hX hg
  clear hT hm hd
  by_cases z1 : e1 L = 0
  · rw [z1] at c1
    by_cases z2 : e2 L = 0
    · rw [z2] at c2
      have p0 : PE L = e3 L := by unfold PE; rw [if_neg (by omega), if_neg (by omega)]
      have H1 := Lib.hid c1
      have H2 := Lib.hid c2
      by_cases z3 : e3 L = 0
      · have p1 : PH L = full L := by unfold PH; rw [if_pos (by omega)]
        rw [p1, p0, z3]
        rw [z3] at c3
        have H3 := Lib.hid c3
        clear c1 c2 c3 z1 z2 z3 p0 p1
        go_enter Tryz.func27, Tryz.ntmps27
        go_upto_region 2 with fail
        have S0 := Lib.hid (PS.start w)
        obtain ⟨b, hb⟩ : ∃ b, b = w.heap.size := ⟨_, rfl⟩
        obtain ⟨g, hg⟩ : ∃ g, g = w.heap.size + 1 := ⟨_, rfl⟩
        obtain ⟨W0, hW0⟩ : ∃ W, W = ((w.alloc (.cells #[.int .i64 0, .bool false, .int .i64 0, .int .i64 0, .int .i64 0, .int .i64 0, .int .i64 0] 39)).alloc (.cells #[.int .i64 0, .bool false, .int .i64 0, .int .i64 0, .int .i64 0, .int .i64 0, .int .i64 0] 39)) := ⟨_, rfl⟩
        have S0 := Lib.hid (show PS w W0 b g Hd.zero Hd.zero by rw [hW0, hb, hg]; exact S0.out)
        rw [← hg, ← hb, ← hW0]
        clear hb hg hW0
        go_wp2_with (first
            | (go_at_call 69; (with_reducible refine (H1.out _ _ _ (HT.out.bel S0.out.bel) S0.out.box).mono ?_); rintro e w1 ⟨rfl, ho, k1, hk, he⟩; have S1 := Lib.hid (S0.out.step ho hk); have E1 := Lib.hid he; obtain ⟨x0, x1, x2, x3, x4, x5, x6⟩ := S1.out.box.cells; clear ho hk he)
            | (go_at_call 70; (with_reducible refine (H2.out _ _ _ (HT.out.bel S1.out.bel) S1.out.box).mono ?_); rintro e w2 ⟨rfl, ho, k2, hk, he⟩; have S2 := Lib.hid (S1.out.step ho hk); have E2 := Lib.hid he; obtain ⟨x0, x1, x2, x3, x4, x5, x6⟩ := S2.out.box.cells; clear ho hk he)
            | (go_at_call 71; (with_reducible refine (H3.out _ _ _ (HT.out.bel S2.out.bel) S2.out.box (h2_gl (E2.out (by trivial)))).mono ?_); rintro e w3 ⟨rfl, ho, k3, hk, he⟩; have S3 := Lib.hid (S2.out.step ho hk); have E3 := Lib.hid he; obtain ⟨r0, r1, r2, r3, r4, r5, r6⟩ := S3.out.res.frs; obtain ⟨c0, c1, c2, c3, c4, c5, c6⟩ := S3.out.res.cells; obtain ⟨x0, x1, x2, x3, x4, x5, x6⟩ := S3.out.box.cells; clear ho hk he))
        have ek : k3 = full L := by rw [E3.out (by trivial), E2.out (by trivial), E1.out (by trivial)]; rfl
        rw [← ek]
        exact bodyPost_ret (ret_hd rfl rfl rfl (S3.out.res.put k3)) rfl ⟨rfl, S3.out.out k3⟩
      · have p1 : PH L = Hd.zero := by unfold PH; rw [if_neg (by omega)]
        rw [p1, p0]
        obtain ⟨E, hE⟩ : ∃ E, E = e3 L := ⟨_, rfl⟩
        rw [← hE] at c3 z3 ⊢
        have H3 := Lib.hid c3
        have ez : ((E : Int) != 0) = true := by simp; omega
        clear c1 c2 c3 z1 z2 z3 p0 p1 hE
        go_enter Tryz.func27, Tryz.ntmps27
        go_upto_region 2 with fail
        have S0 := Lib.hid (PS.start w)
        obtain ⟨b, hb⟩ : ∃ b, b = w.heap.size := ⟨_, rfl⟩
        obtain ⟨g, hg⟩ : ∃ g, g = w.heap.size + 1 := ⟨_, rfl⟩
        obtain ⟨W0, hW0⟩ : ∃ W, W = ((w.alloc (.cells #[.int .i64 0, .bool false, .int .i64 0, .int .i64 0, .int .i64 0, .int .i64 0, .int .i64 0] 39)).alloc (.cells #[.int .i64 0, .bool false, .int .i64 0, .int .i64 0, .int .i64 0, .int .i64 0, .int .i64 0] 39)) := ⟨_, rfl⟩
        have S0 := Lib.hid (show PS w W0 b g Hd.zero Hd.zero by rw [hW0, hb, hg]; exact S0.out)
        rw [← hg, ← hb, ← hW0]
        clear hb hg hW0
        go_wp2_with (first
            | (go_at_call 69; (with_reducible refine (H1.out _ _ _ (HT.out.bel S0.out.bel) S0.out.box).mono ?_); rintro e w1 ⟨rfl, ho, k1, hk, he⟩; have S1 := Lib.hid (S0.out.step ho hk); have E1 := Lib.hid he; clear ho hk he)
            | (go_at_call 70; (with_reducible refine (H2.out _ _ _ (HT.out.bel S1.out.bel) S1.out.box).mono ?_); rintro e w2 ⟨rfl, ho, k2, hk, he⟩; have S2 := Lib.hid (S1.out.step ho hk); have E2 := Lib.hid he; clear ho hk he)
            | (go_at_call 71; (with_reducible refine (H3.out _ _ _ (HT.out.bel S2.out.bel) S2.out.box (h2_gl (E2.out (by trivial)))).mono ?_); rintro e w3 ⟨rfl, ho, k3, hk, he⟩; have S3 := Lib.hid (S2.out.step ho hk); have E3 := Lib.hid he; obtain ⟨r0, r1, r2, r3, r4, r5, r6⟩ := S3.out.res.frs; obtain ⟨c0, c1, c2, c3, c4, c5, c6⟩ := S3.out.res.cells; clear ho hk he))
        exact bodyPost_ret (ret_hd rfl rfl rfl (S3.out.res.put Hd.zero)) rfl ⟨rfl, S3.out.out Hd.zero⟩
    · have p0 : PE L = e2 L := by unfold PE; rw [if_neg (by omega), if_pos z2]
      have p1 : PH L = Hd.zero := by unfold PH; rw [if_neg (by omega)]
      rw [p1, p0]
      obtain ⟨E, hE⟩ : ∃ E, E = e2 L := ⟨_, rfl⟩
      rw [← hE] at c2 z2 ⊢
      have H1 := Lib.hid c1
      have H2 := Lib.hid c2
      have ez : ((E : Int) != 0) = true := by simp; omega
      clear c1 c2 c3 z1 z2 p0 p1 hE
      go_enter Tryz.func27, Tryz.ntmps27
      go_upto_region 2 with fail
      have S0 := Lib.hid (PS.start w)
      obtain ⟨b, hb⟩ : ∃ b, b = w.heap.size := ⟨_, rfl⟩
      obtain ⟨g, hg⟩ : ∃ g, g = w.heap.size + 1 := ⟨_, rfl⟩
      obtain ⟨W0, hW0⟩ : ∃ W, W = ((w.alloc (.cells #[.int .i64 0, .bool false, .int .i64 0, .int .i64 0, .int .i64 0, .int .i64 0, .int .i64 0] 39)).alloc (.cells #[.int .i64 0, .bool false, .int .i64 0, .int .i64 0, .int .i64 0, .int .i64 0, .int .i64 0] 39)) := ⟨_, rfl⟩
      have S0 := Lib.hid (show PS w W0 b g Hd.zero Hd.zero by rw [hW0, hb, hg]; exact S0.out)
      rw [← hg, ← hb, ← hW0]
      clear hb hg hW0
      go_wp2_with (first
          | (go_at_call 69; (with_reducible refine (H1.out _ _ _ (HT.out.bel S0.out.bel) S0.out.box).mono ?_); rintro e w1 ⟨rfl, ho, k1, hk, he⟩; have S1 := Lib.hid (S0.out.step ho hk); have E1 := Lib.hid he; clear ho hk he)
          | (go_at_call 70; (with_reducible refine (H2.out _ _ _ (HT.out.bel S1.out.bel) S1.out.box).mono ?_); rintro e w2 ⟨rfl, ho, k2, hk, he⟩; have S2 := Lib.hid (S1.out.step ho hk); have E2 := Lib.hid he; obtain ⟨r0, r1, r2, r3, r4, r5, r6⟩ := S2.out.res.frs; obtain ⟨c0, c1, c2, c3, c4, c5, c6⟩ := S2.out.res.cells; clear ho hk he))
      exact bodyPost_ret (ret_hd rfl rfl rfl (S2.out.res.put Hd.zero)) rfl ⟨rfl, S2.out.out Hd.zero⟩
  · have p0 : PE L = e1 L := by unfold PE; rw [if_pos z1]
    have p1 : PH L = Hd.zero := by unfold PH; rw [if_neg (by omega)]
    rw [p1, p0]
    obtain ⟨E, hE⟩ : ∃ E, E = e1 L := ⟨_, rfl⟩
    rw [← hE] at c1 z1 ⊢
    have H1 := Lib.hid c1
    have ez : ((E : Int) != 0) = true := by simp; omega
    clear c1 c2 c3 z1 p0 p1 hE
    go_enter Tryz.func27, Tryz.ntmps27
    go_upto_region 2 with fail
    have S0 := Lib.hid (PS.start w)
    obtain ⟨b, hb⟩ : ∃ b, b = w.heap.size := ⟨_, rfl⟩
    obtain ⟨g, hg⟩ : ∃ g, g = w.heap.size + 1 := ⟨_, rfl⟩
    obtain ⟨W0, hW0⟩ : ∃ W, W = ((w.alloc (.cells #[.int .i64 0, .bool false, .int .i64 0, .int .i64 0, .int .i64 0, .int .i64 0, .int .i64 0] 39)).alloc (.cells #[.int .i64 0, .bool false, .int .i64 0, .int .i64 0, .int .i64 0, .int .i64 0, .int .i64 0] 39)) := ⟨_, rfl⟩
    have S0 := Lib.hid (show PS w W0 b g Hd.zero Hd.zero by rw [hW0, hb, hg]; exact S0.out)
    rw [← hg, ← hb, ← hW0]
    clear hb hg hW0
    go_wp2_with (first
        | (go_at_call 69; (with_reducible refine (H1.out _ _ _ (HT.out.bel S0.out.bel) S0.out.box).mono ?_); rintro e w1 ⟨rfl, ho, k1, hk, he⟩; have S1 := Lib.hid (S0.out.step ho hk); have E1 := Lib.hid he; obtain ⟨r0, r1, r2, r3, r4, r5, r6⟩ := S1.out.res.frs; obtain ⟨c0, c1, c2, c3, c4, c5, c6⟩ := S1.out.res.cells; clear ho hk he))
    exact bodyPost_ret (ret_hd rfl rfl rfl (S1.out.res.put Hd.zero)) rfl ⟨rfl, S1.out.out Hd.zero⟩
end N10
end Go.Proofs.YtfhaloclbbmbeaaGreat
namespace Go.Proofs.YtfhaloclbbmbeaaGreat
open Go.RowKit
section
variable {w W : World} {b g : Nat} {r k : Hd}
theorem PS.set0 (h : PS w W b g r k) (x : Int) : PS w (W.setCell ⟨g, 0, none⟩ (.int .i64 x)) b g r { k with em := x } := ⟨h.bel.setCell h.og _, h.ob, h.og, h.ne, h.res.far h.ne, h.box.set0 x⟩
theorem PS.set1 (h : PS w W b g r k) (x : Bool) : PS w (W.setCell ⟨g, 1, none⟩ (.bool x)) b g r { k with lg := x } := ⟨h.bel.setCell h.og _, h.ob, h.og, h.ne, h.res.far h.ne, h.box.set1 x⟩
theorem PS.set2 (h : PS w W b g r k) (x : Int) : PS w (W.setCell ⟨g, 2, none⟩ (.int .i64 x)) b g r { k with gl := x } := ⟨h.bel.setCell h.og _, h.ob, h.og, h.ne, h.res.far h.ne, h.box.set2 x⟩
theorem PS.set3 (h : PS w W b g r k) (x : Int) : PS w (W.setCell ⟨g, 3, none⟩ (.int .i64 x)) b g r { k with me := x } := ⟨h.bel.setCell h.og _, h.ob, h.og, h.ne, h.res.far h.ne, h.box.set3 x⟩
theorem PS.set4 (h : PS w W b g r k) (x : Int) : PS w (W.setCell ⟨g, 4, none⟩ (.int .i64 x)) b g r { k with a1 := x } := ⟨h.bel.setCell h.og _, h.ob, h.og, h.ne, h.res.far h.ne, h.box.set4 x⟩
theorem PS.set5 (h : PS w W b g r k) (x : Int) : PS w (W.setCell ⟨g, 5, none⟩ (.int .i64 x)) b g r { k with a2 := x } := ⟨h.bel.setCell h.og _, h.ob, h.og, h.ne, h.res.far h.ne, h.box.set5 x⟩
theorem PS.set6 (h : PS w W b g r k) (x : Int) : PS w (W.setCell ⟨g, 6, none⟩ (.int .i64 x)) b g r { k with a3 := x } := ⟨h.bel.setCell h.og _, h.ob, h.og, h.ne, h.res.far h.ne, h.box.set6 x⟩
end
end Go.Proofs.YtfhaloclbbmbeaaGreat
namespace Go.Proofs.YtfhaloclbbmbeaaGreat
open Go.RowKit
theorem PS.next {w W W' : World} {b g : Nat} {r k : Hd} (h : PS w W b g r k) (hb : Below W.heap.size W W') : PS w W' b g r k :=
  ⟨h.bel.trans (hb.mono h.bel.size), h.ob, h.og, h.ne, h.res.bel hb, h.box.bel hb⟩
end Go.Proofs.YtfhaloclbbmbeaaGreat
