/- Proved here: the readers of head, maxp and hhea, where the table is there and long enough. Condition: a list of tables that lies in memory, of bytes of at most a million each; what is read lies in a block of its own. -/
import Derived.Test.YtphnapnmeidgkaaHc
namespace Go.Proofs.Ytphnapnmeidgkaa
open Go.RowKit

theorem fd_zero {L : List (List UInt8 × List UInt8)} {t : List UInt8} {z : Nat} (h : fdE L t z = 0) : (findL L t).2 = true ∧ z ≤ (findL L t).1.length ∧ fdL L t z = (findL L t).1 := by
  have h2 : fdL L t z = (findL L t).1 := by unfold fdL; rw [if_pos h]
  unfold fdE at h
  split at h
  · rename_i h3
    split at h
    · omega
    · exact ⟨h3, by omega, h2⟩
  · omega
theorem nat_eq_true {a : Nat} {k : Nat} (h : a = k) : ((a : Int) == (k : Int)) = true := by subst h; simp
theorem nat_eq_false {a : Nat} {k : Nat} (h : a ≠ k) : ((a : Int) == (k : Int)) = false := by simp; omega
theorem nat_eqb (a k : Nat) : ((a : Int) == (k : Int)) = decide (a = k) := by
  by_cases h : a = k
  · rw [nat_eq_true h, decide_eq_true h]
  · rw [nat_eq_false h, decide_eq_false h]
set_option maxHeartbeats 4000000 in
theorem rdHead_ok (A : Option Addr) (m c : Nat) (L : List (List UInt8 × List UInt8)) (g : Nat) (h : Hd) (w : World) (hT : Tl w A m L) (hm : m ≤ 1000000) (hd : ∀ i, i < m → (dt L i).length ≤ 1000000) (hX : HB w g h) (hE : fdE L tHead 54 = 0) :
    Calls Try.prog 20 #[.slice A m c, .pointer (some ⟨g, 0, none⟩)] w fun e w' => e = .returned (.int .i64 (headE (findL L tHead).1 : Int)) ∧ Onl g w w' ∧ ∃ k, HB w' g k ∧ (headE (findL L tHead).1 = 0 → k = h1 (findL L tHead).1 h) := by
  have hf := fd_any A m c L tHead 54 54 rfl w hT hm hd
  have hl := hT.len
  obtain ⟨q1, q2, q3⟩ := fd_zero hE
  have q4 : (findL L tHead).1.length ≤ 1000000 := findL_len (fun i hi => hd i (by omega))
  rw [hE, q3] at hf
  obtain ⟨d, hd0⟩ : ∃ d, d = (findL L tHead).1 := ⟨_, rfl⟩
  rw [← hd0] at hf q2 q4 ⊢
  obtain ⟨D, hD⟩ : ∃ D : ByteArray, D = ⟨d.toArray⟩ := ⟨_, rfl⟩
  have hz : D.size = d.length := by rw [hD]; exact List.size_toArray
  have hDl : D.data.toList = d := by rw [hD]
  rw [← hD] at hf
  have HF := Lib.hid (show Calls Try.prog 32 _ w fun e w' => e = .returned (.tuple #[.string D, .int .i64 0]) ∧ Below w.heap.size w w' from hf)
  have HX := Lib.hid hX
  have l0 : D.size ≤ 1000000000 := by omega
  have p18 := fun W => plain_any D 18 18 rfl W l0 (by omega)
  have p50 := fun W => plain_any D 50 50 rfl W l0 (by omega)
  have p52 := fun W => plain_any D 52 52 rfl W l0 (by omega)
  have pb := fun W => begins_any D W l0 (by omega)
  have pm := fun W => marked_any D W l0 (by omega)
  rw [hDl] at p18 p50 p52 pb pm
  unfold headE h1
  rw [if_neg (by omega)]
  have v1 := n2_lt d 18
  have v2 := n2_lt d 50
  have v3 := n2_lt d 52
  obtain ⟨x, hx⟩ : ∃ x, x = n2 d 18 := ⟨_, rfl⟩
  obtain ⟨y, hy⟩ : ∃ x, x = n2 d 50 := ⟨_, rfl⟩
  obtain ⟨u, hu⟩ : ∃ x, x = n2 d 52 := ⟨_, rfl⟩
  obtain ⟨b0, hb0⟩ : ∃ x, x = n4 d 0 := ⟨_, rfl⟩
  obtain ⟨b1, hb1⟩ : ∃ x, x = n4 d 12 := ⟨_, rfl⟩
  rw [← hx] at p18 v1 ⊢
  rw [← hy] at p50 v2 ⊢
  rw [← hu] at p52 v3 ⊢
  rw [← hb0] at pb ⊢
  rw [← hb1] at pm ⊢
  have pe := fun W => mayEm_any (x : Int) W
  have hyb := nat_eqb y 1
  rw [show ((1 : Nat) : Int) = 1 from rfl] at hyb
  obtain ⟨yb, hyb1⟩ : ∃ b, b = decide (y = 1) := ⟨_, rfl⟩
  rw [← hyb1] at hyb ⊢
  have P18 := Lib.hid p18
  have P50 := Lib.hid p50
  have P52 := Lib.hid p52
  have PB := Lib.hid pb
  have PM := Lib.hid pm
  have PX := Lib.hid pe
  clear hT hm hd hX hE hl q1 q2 q3 q4 hd0 hD hDl hz l0 hf p18 p50 p52 pb pm pe v1 v2 v3 hx hy hu hb0 hb1 hyb1
  by_cases k0 : b0 = 65536
  · rw [decide_eq_true k0] at PB
    by_cases k1 : b1 = 1594834165
    · rw [decide_eq_true k1] at PM
      by_cases k2 : 16 ≤ x ∧ x ≤ 16384
      · rw [decide_eq_true (show 16 ≤ (x : Int) ∧ (x : Int) ≤ 16384 by omega)] at PX
        by_cases k3 : y ≤ 1
        · have dy : decide (1 < (y : Int)) = false := decide_eq_false (by omega)
          by_cases k4 : u = 0
          · have du : ((u : Int) != 0) = false := by simp; omega
            rw [if_pos (by omega)]
            clear k0 k1 k2 k3 k4
            go_enter Try.func20, Try.ntmps20
            go_wp2_with (first
              | (go_at_call 32; (with_reducible refine HF.out.mono ?_); rintro e w1 ⟨rfl, hb⟩; have B := Lib.hid hb; have HW := Lib.hid (HX.out.bel hb); obtain ⟨c0, c1, c2, c3, c4, c5, c6⟩ := (HX.out.bel hb).cells; obtain ⟨r0, r1, r2, r3, r4, r5, r6⟩ := (HX.out.bel hb).frs; clear hb)
              | (go_at_call 33; (with_reducible refine (P18.out _).mono ?_); rintro e w' ⟨rfl, rfl⟩)
              | (go_at_call 33; (with_reducible refine (P50.out _).mono ?_); rintro e w' ⟨rfl, rfl⟩)
              | (go_at_call 33; (with_reducible refine (P52.out _).mono ?_); rintro e w' ⟨rfl, rfl⟩)
              | (go_at_call 34; (with_reducible refine (PB.out _).mono ?_); rintro e w' ⟨rfl, rfl⟩)
              | (go_at_call 35; (with_reducible refine (PM.out _).mono ?_); rintro e w' ⟨rfl, rfl⟩)
              | (go_at_call 16; (with_reducible refine (PX.out _).mono ?_); rintro e w' ⟨rfl, rfl⟩))
            go_ret
            exact ⟨rfl, ((Onl.of B.out).trans (Onl.set g _ 0 _)).trans (Onl.set g _ 1 _), _, (HW.out.set0 _).set1 _, fun _ => rfl⟩
          · have du : ((u : Int) != 0) = true := by simp; omega
            rw [if_neg (by omega)]
            clear k0 k1 k2 k3 k4
            go_enter Try.func20, Try.ntmps20
            go_wp2_with (first
              | (go_at_call 32; (with_reducible refine HF.out.mono ?_); rintro e w1 ⟨rfl, hb⟩; have B := Lib.hid hb; have HW := Lib.hid (HX.out.bel hb); obtain ⟨c0, c1, c2, c3, c4, c5, c6⟩ := (HX.out.bel hb).cells; obtain ⟨r0, r1, r2, r3, r4, r5, r6⟩ := (HX.out.bel hb).frs; clear hb)
              | (go_at_call 33; (with_reducible refine (P18.out _).mono ?_); rintro e w' ⟨rfl, rfl⟩)
              | (go_at_call 33; (with_reducible refine (P50.out _).mono ?_); rintro e w' ⟨rfl, rfl⟩)
              | (go_at_call 33; (with_reducible refine (P52.out _).mono ?_); rintro e w' ⟨rfl, rfl⟩)
              | (go_at_call 34; (with_reducible refine (PB.out _).mono ?_); rintro e w' ⟨rfl, rfl⟩)
              | (go_at_call 35; (with_reducible refine (PM.out _).mono ?_); rintro e w' ⟨rfl, rfl⟩)
              | (go_at_call 16; (with_reducible refine (PX.out _).mono ?_); rintro e w' ⟨rfl, rfl⟩))
            go_ret
            exact ⟨rfl, ((Onl.of B.out).trans (Onl.set g _ 0 _)).trans (Onl.set g _ 1 _), _, (HW.out.set0 _).set1 _, fun h => absurd h (by decide)⟩
        · have dy : decide (1 < (y : Int)) = true := decide_eq_true (by omega)
          rw [if_neg (by omega)]
          clear k0 k1 k2 k3
          go_enter Try.func20, Try.ntmps20
          go_wp2_with (first
            | (go_at_call 32; (with_reducible refine HF.out.mono ?_); rintro e w1 ⟨rfl, hb⟩; have B := Lib.hid hb; have HW := Lib.hid (HX.out.bel hb); obtain ⟨c0, c1, c2, c3, c4, c5, c6⟩ := (HX.out.bel hb).cells; obtain ⟨r0, r1, r2, r3, r4, r5, r6⟩ := (HX.out.bel hb).frs; clear hb)
            | (go_at_call 33; (with_reducible refine (P18.out _).mono ?_); rintro e w' ⟨rfl, rfl⟩)
            | (go_at_call 33; (with_reducible refine (P50.out _).mono ?_); rintro e w' ⟨rfl, rfl⟩)
            | (go_at_call 33; (with_reducible refine (P52.out _).mono ?_); rintro e w' ⟨rfl, rfl⟩)
            | (go_at_call 34; (with_reducible refine (PB.out _).mono ?_); rintro e w' ⟨rfl, rfl⟩)
            | (go_at_call 35; (with_reducible refine (PM.out _).mono ?_); rintro e w' ⟨rfl, rfl⟩)
            | (go_at_call 16; (with_reducible refine (PX.out _).mono ?_); rintro e w' ⟨rfl, rfl⟩))
          go_ret
          exact ⟨rfl, ((Onl.of B.out).trans (Onl.set g _ 0 _)).trans (Onl.set g _ 1 _), _, (HW.out.set0 _).set1 _, fun h => absurd h (by decide)⟩
      · rw [decide_eq_false (show ¬ (16 ≤ (x : Int) ∧ (x : Int) ≤ 16384) by omega)] at PX
        rw [if_neg (by omega)]
        clear k0 k1 k2
        go_enter Try.func20, Try.ntmps20
        go_wp2_with (first
          | (go_at_call 32; (with_reducible refine HF.out.mono ?_); rintro e w1 ⟨rfl, hb⟩; have B := Lib.hid hb; have HW := Lib.hid (HX.out.bel hb); obtain ⟨c0, c1, c2, c3, c4, c5, c6⟩ := (HX.out.bel hb).cells; obtain ⟨r0, r1, r2, r3, r4, r5, r6⟩ := (HX.out.bel hb).frs; clear hb)
          | (go_at_call 33; (with_reducible refine (P18.out _).mono ?_); rintro e w' ⟨rfl, rfl⟩)
          | (go_at_call 33; (with_reducible refine (P50.out _).mono ?_); rintro e w' ⟨rfl, rfl⟩)
          | (go_at_call 33; (with_reducible refine (P52.out _).mono ?_); rintro e w' ⟨rfl, rfl⟩)
          | (go_at_call 34; (with_reducible refine (PB.out _).mono ?_); rintro e w' ⟨rfl, rfl⟩)
          | (go_at_call 35; (with_reducible refine (PM.out _).mono ?_); rintro e w' ⟨rfl, rfl⟩)
          | (go_at_call 16; (with_reducible refine (PX.out _).mono ?_); rintro e w' ⟨rfl, rfl⟩))
        go_ret
        exact ⟨rfl, ((Onl.of B.out).trans (Onl.set g _ 0 _)).trans (Onl.set g _ 1 _), _, (HW.out.set0 _).set1 _, fun h => absurd h (by decide)⟩
    · rw [decide_eq_false k1] at PM
      rw [if_neg (by omega)]
      clear k0 k1
      go_enter Try.func20, Try.ntmps20
      go_wp2_with (first
        | (go_at_call 32; (with_reducible refine HF.out.mono ?_); rintro e w1 ⟨rfl, hb⟩; have B := Lib.hid hb; have HW := Lib.hid (HX.out.bel hb); obtain ⟨c0, c1, c2, c3, c4, c5, c6⟩ := (HX.out.bel hb).cells; obtain ⟨r0, r1, r2, r3, r4, r5, r6⟩ := (HX.out.bel hb).frs; clear hb)
        | (go_at_call 33; (with_reducible refine (P18.out _).mono ?_); rintro e w' ⟨rfl, rfl⟩)
        | (go_at_call 33; (with_reducible refine (P50.out _).mono ?_); rintro e w' ⟨rfl, rfl⟩)
        | (go_at_call 33; (with_reducible refine (P52.out _).mono ?_); rintro e w' ⟨rfl, rfl⟩)
        | (go_at_call 34; (with_reducible refine (PB.out _).mono ?_); rintro e w' ⟨rfl, rfl⟩)
        | (go_at_call 35; (with_reducible refine (PM.out _).mono ?_); rintro e w' ⟨rfl, rfl⟩)
        | (go_at_call 16; (with_reducible refine (PX.out _).mono ?_); rintro e w' ⟨rfl, rfl⟩))
      go_ret
      exact ⟨rfl, ((Onl.of B.out).trans (Onl.set g _ 0 _)).trans (Onl.set g _ 1 _), _, (HW.out.set0 _).set1 _, fun h => absurd h (by decide)⟩
  · rw [decide_eq_false k0] at PB
    rw [if_neg (by omega)]
    clear k0
    go_enter Try.func20, Try.ntmps20
    go_wp2_with (first
      | (go_at_call 32; (with_reducible refine HF.out.mono ?_); rintro e w1 ⟨rfl, hb⟩; have B := Lib.hid hb; have HW := Lib.hid (HX.out.bel hb); obtain ⟨c0, c1, c2, c3, c4, c5, c6⟩ := (HX.out.bel hb).cells; obtain ⟨r0, r1, r2, r3, r4, r5, r6⟩ := (HX.out.bel hb).frs; clear hb)
      | (go_at_call 33; (with_reducible refine (P18.out _).mono ?_); rintro e w' ⟨rfl, rfl⟩)
      | (go_at_call 33; (with_reducible refine (P50.out _).mono ?_); rintro e w' ⟨rfl, rfl⟩)
      | (go_at_call 33; (with_reducible refine (P52.out _).mono ?_); rintro e w' ⟨rfl, rfl⟩)
      | (go_at_call 34; (with_reducible refine (PB.out _).mono ?_); rintro e w' ⟨rfl, rfl⟩)
      | (go_at_call 35; (with_reducible refine (PM.out _).mono ?_); rintro e w' ⟨rfl, rfl⟩)
      | (go_at_call 16; (with_reducible refine (PX.out _).mono ?_); rintro e w' ⟨rfl, rfl⟩))
    go_ret
    exact ⟨rfl, ((Onl.of B.out).trans (Onl.set g _ 0 _)).trans (Onl.set g _ 1 _), _, (HW.out.set0 _).set1 _, fun h => absurd h (by decide)⟩
end Go.Proofs.Ytphnapnmeidgkaa
