/- Proved here: what mayEm, mayMetrics, signed and short answer, and the three readers of head, maxp and hhea. Condition: a list of tables that lies in memory, of bytes of at most a million each; what is read lies in a block of its own. -/
import Derived.Test.YtphnapnmeidgkaaHb
namespace Go.Proofs.Ytphnapnmeidgkaa
open Go.RowKit

set_option maxHeartbeats 2000000 in
theorem mayEm_any (n : Int) (w : World) : Calls Try.prog 16 #[.int .i64 n] w fun e w' => e = .returned (.bool (decide (16 ≤ n ∧ n ≤ 16384))) ∧ w = w' := by
  by_cases k1 : 16 ≤ n
  · have d1 : decide (16 ≤ n) = true := decide_eq_true k1
    by_cases k2 : n ≤ 16384
    · have d2 : decide (n ≤ 16384) = true := decide_eq_true k2
      rw [decide_eq_true (And.intro k1 k2)]
      clear k1 k2
      go_enter Try.func16, Try.ntmps16
      go_wp2_with fail
      go_ret
      exact ⟨rfl, rfl⟩
    · have d2 : decide (n ≤ 16384) = false := decide_eq_false k2
      rw [decide_eq_false (fun h => k2 h.2)]
      clear k1 k2
      go_enter Try.func16, Try.ntmps16
      go_wp2_with fail
      go_ret
      exact ⟨rfl, rfl⟩
  · have d1 : decide (16 ≤ n) = false := decide_eq_false k1
    rw [decide_eq_false (fun h => k1 h.1)]
    clear k1
    go_enter Try.func16, Try.ntmps16
    go_wp2_with fail
    go_ret
    exact ⟨rfl, rfl⟩
set_option maxHeartbeats 2000000 in
theorem signed_any (n : Int) (w : World) : Calls Try.prog 18 #[.int .i64 n] w fun e w' => e = .returned (.bool (decide (-32768 ≤ n ∧ n ≤ 32767))) ∧ w = w' := by
  by_cases k1 : -32768 ≤ n
  · have d1 : decide (-32768 ≤ n) = true := decide_eq_true k1
    by_cases k2 : n ≤ 32767
    · have d2 : decide (n ≤ 32767) = true := decide_eq_true k2
      rw [decide_eq_true (And.intro k1 k2)]
      clear k1 k2
      go_enter Try.func18, Try.ntmps18
      go_wp2_with fail
      go_ret
      exact ⟨rfl, rfl⟩
    · have d2 : decide (n ≤ 32767) = false := decide_eq_false k2
      rw [decide_eq_false (fun h => k2 h.2)]
      clear k1 k2
      go_enter Try.func18, Try.ntmps18
      go_wp2_with fail
      go_ret
      exact ⟨rfl, rfl⟩
  · have d1 : decide (-32768 ≤ n) = false := decide_eq_false k1
    rw [decide_eq_false (fun h => k1 h.1)]
    clear k1
    go_enter Try.func18, Try.ntmps18
    go_wp2_with fail
    go_ret
    exact ⟨rfl, rfl⟩
set_option maxHeartbeats 2000000 in
theorem short_any (n : Int) (w : World) : Calls Try.prog 19 #[.int .i64 n] w fun e w' => e = .returned (.bool (decide (-32768 ≤ n ∧ n ≤ 32767))) ∧ w = w' := by
  by_cases k1 : -32768 ≤ n
  · have d1 : decide (-32768 ≤ n) = true := decide_eq_true k1
    by_cases k2 : n ≤ 32767
    · have d2 : decide (n ≤ 32767) = true := decide_eq_true k2
      rw [decide_eq_true (And.intro k1 k2)]
      clear k1 k2
      go_enter Try.func19, Try.ntmps19
      go_wp2_with fail
      go_ret
      exact ⟨rfl, rfl⟩
    · have d2 : decide (n ≤ 32767) = false := decide_eq_false k2
      rw [decide_eq_false (fun h => k2 h.2)]
      clear k1 k2
      go_enter Try.func19, Try.ntmps19
      go_wp2_with fail
      go_ret
      exact ⟨rfl, rfl⟩
  · have d1 : decide (-32768 ≤ n) = false := decide_eq_false k1
    rw [decide_eq_false (fun h => k1 h.1)]
    clear k1
    go_enter Try.func19, Try.ntmps19
    go_wp2_with fail
    go_ret
    exact ⟨rfl, rfl⟩
set_option maxHeartbeats 2000000 in
theorem mayMet_any (em : Int) (lg : Bool) (gl me a1 a2 a3 : Int) (w : World) : Calls Try.prog 17 #[.agg #[.int .i64 em, .bool lg, .int .i64 gl, .int .i64 me, .int .i64 a1, .int .i64 a2, .int .i64 a3]] w fun e w' => e = .returned (.bool (decide (1 ≤ me ∧ me ≤ gl))) ∧ Below w.heap.size w w' := by
  by_cases k1 : 1 ≤ me
  · have d1 : decide (1 ≤ me) = true := decide_eq_true k1
    by_cases k2 : me ≤ gl
    · have d2 : decide (me ≤ gl) = true := decide_eq_true k2
      rw [decide_eq_true (And.intro k1 k2)]
      clear k1 k2
      go_enter Try.func17, Try.ntmps17
      go_wp2_with fail
      go_ret
      exact ⟨rfl, (Below.refl _ _).alloc (Nat.le_refl _) _⟩
    · have d2 : decide (me ≤ gl) = false := decide_eq_false k2
      rw [decide_eq_false (fun h => k2 h.2)]
      clear k1 k2
      go_enter Try.func17, Try.ntmps17
      go_wp2_with fail
      go_ret
      exact ⟨rfl, (Below.refl _ _).alloc (Nat.le_refl _) _⟩
  · have d1 : decide (1 ≤ me) = false := decide_eq_false k1
    rw [decide_eq_false (fun h => k1 h.1)]
    clear k1
    go_enter Try.func17, Try.ntmps17
    go_wp2_with fail
    go_ret
    exact ⟨rfl, (Below.refl _ _).alloc (Nat.le_refl _) _⟩
theorem rdHead_no (A : Option Addr) (m c : Nat) (L : List (List UInt8 × List UInt8)) (g : Nat) (h : Hd) (w : World) (hT : Tl w A m L) (hm : m ≤ 1000000) (hd : ∀ i, i < m → (dt L i).length ≤ 1000000) (hX : HB w g h) (hE : fdE L tHead 54 ≠ 0) :
    Calls Try.prog 20 #[.slice A m c, .pointer (some ⟨g, 0, none⟩)] w fun e w' => e = .returned (.int .i64 (fdE L tHead 54 : Int)) ∧ Onl g w w' ∧ HB w' g h := by
  have hf := fd_any A m c L tHead 54 54 rfl w hT hm hd
  obtain ⟨E, hE1⟩ : ∃ E, E = fdE L tHead 54 := ⟨_, rfl⟩
  obtain ⟨D, hD⟩ : ∃ D : ByteArray, D = ⟨(fdL L tHead 54).toArray⟩ := ⟨_, rfl⟩
  rw [← hE1] at hf hE ⊢
  rw [← hD] at hf
  have e0 : ((E : Int) != 0) = true := by simp; omega
  have HF := Lib.hid hf
  have HX := Lib.hid hX
  clear hT hm hd hX hE hE1 hD hf
  go_enter Try.func20, Try.ntmps20
  go_wp2_with (go_at_call 32; (with_reducible refine HF.out.mono ?_); rintro e w1 ⟨rfl, hb⟩; have B := Lib.hid hb; have HW := Lib.hid (HX.out.bel hb); clear hb)
  go_ret
  exact ⟨rfl, Onl.of B.out, HW.out⟩
theorem rdMaxp_no (A : Option Addr) (m c : Nat) (L : List (List UInt8 × List UInt8)) (g : Nat) (h : Hd) (w : World) (hT : Tl w A m L) (hm : m ≤ 1000000) (hd : ∀ i, i < m → (dt L i).length ≤ 1000000) (hX : HB w g h) (hE : fdE L tMaxp 32 ≠ 0) :
    Calls Try.prog 21 #[.slice A m c, .pointer (some ⟨g, 0, none⟩)] w fun e w' => e = .returned (.int .i64 (fdE L tMaxp 32 : Int)) ∧ Onl g w w' ∧ HB w' g h := by
  have hf := fd_any A m c L tMaxp 32 32 rfl w hT hm hd
  obtain ⟨E, hE1⟩ : ∃ E, E = fdE L tMaxp 32 := ⟨_, rfl⟩
  obtain ⟨D, hD⟩ : ∃ D : ByteArray, D = ⟨(fdL L tMaxp 32).toArray⟩ := ⟨_, rfl⟩
  rw [← hE1] at hf hE ⊢
  rw [← hD] at hf
  have e0 : ((E : Int) != 0) = true := by simp; omega
  have HF := Lib.hid hf
  have HX := Lib.hid hX
  clear hT hm hd hX hE hE1 hD hf
  go_enter Try.func21, Try.ntmps21
  go_wp2_with (go_at_call 32; (with_reducible refine HF.out.mono ?_); rintro e w1 ⟨rfl, hb⟩; have B := Lib.hid hb; have HW := Lib.hid (HX.out.bel hb); clear hb)
  go_ret
  exact ⟨rfl, Onl.of B.out, HW.out⟩
theorem rdHhea_no (A : Option Addr) (m c : Nat) (L : List (List UInt8 × List UInt8)) (g : Nat) (h : Hd) (w : World) (hT : Tl w A m L) (hm : m ≤ 1000000) (hd : ∀ i, i < m → (dt L i).length ≤ 1000000) (hX : HB w g h) (hE : fdE L tHhea 36 ≠ 0) :
    Calls Try.prog 22 #[.slice A m c, .pointer (some ⟨g, 0, none⟩)] w fun e w' => e = .returned (.int .i64 (fdE L tHhea 36 : Int)) ∧ Onl g w w' ∧ HB w' g h := by
  have hf := fd_any A m c L tHhea 36 36 rfl w hT hm hd
  obtain ⟨E, hE1⟩ : ∃ E, E = fdE L tHhea 36 := ⟨_, rfl⟩
  obtain ⟨D, hD⟩ : ∃ D : ByteArray, D = ⟨(fdL L tHhea 36).toArray⟩ := ⟨_, rfl⟩
  rw [← hE1] at hf hE ⊢
  rw [← hD] at hf
  have e0 : ((E : Int) != 0) = true := by simp; omega
  have HF := Lib.hid hf
  have HX := Lib.hid hX
  clear hT hm hd hX hE hE1 hD hf
  go_enter Try.func22, Try.ntmps22
  go_wp2_with (go_at_call 32; (with_reducible refine HF.out.mono ?_); rintro e w1 ⟨rfl, hb⟩; have B := Lib.hid hb; have HW := Lib.hid (HX.out.bel hb); clear hb)
  go_ret
  exact ⟨rfl, Onl.of B.out, HW.out⟩
end Go.Proofs.Ytphnapnmeidgkaa
