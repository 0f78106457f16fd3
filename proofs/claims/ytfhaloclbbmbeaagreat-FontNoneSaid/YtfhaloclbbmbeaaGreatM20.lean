/- Proved here: the bytes of a part of 12, in the program. Condition: runs of codes and glyphs that are below 2^32 · the four numbers that tell how many segments there are, in the program, and the greatest power of 2, in the document. Condition: 1 up to 8192 segments · what WriteString does, and in which block a builder's row lies behind it. Condition: fewer than 2^47 bytes. -/
import Derived.Test.YtfhaloclbbmbeaaGreatM19
namespace Go.Proofs.YtfhaloclbbmbeaaGreat
open Go.RowKit
def fits32 (R : List (Int × Int × Int)) : Prop := ∀ i, i < R.length → (0 ≤ rF R i ∧ rF R i < 4294967296) ∧ (0 ≤ rT R i ∧ rT R i < 4294967296) ∧ (0 ≤ rG R i ∧ rG R i < 4294967296)
theorem p32_txt (n : Nat) (h : n < 4294967296) : ∃ D : ByteArray, D.size = 4 ∧ D = ⟨(byt 4 n).toArray⟩ ∧ ∀ W, Calls Tryz.prog 91 #[.int .u32 (n : Int)] W fun ee w' => ee = .returned (.string D) ∧ Below W.heap.size W w' :=
  ⟨⟨(byt 4 n).toArray⟩, by show (byt 4 n).toArray.size = 4; rw [List.size_toArray, byt_len], rfl, fun W => p32_any n W h⟩
theorem p16_txt (n : Nat) (h : n < 65536) : ∃ D : ByteArray, D.size = 2 ∧ D = ⟨(byt 2 n).toArray⟩ ∧ ∀ W, Calls Tryz.prog 102 #[.int .u16 (n : Int)] W fun ee w' => ee = .returned (.string D) ∧ Below W.heap.size W w' :=
  ⟨⟨(byt 2 n).toArray⟩, by show (byt 2 n).toArray.size = 2; rw [List.size_toArray, byt_len], rfl, fun W => p16_any n W h⟩
namespace N12
set_option maxHeartbeats 4000000 in
set_option maxRecDepth 100000 in
theorem makeLong_any (A : Option Addr) (m c : Nat) (R : List (Int × Int × Int)) (w : World) (hI : Rl w A m R) (hm : m ≤ 10000) (hf : fits32 R) :
    Calls Tryz.prog 177 #[.slice A m c] w fun e w' => e = .returned (.string ⟨(lnB R).toArray⟩) ∧ Below w.heap.size w w' := by
  have hlen := hI.len
  obtain ⟨D1, s1, hD1, hc1⟩ := p32_txt 786432 (by decide)
  obtain ⟨D2, s2, hD2, hc2⟩ := p32_txt (16 + 12 * m) (by omega)
  obtain ⟨D3, s3, hD3, hc3⟩ := p32_txt 0 (by decide)
  obtain ⟨D4, s4, hD4, hc4⟩ := p32_txt m (by omega)
  have C1 := Lib.hid (show ∀ W, Calls Tryz.prog 91 #[.int .u32 786432] W fun ee w' => ee = .returned (.string D1) ∧ Below W.heap.size W w' from hc1)
  have C3 := Lib.hid (show ∀ W, Calls Tryz.prog 91 #[.int .u32 0] W fun ee w' => ee = .returned (.string D3) ∧ Below W.heap.size W w' from hc3)
  have C4 := Lib.hid hc4
  obtain ⟨N, hN⟩ : ∃ N, N = 16 + 12 * m := ⟨_, rfl⟩
  rw [← hN] at hc2 hD2
  have C2 := Lib.hid hc2
  have e1 : IntKind.i64.wrap (12 * (m : Int)) = 12 * (m : Int) := i64_in _ (by omega)
  have e2 : IntKind.i64.wrap (16 + 12 * (m : Int)) = (N : Int) := by rw [i64_in _ (by omega)]; omega
  have e3 : IntKind.u32.wrap (N : Int) = (N : Int) := wrap_u32n N (by omega)
  have e4 : IntKind.u32.wrap (m : Int) = (m : Int) := wrap_u32n m (by omega)
  have l1 : ¬ 9223372036854775807 < D1.size + D2.size := by omega
  have l2 : ¬ 9223372036854775807 < D1.size + D2.size + D3.size := by omega
  have l3 : ¬ 9223372036854775807 < D1.size + D2.size + D3.size + D4.size := by omega
  obtain ⟨DH, hDH⟩ : ∃ D : ByteArray, D = D1 ++ D2 ++ D3 ++ D4 := ⟨_, rfl⟩
  have HDH := Lib.hid (show D1 ++ D2 ++ D3 ++ D4 = DH from hDH.symm)
  have HH := Lib.hid (show DH.data.toList = hdB R.length by rw [hDH, hD1, hD2, hD3, hD4, app_txt, app_txt, app_txt, hlen, hN]; rfl)
  have HHs := Lib.hid (show DH.size = 16 by rw [hDH]; simp; omega)
  have HX := Lib.hid hI
  have HF := Lib.hid (show ∀ k, k < m → ∃ x y z : Nat, rF R k = (x : Int) ∧ rT R k = (y : Int) ∧ rG R k = (z : Int) ∧ x < 4294967296 ∧ y < 4294967296 ∧ z < 4294967296 ∧ grB (rF R k, rT R k, rG R k) = byt 4 x ++ byt 4 y ++ byt 4 z from fun k hk => by
    obtain ⟨h1, h2, h3⟩ := hf k (by omega)
    exact ⟨(rF R k).toNat, (rT R k).toNat, (rG R k).toNat, by omega, by omega, by omega, by omega, by omega, by omega, rfl⟩)
  have HT := Lib.hid (fun k (hk : k < m) => grsB_take (R := R) (k := k) (by omega))
  have HE := Lib.hid (show ∀ l, l = hdB R.length ++ grsB (R.take m) → l = lnB R from fun l hl => by rw [hl, ← hlen, List.take_length]; rfl)
  have HL := Lib.hid (fun k (hk : k ≤ m) => show (grsB (R.take k)).length = 12 * k by rw [grsB_len, List.length_take]; omega)
  have H0 := Lib.hid (show grsB (R.take 0) = [] from rfl)
  have hM := MkH.new w
  clear hI hf hlen hD1 hD2 hD3 hD4 hc1 hc2 hc3 hc4 hDH s1 s2 s3 s4 hN
  go_enter Tryz.func177, Tryz.ntmps177
  go_upto_region 2 with fail
  obtain ⟨b, hb⟩ : ∃ b, b = w.heap.size := ⟨_, rfl⟩
  obtain ⟨W0, hW0⟩ : ∃ W, W = w.alloc (.cells #[.pointer none, .slice none 0 0] 173) := ⟨_, rfl⟩
  rw [← hW0] at hM ⊢
  rw [← hb] at hM ⊢
  have HM := Lib.hid hM
  clear hM hb hW0
  go_upto_region 3 with (first
    | (go_at_call 91; (with_reducible refine (C1.out _).mono ?_); rintro e w1 ⟨rfl, hb⟩; have HM := Lib.hid (HM.out.next hb); clear hb)
    | (go_at_call 91; (with_reducible refine (C2.out _).mono ?_); rintro e w1 ⟨rfl, hb⟩; have HM := Lib.hid (HM.out.next hb); clear hb)
    | (go_at_call 91; (with_reducible refine (C3.out _).mono ?_); rintro e w1 ⟨rfl, hb⟩; have HM := Lib.hid (HM.out.next hb); clear hb)
    | (go_at_call 91; (with_reducible refine (C4.out _).mono ?_); rintro e w1 ⟨rfl, hb⟩; have HM := Lib.hid (HM.out.next hb); clear hb)
    | (go_at_call 97; (with_reducible refine (ws_any _ _ _ _ _ HM.out.bld (by rw [HDH.out, HHs.out]; simp) HM.out.le).mono ?_); rintro e w5 ⟨rfl, h1, h2, _⟩; have HM5 := Lib.hid (HM.out.wrote h1 h2); clear h1 h2))
  have HM6 := Lib.hid (show MkH w w5 b (hdB R.length ++ grsB (R.take 0)) by have h := HM5.out; rw [HDH.out, HH.out] at h; rw [H0.out, List.append_nil]; exact h)
  clear HM5 HM C1 C2 C3 C4 l1 l2 l3 e1 e2 e3 e4
  go_wp2_with fail
  go_loopw [24] (fun i wr => ∃ k : Nat, i = .int .i64 (k : Int) ∧ k ≤ m ∧ MkH w wr b (hdB R.length ++ grsB (R.take k))) (fun i _ => m - (intOf i).toNat)
  case atStart => exact ⟨0, rfl, Nat.zero_le _, HM6.out⟩
  case round =>
    obtain ⟨k, rfl, hk, hS⟩ := hrel
    have HS := Lib.hid hS
    by_cases hgo : k < m
    · obtain ⟨a, rfl, c0, c1, c2⟩ := HX.out.at_ hS.bel hgo
      obtain ⟨x, y, z, hx, hy, hz, bx, by', bz, hg⟩ := HF.out k hgo
      have HNX := Lib.hid (HT.out k hgo)
      rw [hg] at HNX
      rw [hx] at c0
      rw [hy] at c1
      rw [hz] at c2
      obtain ⟨E1, s1, hE1, hc1⟩ := p32_txt x bx
      obtain ⟨E2, s2, hE2, hc2⟩ := p32_txt y by'
      obtain ⟨E3, s3, hE3, hc3⟩ := p32_txt z bz
      have e1 : IntKind.u32.wrap (x : Int) = (x : Int) := wrap_u32n x bx
      have e2 : IntKind.u32.wrap (y : Int) = (y : Int) := wrap_u32n y by'
      have e3 : IntKind.u32.wrap (z : Int) = (z : Int) := wrap_u32n z bz
      have C1 := Lib.hid hc1
      have C2 := Lib.hid hc2
      have C3 := Lib.hid hc3
      have l1 : ¬ 9223372036854775807 < E1.size + E2.size := by omega
      have l2 : ¬ 9223372036854775807 < E1.size + E2.size + E3.size := by omega
      have HE3 := Lib.hid (show (E1 ++ E2 ++ E3).data.toList = byt 4 x ++ byt 4 y ++ byt 4 z by rw [hE1, hE2, hE3, app_txt, app_txt])
      have HE3s := Lib.hid (show (E1 ++ E2 ++ E3).size = 12 by simp; omega)
      have HLk := Lib.hid (show (hdB R.length ++ grsB (R.take k)).length + 12 ≤ 100000000 by rw [List.length_append, hdB_len, HL.out k hk]; omega)
      obtain ⟨l, hl⟩ : ∃ l, l = hdB R.length ++ grsB (R.take k) := ⟨_, rfl⟩
      have HN2 := Lib.hid (show hdB R.length ++ grsB (R.take (k + 1)) = l ++ (E1 ++ E2 ++ E3).data.toList by rw [HNX.out, HE3.out, hl]; simp only [List.append_assoc])
      rw [← hl] at HS HLk
      clear hS hx hy hz hg hE1 hE2 hE3 hc1 hc2 hc3 s1 s2 s3 hl bx by' bz HNX HE3
      go_upto_region 6 with fail
      have HS1 := Lib.hid (HS.out.start (x : Int) (y : Int) (z : Int))
      obtain ⟨g, hg⟩ : ∃ g, g = wr.heap.size := ⟨_, rfl⟩
      obtain ⟨W1, hW1⟩ : ∃ W, W = wr.alloc (.cells #[.int .i64 (x : Int), .int .i64 (y : Int), .int .i64 (z : Int)] 296) := ⟨_, rfl⟩
      rw [← hg, ← hW1] at HS1 ⊢
      clear hg hW1 c0 c1 c2
      obtain ⟨f0, f1, f2⟩ := HS1.out.all
      go_region_held3 (fun w' => w'.cell? ⟨g, 0, none⟩ = some (.int .i64 (x : Int)) ∧ w'.cell? ⟨g, 1, none⟩ = some (.int .i64 (y : Int)) ∧ w'.cell? ⟨g, 2, none⟩ = some (.int .i64 (z : Int)))
        (first | with_reducible exact HS1.out.all | go_keep)
        (first
          | (go_at_call 91; (with_reducible refine (C1.out _).mono ?_); rintro e w6 ⟨rfl, hb⟩; (first | have HS1 := Lib.hid (HS1.out.next hb) | have HS1 := Lib.hid (HS1.out.drew.next hb)); clear hb)
          | (go_at_call 91; (with_reducible refine (C2.out _).mono ?_); rintro e w6 ⟨rfl, hb⟩; (first | have HS1 := Lib.hid (HS1.out.next hb) | have HS1 := Lib.hid (HS1.out.drew.next hb)); clear hb)
          | (go_at_call 91; (with_reducible refine (C3.out _).mono ?_); rintro e w6 ⟨rfl, hb⟩; (first | have HS1 := Lib.hid (HS1.out.next hb) | have HS1 := Lib.hid (HS1.out.drew.next hb)); clear hb)
          | (go_at_call 97; (with_reducible refine (ws_any _ _ _ _ _ HS1.out.bld (by rw [HE3s.out]; exact HLk.out) HS1.out.hbW).mono ?_); rintro e w9 ⟨rfl, h1, h2, h3⟩; have HS1 := Lib.hid (HS1.out.wrote h1 h2 h3); clear h1 h2 h3))
      go_wp2_with fail
      exact ⟨⟨k + 1, by simp, by omega, by rw [HN2.out]; exact HS1.out.head⟩, by simp [intOf]; omega⟩
    · obtain rfl : k = m := by omega
      have HEE := Lib.hid (HE.out _ rfl)
      obtain ⟨l, hl⟩ : ∃ l, l = hdB R.length ++ grsB (R.take k) := ⟨_, rfl⟩
      rw [← hl] at HS HEE
      clear hS hl
      go_wp2_with (go_at_call 100; (with_reducible refine (str_any _ _ _ _ HS.out.bld HS.out.le).mono ?_); rintro e w8 ⟨rfl, hb⟩; have HB8 := Lib.hid (HS.out.bel.trans (hb.mono HS.out.hb)); clear hb)
      go_ret
      exact ⟨by rw [HEE.out]; rfl, HB8.out⟩
end N12
end Go.Proofs.YtfhaloclbbmbeaaGreat
namespace Go.Proofs.YtfhaloclbbmbeaaGreat
open Go.RowKit
def cntB (n : Nat) : List UInt8 := byt 2 (2 * n) ++ byt 2 (2 * 2 ^ pw n) ++ byt 2 (pw n) ++ byt 2 (2 * n - 2 * 2 ^ pw n)
theorem cntB_len (n : Nat) : (cntB n).length = 8 := by simp [cntB, byt_len]
theorem pw_two {n : Nat} (h0 : 0 < n) : 2 ^ pw n ≤ n ∧ n < 2 ^ (pw n + 1) := by
  have h := (Nat.log2_eq_iff (k := Nat.log2 n) (by omega)).1 rfl
  exact ⟨h.1, h.2⟩
theorem pw_le {n : Nat} (h0 : 0 < n) (h : n ≤ 8192) : pw n ≤ 13 := by
  have h1 := pw_two h0
  rcases Nat.lt_or_ge 13 (pw n) with h2 | h2
  · have : 2 ^ 14 ≤ 2 ^ pw n := Nat.pow_le_pow_right (by decide) h2
    omega
  · exact h2
theorem aux_log : ∀ (f x : Nat), 0 < x → x < 2 ^ f → Lib.bitLenAux f x = Nat.log2 x + 1
  | 0, x, h0, h => by simp at h; omega
  | f + 1, x, h0, h => by
    simp only [Lib.bitLenAux]
    rw [if_neg (by omega)]
    rcases Nat.lt_or_ge x 2 with h2 | h2
    · have hx : x = 1 := by omega
      subst hx
      have : Lib.bitLenAux f (1 / 2) = 0 := by cases f <;> rfl
      rw [this]
      decide
    · have ih := aux_log f (x / 2) (by omega) (by rw [Nat.pow_succ] at h; omega)
      rw [ih]
      rw [Nat.log2_def x, if_pos h2]
      omega
namespace N12
theorem bits_log {n : Nat} (h0 : 0 < n) (h : n ≤ 8192) : Lib.bitLen n = pw n + 1 := aux_log 64 n h0 (by omega)
end N12
theorem pow_lits : ∀ p, p ≤ 13 → 2 ^ p = 1 ∧ p = 0 ∨ 2 ^ p = 2 ∧ p = 1 ∨ 2 ^ p = 4 ∧ p = 2 ∨ 2 ^ p = 8 ∧ p = 3 ∨ 2 ^ p = 16 ∧ p = 4 ∨ 2 ^ p = 32 ∧ p = 5 ∨ 2 ^ p = 64 ∧ p = 6 ∨ 2 ^ p = 128 ∧ p = 7 ∨ 2 ^ p = 256 ∧ p = 8 ∨ 2 ^ p = 512 ∧ p = 9 ∨ 2 ^ p = 1024 ∧ p = 10 ∨ 2 ^ p = 2048 ∧ p = 11 ∨ 2 ^ p = 4096 ∧ p = 12 ∨ 2 ^ p = 8192 ∧ p = 13 := by decide
namespace N12
set_option maxHeartbeats 2000000 in
theorem counts_any (n : Nat) (w : World) (h0 : 0 < n) (h : n ≤ 8192) : Calls Tryz.prog 236 #[.int .i64 (n : Int)] w fun e w' => e = .returned (.string ⟨(cntB n).toArray⟩) ∧ Below w.heap.size w w' := by
  have hbl := bits_log h0 h
  have hp13 := pw_le h0 h
  obtain ⟨hp1, hp2⟩ := pw_two h0
  unfold cntB
  obtain ⟨p, hp⟩ : ∃ p, p = pw n := ⟨_, rfl⟩
  rw [← hp] at hbl hp13 hp1 hp2 ⊢
  have hlen := fun W => Tryz.bits_Len (n : Int) W (by omega) (by omega)
  rw [Int.toNat_natCast, hbl] at hlen
  have hsh := pow_lits p hp13
  obtain ⟨m, hm⟩ : ∃ m, m = 2 ^ p := ⟨_, rfl⟩
  rw [← hm] at hp1 hsh ⊢
  obtain ⟨d, hd⟩ : ∃ d, d = 2 * n := ⟨_, rfl⟩
  obtain ⟨r, hr⟩ : ∃ r, r = 2 * n - 2 * m := ⟨_, rfl⟩
  obtain ⟨q, hq⟩ : ∃ q, q = 2 * m := ⟨_, rfl⟩
  rw [← hr, ← hd, ← hq]
  obtain ⟨X1, z1, h1, c1⟩ := p16_txt d (by omega)
  obtain ⟨X2, z2, h2, c2⟩ := p16_txt q (by omega)
  obtain ⟨X3, z3, h3, c3⟩ := p16_txt p (by omega)
  obtain ⟨X4, z4, h4, c4⟩ := p16_txt r (by omega)
  have l1 : ¬ 9223372036854775807 < X1.size + X2.size := by omega
  have l2 : ¬ 9223372036854775807 < X1.size + X2.size + X3.size := by omega
  have l3 : ¬ 9223372036854775807 < X1.size + X2.size + X3.size + X4.size := by omega
  have hfin : X1 ++ X2 ++ X3 ++ X4 = ⟨(byt 2 d ++ byt 2 q ++ byt 2 p ++ byt 2 r).toArray⟩ := by rw [h1, h2, h3, h4, app_four]
  rw [← hfin]
  have P1 := Lib.hid c1
  have P2 := Lib.hid c2
  have P3 := Lib.hid c3
  have P4 := Lib.hid c4
  have w0 : IntKind.u64.wrap (n : Int) = (n : Int) := by rw [IntKind.wrap_u64]; omega
  have w1 : IntKind.u16.wrap (d : Int) = (d : Int) := wrap_u16n d (by omega)
  have w2 : IntKind.u16.wrap (q : Int) = (q : Int) := wrap_u16n q (by omega)
  have w3 : IntKind.u16.wrap (p : Int) = (p : Int) := wrap_u16n p (by omega)
  have w4 : IntKind.u16.wrap (r : Int) = (r : Int) := wrap_u16n r (by omega)
  have e4 : IntKind.i64.wrap (2 * (n : Int)) = (d : Int) := by rw [i64_in _ (by omega)]; omega
  have e5 : IntKind.i64.wrap ((d : Int) - (q : Int)) = (r : Int) := by rw [i64_in _ (by omega)]; omega
  have e6 : IntKind.i64.wrap (((p + 1 : Nat) : Int) - 1) = (p : Int) := by rw [i64_in _ (by omega)]; omega
  have e7 : wrap64 (2 * 2 ^ p) = (q : Int) := by
    have e8 : (2 : Int) ^ p = (m : Int) := by rw [hm]; simp
    rw [e8]; unfold wrap64; omega
  have B0 := Lib.hid (Below.refl w.heap.size w)
  have HL := Lib.hid hlen
  clear hlen hbl hp2 hp h1 h2 h3 h4 c1 c2 c3 c4 z1 z2 z3 z4 hfin hr hp1 h0 h hd hm hq hsh
  go_enter Tryz.func236, Tryz.ntmps236
  go_upto_region 3 with (go_at_call 181; (with_reducible refine (HL.out _).mono ?_); rintro e w' ⟨rfl, rfl⟩)
  go_wp2_with (first
    | (go_at_call 102; (with_reducible refine (P1.out _).mono ?_); rintro e w1 ⟨rfl, hb⟩; have B1 := Lib.hid (B0.out.trans (hb.mono B0.out.size)); clear hb)
    | (go_at_call 102; (with_reducible refine (P2.out _).mono ?_); rintro e w2 ⟨rfl, hb⟩; have B2 := Lib.hid (B1.out.trans (hb.mono B1.out.size)); clear hb)
    | (go_at_call 102; (with_reducible refine (P3.out _).mono ?_); rintro e w3 ⟨rfl, hb⟩; have B3 := Lib.hid (B2.out.trans (hb.mono B2.out.size)); clear hb)
    | (go_at_call 102; (with_reducible refine (P4.out _).mono ?_); rintro e w4 ⟨rfl, hb⟩; have B4 := Lib.hid (B3.out.trans (hb.mono B3.out.size)); clear hb))
  go_ret
  exact ⟨rfl, B4.out⟩
end N12
end Go.Proofs.YtfhaloclbbmbeaaGreat
namespace Go.Proofs.YtfhaloclbbmbeaaGreat
open Go.RowKit
section
variable {P : Program} (w : World)
theorem run_str_at (base : Nat) (t u ty e : TypeId) (i : TypeInfo) (ht : P.underlying t = some (.slice e)) (hu : P.underlying u = some .string) (hi : P.info? e = some i) (hz : i.zero = some (.int .u8 0))
    (hsize : i.size = 1) (hby : i.bytes = 1) (v : Value) (n : Nat) (xs : List Value) (hown : w.ownsRow base e 1 v n xs) (s : ByteArray)
    (h63 : n + s.size ≤ maxLen) (hbytes : n + s.size ≤ 140737488355328) (hbase : base ≤ w.heap.size) :
    ∃ v' w', (Builtin.append_ #[t, u] ty #[v, .string s]).run P w = .ok v' w' ∧ w'.ownsRow base e 1 v' (n + s.size) (xs ++ Lib.strCells s) ∧ w.grownBy w' v.ownBlock ∧ (v'.ownBlock = v.ownBlock ∨ v'.ownBlock = some w.heap.size) := by
  obtain ⟨v', w', hr, h2, h3, h4⟩ := Lib.run_append_own_string (P := P) w base t u ty e i ht hu hi hz hsize hby v n xs hown s h63 hbytes hbase
  refine ⟨v', w', hr, h2, h3, ?_⟩
  have hsmall : n + s.size ≤ 9223372036854775807 := by simp only [maxLen] at h63; omega
  have hxl : xs.length = n := by simpa using hown.1
  rcases hown.2 with ⟨rfl, rfl⟩ | ⟨g, cap, cur, rfl, hbg, hg, hnc, hcm, hcs, htake⟩
  · by_cases hm : s.size = 0
    · left
      rw [h4.2 ⟨rfl, hm⟩]
    · right
      have hq := run_append_nil_string (P := P) w t u ty e i (.int .u8 0) ht hu hi hz s (by omega) (by omega) (by rw [hby]; omega)
      rw [hr] at hq
      injection hq with e1 _
      rw [e1]; rfl
  · by_cases hroom : n + s.size ≤ cap
    · left
      have hcs' : cur.size = cap := by simpa using hcs
      have hq := Lib.run_append_room_string (P := P) w t u ty e i ht hu hi hsize g n cap cur hg s hroom (by omega)
      rw [hr] at hq
      injection hq with e1 _
      rw [e1]; rfl
    · right
      have holds : ∀ j u, xs[j]? = some u → w.cell? ((⟨g, 0, none⟩ : Addr).add j) = some u := hown.cells (g := g) rfl
      have hq := Lib.run_append_grow_string (P := P) w t u ty e i (.int .u8 0) ht hu hi hz ⟨g, 0, none⟩ n cap xs (by rw [hsize]; simpa using hxl) holds s (by omega) (by omega) (by rw [hby]; exact growslice_fits (by omega) (by omega))
      rw [hr] at hq
      injection hq with e1 _
      rw [e1]; rfl
theorem wpList_str_at {ops : Array Oper} {rest : List Oper} {o : Oper} {a : Act} {Q : Exit → Act → World → Prop} (hgd : o.guard = none) (sl x : Operand) (t u : TypeId)
    (ho : o.op = .call { callee := .builtin .append, args := #[sl, x], argTypes := #[t, u] })
    (base : Nat) (e : TypeId) (i : TypeInfo) (ht : P.underlying t = some (.slice e)) (hu : P.underlying u = some .string) (hi : P.info? e = some i) (hz : i.zero = some (.int .u8 0))
    (hsize : i.size = 1) (hby : i.bytes = 1) (v : Value) (n : Nat) (xs : List Value) (hs : a.eval sl = v) (hown : w.ownsRow base e 1 v n xs) (s : ByteArray) (hx : a.eval x = .string s)
    (h63 : n + s.size ≤ maxLen) (hbytes : n + s.size ≤ 140737488355328) (hbase : base ≤ w.heap.size)
    (h : ∀ v' w', w'.ownsRow base e 1 v' (n + s.size) (xs ++ Lib.strCells s) → w.grownBy w' v.ownBlock → (v'.ownBlock = v.ownBlock ∨ v'.ownBlock = some w.heap.size) → wpList P ops Q rest (a.put o.dst v') w') : wpList P ops Q (o :: rest) a w := by
  refine wpList_plain hgd fun K hK => ?_
  obtain ⟨v', w', hr, h2, h3, h4⟩ := run_str_at (P := P) w base t u o.type e i ht hu hi hz hsize hby v n xs hown s h63 hbytes hbase
  unfold Oper.wp execOp
  simp only [ho, resolve, invoke, builtin, Sem.run_bind, Sem.run_pure, Result.andThen_ok, List.map_toArray, List.map_cons, List.map_nil, hs, hx, hr]
  exact hK _ _ (h v' w' h2 h3 h4)
end
def Bw (B b : Nat) (l : List UInt8) (r : Option Nat) (w : World) : Prop := Bld B b l w ∧ ∃ v, w.cell? ⟨b, 1, none⟩ = some v ∧ v.ownBlock = r
def Kr (b : Nat) (r : Option Nat) (w w' : World) : Prop := ∀ k, k < w.heap.size → k ≠ b → r ≠ some k → w'.heap[k]? = w.heap[k]?
set_option maxHeartbeats 2000000 in
set_option maxRecDepth 100000 in
theorem wsr_any (B b : Nat) (l : List UInt8) (r : Option Nat) (s : ByteArray) (w : World) (h : Bw B b l r w) (hlen : l.length + s.size ≤ 100000000) (hBw : B ≤ w.heap.size) :
    Calls Tryz.prog 97 #[.pointer (some ⟨b, 0, none⟩), .string s] w fun e w' => e = .returned (.tuple #[.int .i64 s.size, .nilIface]) ∧ (∃ r', Bw B b (l ++ s.data.toList) r' w' ∧ (r' = r ∨ ∃ k, r' = some k ∧ w.heap.size ≤ k)) ∧ Below B w w' ∧ Kr b r w w' := by
  obtain ⟨hb0, v0, hv0, hr0⟩ := h
  obtain ⟨i0, hi0, hz0, hz1, hz2⟩ := info_parts Tryz.info5
  have HI := Lib.hid (And.intro hi0 (And.intro hz0 (And.intro hz1 hz2)))
  obtain ⟨bs, hbs⟩ : ∃ bs, bs = Lib.byteCells l := ⟨_, rfl⟩
  have hln : bs.length = l.length := by rw [hbs, Lib.byteCells_length]
  have hbI : Lib.IsBuilder 173 5 B b bs w := by rw [hbs]; exact hb0
  have H := Lib.hid hbI
  have HF := Lib.hid (show ∀ w', Lib.IsBuilder 173 5 B b (bs ++ Lib.strCells s) w' → Bld B b (l ++ s.data.toList) w' from fun w' h => by unfold Bld; rw [Lib.byteCells_append, ← Lib.strCells_eq, ← hbs]; exact h)
  have HV := Lib.hid (And.intro hv0 hr0)
  have hl2 : bs.length + s.size ≤ 100000000 := by omega
  clear hb0 hv0 hr0 hi0 hz0 hz1 hz2 hbs hln hbI hlen
  go_enter Tryz.func97, Tryz.ntmps97
  go_wp2_with (first
    | (go_at_call 174; (with_reducible refine (check_in B b bs _ H.out).mono ?_); rintro e w1 ⟨A, c, rfl, hin, hb1, hck⟩; have HIN := Lib.hid hin; have HK := Lib.hid hck; clear hck; have HB := Lib.hid hb1; have q0 := hin.c0; have q1 := hin.c1; have hs1 := hb1.size; clear hin hb1)
    | (at_builtin; go_must (refine wpList_str_at _ rfl (.tmp 12) (.tmp 13) 166 9 rfl B 5 i0 Tryz.underlying166 Tryz.underlying9 HI.out.1 HI.out.2.1 HI.out.2.2.1 HI.out.2.2.2 (.slice A bs.length c) bs.length bs rfl HIN.out.own s rfl (by unfold maxLen; omega) (by omega) (by omega) ?_); intro v' w2 hown' hg' hat; obtain ⟨A', c', rfl⟩ := own_slice hown'; have hb2 := HIN.out.after hg'; have HN := Lib.hid (And.intro (HIN.out.put hb2 (bs' := bs ++ Lib.strCells s) (by simpa [Lib.strCells_length] using hown')) (And.intro ((HB.out.grown hg' (by omega) (fun k hk => (HIN.out.own.lt k hk).1)).setCell (p := ⟨b, 1, none⟩) HIN.out.hB (.slice A' (bs.length + s.size) c')) (HK.out.kept HIN.out.c1 hg' (.slice A' (bs.length + s.size) c')))); have HAT := Lib.hid hat; have g1 := HIN.out.g1 hb2; have g2 := HIN.out.g2 hb2; have HB2 := Lib.hid (hb2.trans HIN.out.blk); clear hb2 hg' hown' q0 q1 hs1 hat))
  go_ret2
  have hv : v0 = .slice A bs.length c := by
    have h1 := HIN.out.c1
    rw [HK.out.c1, HV.out.1] at h1
    injection h1
  have hr : (Value.slice A bs.length c).ownBlock = r := by rw [← hv]; exact HV.out.2
  refine ⟨rfl, ⟨_, ⟨HF.out _ HN.out.1, .slice A' (bs.length + s.size) c', ?_, rfl⟩, ?_⟩, HN.out.2.1, ?_⟩
  · have h3 : (w2.setCell ⟨b, 1, none⟩ (.slice A' (bs.length + s.size) c')).heap[b]? = some (.cells #[.pointer (some ⟨b, 0, none⟩), .slice A' (bs.length + s.size) c'] 173 (0, 0)) := by
      simp [World.setCell, Array.getElem?_modify, HB2.out]
    rw [cell_of_row _ b 1 _ 173 (0, 0) h3]
    rfl
  · rcases HAT.out with h1 | h1
    · exact .inl (h1.trans hr)
    · exact .inr ⟨_, h1, by rw [HK.out.size]; exact Nat.le_refl _⟩
  · intro k hk hkb hrk
    refine HN.out.2.2 k hk hkb fun v hv2 he => ?_
    rw [HV.out.1] at hv2
    injection hv2 with hv2
    subst hv2
    exact hrk (HV.out.2.symm.trans he)
theorem Bw.new (w : World) (B : Nat) (h : B ≤ w.heap.size) : Bw B w.heap.size [] none (w.alloc (.cells #[.pointer none, .slice none 0 0] 173)) :=
  ⟨.inl ⟨h, _, heap_alloc_new w _, World.ownsRow_nil _ _ _ _, by simp [Value.ownBlock]⟩, .slice none 0 0, by rw [cell_of_row _ _ 1 _ 173 (0, 0) (heap_alloc_new w _)]; rfl, rfl⟩
theorem Bw.blk {B b : Nat} {l : List UInt8} {r : Option Nat} {w : World} (h : Bw B b l r w) : ∃ p v, w.heap[b]? = some (.cells #[p, v] 173 (0, 0)) ∧ v.ownBlock = r ∧ w.ownsRow B 5 1 v (Lib.byteCells l).length (Lib.byteCells l) := by
  obtain ⟨h1, v, h2, h3⟩ := h
  obtain ⟨p, v', h4, h5⟩ := h1.blk
  rw [cell_of_row w b 1 _ 173 (0, 0) h4] at h2
  injection h2 with h2
  have h2 : v' = v := h2
  subst h2
  exact ⟨p, v', h4, h3, h5⟩
theorem Bw.lt {B b : Nat} {l : List UInt8} {r : Option Nat} {w : World} (h : Bw B b l r w) : b < w.heap.size := h.1.lt
theorem Bw.row {B b : Nat} {l : List UInt8} {r : Option Nat} {w : World} (h : Bw B b l r w) {k : Nat} (hk : r = some k) : B ≤ k ∧ ∃ cs fr, w.heap[k]? = some (.cells cs 5 fr) := by
  obtain ⟨p, v, h1, h2, h3⟩ := h.blk
  exact own_type h3 (by rw [h2, hk])
theorem Bw.of {B b : Nat} {l : List UInt8} {r : Option Nat} {w w' : World} (h : Bw B b l r w) (h1 : w'.heap[b]? = w.heap[b]?) (h2 : ∀ k, r = some k → w'.heap[k]? = w.heap[k]?) : Bw B b l r w' := by
  obtain ⟨h3, v, h4, h5⟩ := h
  have hc : w'.cell? ⟨b, 1, none⟩ = w.cell? ⟨b, 1, none⟩ := World.cell?_of_block h1
  have ho : ∀ v2, w.heap[b]? = some (.cells #[.pointer none, v2] 173 (0, 0)) ∨ w.heap[b]? = some (.cells #[.pointer (some ⟨b, 0, none⟩), v2] 173 (0, 0)) → w.ownsRow B 5 1 v2 (Lib.byteCells l).length (Lib.byteCells l) → w'.ownsRow B 5 1 v2 (Lib.byteCells l).length (Lib.byteCells l) := by
    intro v2 hb2 ho2
    have hv2 : v2.ownBlock = r := by
      have hh : w.cell? ⟨b, 1, none⟩ = some v2 := by
        rcases hb2 with hb2 | hb2
        · rw [cell_of_row w b 1 _ 173 (0, 0) hb2]; rfl
        · rw [cell_of_row w b 1 _ 173 (0, 0) hb2]; rfl
      rw [h4] at hh
      injection hh with hh
      rw [← hh]; exact h5
    refine ⟨ho2.1, ?_⟩
    rcases ho2.2 with h0 | ⟨g, cap, cur, hv, hg, hh, rest⟩
    · exact .inl h0
    · exact .inr ⟨g, cap, cur, hv, hg, by rw [h2 g (by rw [← hv2, hv]; rfl)]; exact hh, rest⟩
  refine ⟨?_, v, by rw [hc]; exact h4, h5⟩
  rcases h3 with ⟨hB, v2, hbk, hob, hn⟩ | ⟨hB, v2, hbk, hob, hn⟩
  · exact .inl ⟨hB, v2, h1.trans hbk, ho v2 (.inl hbk) hob, hn⟩
  · exact .inr ⟨hB, v2, h1.trans hbk, ho v2 (.inr hbk) hob, hn⟩
end Go.Proofs.YtfhaloclbbmbeaaGreat
