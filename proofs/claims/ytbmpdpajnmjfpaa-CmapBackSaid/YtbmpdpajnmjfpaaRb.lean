/- Proved here: the bytes of a part of 12, in the program. Condition: runs of codes and glyphs that are below 2^32. -/
import Derived.Test.YtbmpdpajnmjfpaaRa
namespace Go.Proofs.Ytbmpdpajnmjfpaa
open Go.RowKit

/-- All numbers of the runs fit into four bytes. -/
def fits32 (R : List (Int × Int × Int)) : Prop := ∀ i, i < R.length → (0 ≤ rF R i ∧ rF R i < 4294967296) ∧ (0 ≤ rT R i ∧ rT R i < 4294967296) ∧ (0 ≤ rG R i ∧ rG R i < 4294967296)
theorem p32_txt (n : Nat) (h : n < 4294967296) : ∃ D : ByteArray, D.size = 4 ∧ D = ⟨(byt 4 n).toArray⟩ ∧ ∀ W, Calls Try.prog 30 #[.int .u32 (n : Int)] W fun ee w' => ee = .returned (.string D) ∧ Below W.heap.size W w' :=
  ⟨⟨(byt 4 n).toArray⟩, by show (byt 4 n).toArray.size = 4; rw [List.size_toArray, byt_len], rfl, fun W => p32_any n W h⟩
theorem p16_txt (n : Nat) (h : n < 65536) : ∃ D : ByteArray, D.size = 2 ∧ D = ⟨(byt 2 n).toArray⟩ ∧ ∀ W, Calls Try.prog 29 #[.int .u16 (n : Int)] W fun ee w' => ee = .returned (.string D) ∧ Below W.heap.size W w' :=
  ⟨⟨(byt 2 n).toArray⟩, by show (byt 2 n).toArray.size = 2; rw [List.size_toArray, byt_len], rfl, fun W => p16_any n W h⟩
theorem wrap_u32n (n : Nat) (h : n < 4294967296) : IntKind.u32.wrap (n : Int) = (n : Int) := by rw [IntKind.wrap_u32]; omega
set_option maxHeartbeats 4000000 in
set_option maxRecDepth 100000 in
theorem makeLong_any (A : Option Addr) (m c : Nat) (R : List (Int × Int × Int)) (w : World) (hI : Rl w A m R) (hm : m ≤ 10000) (hf : fits32 R) :
    Calls Try.prog 15 #[.slice A m c] w fun e w' => e = .returned (.string ⟨(lnB R).toArray⟩) ∧ Below w.heap.size w w' := by
  have hlen := hI.len
  obtain ⟨D1, s1, hD1, hc1⟩ := p32_txt 786432 (by decide)
  obtain ⟨D2, s2, hD2, hc2⟩ := p32_txt (16 + 12 * m) (by omega)
  obtain ⟨D3, s3, hD3, hc3⟩ := p32_txt 0 (by decide)
  obtain ⟨D4, s4, hD4, hc4⟩ := p32_txt m (by omega)
  have C1 := Lib.hid (show ∀ W, Calls Try.prog 30 #[.int .u32 786432] W fun ee w' => ee = .returned (.string D1) ∧ Below W.heap.size W w' from hc1)
  have C3 := Lib.hid (show ∀ W, Calls Try.prog 30 #[.int .u32 0] W fun ee w' => ee = .returned (.string D3) ∧ Below W.heap.size W w' from hc3)
  have C4 := Lib.hid hc4
  obtain ⟨N, hN⟩ : ∃ N, N = 16 + 12 * m := ⟨_, rfl⟩
  rw [← hN] at hc2 hD2
  have C2 := Lib.hid hc2
  have e1 : IntKind.i64.wrap (12 * (m : Int)) = 12 * (m : Int) := i64_in _ (by omega)
  have e2 : IntKind.i64.wrap (16 + 12 * (m : Int)) = (N : Int) := by rw [i64_in _ (by omega)]; omega
  have e3 : IntKind.u32.wrap (N : Int) = (N : Int) := wrap_u32n N (by omega)
  have e4 : IntKind.u32.wrap (m : Int) = (m : Int) := wrap_u32n m (by omega)
  have l1 : ¬ 9223372036854775807 < D1.size + D2.size := by omega
  have l2 : ¬ 9223372036854775807 < D1.size + D2.size + D3.size := by omega
  have l3 : ¬ 9223372036854775807 < D1.size + D2.size + D3.size + D4.size := by omega
  obtain ⟨DH, hDH⟩ : ∃ D : ByteArray, D = D1 ++ D2 ++ D3 ++ D4 := ⟨_, rfl⟩
  have HDH := Lib.hid (show D1 ++ D2 ++ D3 ++ D4 = DH from hDH.symm)
  have HH := Lib.hid (show DH.data.toList = hdB R.length by rw [hDH, hD1, hD2, hD3, hD4, app_txt, app_txt, app_txt, hlen, hN]; rfl)
  have HHs := Lib.hid (show DH.size = 16 by rw [hDH]; simp; omega)
  have HX := Lib.hid hI
  have HF := Lib.hid (show ∀ k, k < m → ∃ x y z : Nat, rF R k = (x : Int) ∧ rT R k = (y : Int) ∧ rG R k = (z : Int) ∧ x < 4294967296 ∧ y < 4294967296 ∧ z < 4294967296 ∧ grB (rF R k, rT R k, rG R k) = byt 4 x ++ byt 4 y ++ byt 4 z from fun k hk => by
    obtain ⟨h1, h2, h3⟩ := hf k (by omega)
    exact ⟨(rF R k).toNat, (rT R k).toNat, (rG R k).toNat, by omega, by omega, by omega, by omega, by omega, by omega, rfl⟩)
  have HT := Lib.hid (fun k (hk : k < m) => grsB_take (R := R) (k := k) (by omega))
  have HE := Lib.hid (show ∀ l, l = hdB R.length ++ grsB (R.take m) → l = lnB R from fun l hl => by rw [hl, ← hlen, List.take_length]; rfl)
  have HL := Lib.hid (fun k (hk : k ≤ m) => show (grsB (R.take k)).length = 12 * k by rw [grsB_len, List.length_take]; omega)
  have H0 := Lib.hid (show grsB (R.take 0) = [] from rfl)
  have hM := MkH.new w
  clear hI hf hlen hD1 hD2 hD3 hD4 hc1 hc2 hc3 hc4 hDH s1 s2 s3 s4 hN
  go_enter Try.func15, Try.ntmps15
  go_upto_region 2 with fail
  obtain ⟨b, hb⟩ : ∃ b, b = w.heap.size := ⟨_, rfl⟩
  obtain ⟨W0, hW0⟩ : ∃ W, W = w.alloc (.cells #[.pointer none, .slice none 0 0] 70) := ⟨_, rfl⟩
  rw [← hW0] at hM ⊢
  rw [← hb] at hM ⊢
  have HM := Lib.hid hM
  clear hM hb hW0
  go_upto_region 3 with (first
    | (go_at_call 30; (with_reducible refine (C1.out _).mono ?_); rintro e w1 ⟨rfl, hb⟩; have HM := Lib.hid (HM.out.next hb); clear hb)
    | (go_at_call 30; (with_reducible refine (C2.out _).mono ?_); rintro e w1 ⟨rfl, hb⟩; have HM := Lib.hid (HM.out.next hb); clear hb)
    | (go_at_call 30; (with_reducible refine (C3.out _).mono ?_); rintro e w1 ⟨rfl, hb⟩; have HM := Lib.hid (HM.out.next hb); clear hb)
    | (go_at_call 30; (with_reducible refine (C4.out _).mono ?_); rintro e w1 ⟨rfl, hb⟩; have HM := Lib.hid (HM.out.next hb); clear hb)
    | (go_at_call 31; (with_reducible refine (ws_any _ _ _ _ _ HM.out.bld (by rw [HDH.out, HHs.out]; simp) HM.out.le).mono ?_); rintro e w5 ⟨rfl, h1, h2, _⟩; have HM5 := Lib.hid (HM.out.wrote h1 h2); clear h1 h2))
  have HM6 := Lib.hid (show MkH w w5 b (hdB R.length ++ grsB (R.take 0)) by have h := HM5.out; rw [HDH.out, HH.out] at h; rw [H0.out, List.append_nil]; exact h)
  clear HM5 HM C1 C2 C3 C4 l1 l2 l3 e1 e2 e3 e4
  go_wp2_with fail
  go_loopw [24] (fun i wr => ∃ k : Nat, i = .int .i64 (k : Int) ∧ k ≤ m ∧ MkH w wr b (hdB R.length ++ grsB (R.take k))) (fun i _ => m - (intOf i).toNat)
  case atStart => exact ⟨0, rfl, Nat.zero_le _, HM6.out⟩
  case round =>
    obtain ⟨k, rfl, hk, hS⟩ := hrel
    have HS := Lib.hid hS
    by_cases hgo : k < m
    · obtain ⟨a, rfl, c0, c1, c2⟩ := HX.out.at_ hS.bel hgo
      obtain ⟨x, y, z, hx, hy, hz, bx, by', bz, hg⟩ := HF.out k hgo
      have HNX := Lib.hid (HT.out k hgo)
      rw [hg] at HNX
      rw [hx] at c0
      rw [hy] at c1
      rw [hz] at c2
      obtain ⟨E1, s1, hE1, hc1⟩ := p32_txt x bx
      obtain ⟨E2, s2, hE2, hc2⟩ := p32_txt y by'
      obtain ⟨E3, s3, hE3, hc3⟩ := p32_txt z bz
      have e1 : IntKind.u32.wrap (x : Int) = (x : Int) := wrap_u32n x bx
      have e2 : IntKind.u32.wrap (y : Int) = (y : Int) := wrap_u32n y by'
      have e3 : IntKind.u32.wrap (z : Int) = (z : Int) := wrap_u32n z bz
      have C1 := Lib.hid hc1
      have C2 := Lib.hid hc2
      have C3 := Lib.hid hc3
      have l1 : ¬ 9223372036854775807 < E1.size + E2.size := by omega
      have l2 : ¬ 9223372036854775807 < E1.size + E2.size + E3.size := by omega
      have HE3 := Lib.hid (show (E1 ++ E2 ++ E3).data.toList = byt 4 x ++ byt 4 y ++ byt 4 z by rw [hE1, hE2, hE3, app_txt, app_txt])
      have HE3s := Lib.hid (show (E1 ++ E2 ++ E3).size = 12 by simp; omega)
      have HLk := Lib.hid (show (hdB R.length ++ grsB (R.take k)).length + 12 ≤ 100000000 by rw [List.length_append, hdB_len, HL.out k hk]; omega)
      obtain ⟨l, hl⟩ : ∃ l, l = hdB R.length ++ grsB (R.take k) := ⟨_, rfl⟩
      have HN2 := Lib.hid (show hdB R.length ++ grsB (R.take (k + 1)) = l ++ (E1 ++ E2 ++ E3).data.toList by rw [HNX.out, HE3.out, hl]; simp only [List.append_assoc])
      rw [← hl] at HS HLk
      clear hS hx hy hz hg hE1 hE2 hE3 hc1 hc2 hc3 s1 s2 s3 hl bx by' bz HNX HE3
      go_upto_region 6 with fail
      have HS1 := Lib.hid (HS.out.start (x : Int) (y : Int) (z : Int))
      obtain ⟨g, hg⟩ : ∃ g, g = wr.heap.size := ⟨_, rfl⟩
      obtain ⟨W1, hW1⟩ : ∃ W, W = wr.alloc (.cells #[.int .i64 (x : Int), .int .i64 (y : Int), .int .i64 (z : Int)] 76) := ⟨_, rfl⟩
      rw [← hg, ← hW1] at HS1 ⊢
      clear hg hW1 c0 c1 c2
      obtain ⟨f0, f1, f2⟩ := HS1.out.all
      go_region_held3 (fun w' => w'.cell? ⟨g, 0, none⟩ = some (.int .i64 (x : Int)) ∧ w'.cell? ⟨g, 1, none⟩ = some (.int .i64 (y : Int)) ∧ w'.cell? ⟨g, 2, none⟩ = some (.int .i64 (z : Int)))
        (first | with_reducible exact HS1.out.all | go_keep)
        (first
          | (go_at_call 30; (with_reducible refine (C1.out _).mono ?_); rintro e w6 ⟨rfl, hb⟩; (first | have HS1 := Lib.hid (HS1.out.next hb) | have HS1 := Lib.hid (HS1.out.drew.next hb)); clear hb)
          | (go_at_call 30; (with_reducible refine (C2.out _).mono ?_); rintro e w6 ⟨rfl, hb⟩; (first | have HS1 := Lib.hid (HS1.out.next hb) | have HS1 := Lib.hid (HS1.out.drew.next hb)); clear hb)
          | (go_at_call 30; (with_reducible refine (C3.out _).mono ?_); rintro e w6 ⟨rfl, hb⟩; (first | have HS1 := Lib.hid (HS1.out.next hb) | have HS1 := Lib.hid (HS1.out.drew.next hb)); clear hb)
          | (go_at_call 31; (with_reducible refine (ws_any _ _ _ _ _ HS1.out.bld (by rw [HE3s.out]; exact HLk.out) HS1.out.hbW).mono ?_); rintro e w9 ⟨rfl, h1, h2, h3⟩; have HS1 := Lib.hid (HS1.out.wrote h1 h2 h3); clear h1 h2 h3))
      go_wp2_with fail
      exact ⟨⟨k + 1, by simp, by omega, by rw [HN2.out]; exact HS1.out.head⟩, by simp [intOf]; omega⟩
    · obtain rfl : k = m := by omega
      have HEE := Lib.hid (HE.out _ rfl)
      obtain ⟨l, hl⟩ : ∃ l, l = hdB R.length ++ grsB (R.take k) := ⟨_, rfl⟩
      rw [← hl] at HS HEE
      clear hS hl
      go_wp2_with (go_at_call 32; (with_reducible refine (str_any _ _ _ _ HS.out.bld HS.out.le).mono ?_); rintro e w8 ⟨rfl, hb⟩; have HB8 := Lib.hid (HS.out.bel.trans (hb.mono HS.out.hb)); clear hb)
      go_ret
      exact ⟨by rw [HEE.out]; rfl, HB8.out⟩
end Go.Proofs.Ytbmpdpajnmjfpaa
