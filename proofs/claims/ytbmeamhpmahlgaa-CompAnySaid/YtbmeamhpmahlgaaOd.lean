/- Proved here: what P16 and P32 answer, and the document's Put. No condition. -/
import Derived.Test.YtbmeamhpmahlgaaOc
namespace Go.Proofs.Ytbmeamhpmahlgaa
open Go.RowKit

/-- The bytes of a number, the highest first. -/
def byt : Nat → Nat → List UInt8
  | 0, _ => []
  | k + 1, n => byt k (n / 256) ++ [UInt8.ofNat (n % 256)]
theorem byt_len : ∀ k n, (byt k n).length = k
  | 0, _ => rfl
  | k + 1, n => by simp [byt, byt_len k]
theorem byt_bv : ∀ (k n : Nat), n < 256 ^ k → bv (byt k n) 0 = n
  | 0, n, h => by simp at h; subst h; rfl
  | k + 1, n, h => by
    have h1 : n / 256 < 256 ^ k := by rw [Nat.pow_succ] at h; omega
    simp only [byt]
    rw [bv_snoc, byt_bv k _ h1]
    have : (UInt8.ofNat (n % 256)).toNat = n % 256 := by simp
    omega
theorem byt_two (n : Nat) (h : n < 65536) : byt 2 n = [UInt8.ofNat (n / 256), UInt8.ofNat (n % 256)] := by
  simp only [byt]
  rw [show n / 256 % 256 = n / 256 by omega]
  rfl
theorem byt_four (n : Nat) : byt 4 n = byt 2 (n / 65536) ++ byt 2 n := by
  simp only [byt]
  rw [show n / 256 / 256 = n / 65536 by omega]
  simp
/-- Bytes that were just laid, as a text. -/
theorem conv_new (w : World) (l : List UInt8) (C : Array Value) (hC : C = (l.map fun c => Value.int .u8 (c.toNat : Int)).toArray) (W' : World) (hW : W' = w.alloc (.cells C 5)) :
    (convert 68 9 (.slice (some ⟨w.heap.size, 0, none⟩) l.length l.length)).run Try.prog W' = .ok (.string ⟨l.toArray⟩) W' := by
  subst hC hW
  refine run_convert_bytes_back _ 68 9 5 _ _ l Try.underlying68 Try.underlying5 Try.underlying9 fun j hj => ?_
  have e0 : (⟨w.heap.size, 0, none⟩ : Addr).add j = ⟨w.heap.size, j, none⟩ := by simp [Addr.add]; omega
  rw [e0, World.cell?_alloc_mark]
  simp [List.getElem?_eq_getElem hj]
theorem app_txt (x y : List UInt8) : (⟨x.toArray⟩ : ByteArray) ++ ⟨y.toArray⟩ = ⟨(x ++ y).toArray⟩ := by
  apply ByteArray.ext
  simp
theorem two_u8 (a b : Nat) (ha : a < 256) (hb : b < 256) : #[Value.int .u8 (a : Int), Value.int .u8 (b : Int)] = (([UInt8.ofNat a, UInt8.ofNat b]).map fun c => Value.int .u8 (c.toNat : Int)).toArray := by
  simp only [List.map_cons, List.map_nil, UInt8.toNat_ofNat']
  rw [Nat.mod_eq_of_lt ha, Nat.mod_eq_of_lt hb]
set_option maxRecDepth 100000 in
set_option maxHeartbeats 2000000 in
theorem p16_any (n : Nat) (w : World) (h : n < 65536) : Calls Try.prog 41 #[.int .u16 (n : Int)] w fun e w' => e = .returned (.string ⟨(byt 2 n).toArray⟩) ∧ Below w.heap.size w w' := by
  rw [byt_two n h]
  obtain ⟨a, ha⟩ : ∃ a, a = n / 256 := ⟨_, rfl⟩
  obtain ⟨b, hb⟩ : ∃ b, b = n % 256 := ⟨_, rfl⟩
  have e1 : (n : Int) / 256 = (a : Int) := by omega
  have e2 : IntKind.u8.wrap (n : Int) = (b : Int) := by rw [IntKind.wrap_u8]; omega
  have e3 := wrap_u8n a (by omega)
  have hc := conv_new w [UInt8.ofNat a, UInt8.ofNat b] _ (two_u8 a b (by omega) (by omega)) _ rfl
  rw [← ha, ← hb]
  obtain ⟨D, hD⟩ : ∃ D : ByteArray, D = ⟨([UInt8.ofNat a, UInt8.ofNat b]).toArray⟩ := ⟨_, rfl⟩
  rw [← hD] at hc ⊢
  have hc : (convert 68 9 (.slice (some ⟨w.heap.size, 0, none⟩) 2 2)).run Try.prog (w.alloc (.cells #[.int .u8 (a : Int), .int .u8 (b : Int)] 5)) = .ok (.string D) (w.alloc (.cells #[.int .u8 (a : Int), .int .u8 (b : Int)] 5)) := hc
  clear hD ha hb
  go_enter Try.func41, Try.ntmps41
  go_wp2_with fail
  go_ret
  exact ⟨rfl, (Below.refl _ _).alloc (Nat.le_refl _) _⟩
theorem byt_cons : ∀ (k n : Nat), byt (k + 1) n = UInt8.ofNat (n / 256 ^ k % 256) :: byt k n
  | 0, n => by simp [byt]
  | k + 1, n => by
    have h := byt_cons k (n / 256)
    simp only [byt] at h ⊢
    rw [h, Nat.div_div_eq_div_mul, show 256 * 256 ^ k = 256 ^ (k + 1) by rw [Nat.pow_succ, Nat.mul_comm]]
    rfl
theorem one_u8 (a : Nat) (ha : a < 256) : #[Value.int .u8 (a : Int)] = (([UInt8.ofNat a]).map fun c => Value.int .u8 (c.toNat : Int)).toArray := by
  simp only [List.map_cons, List.map_nil, UInt8.toNat_ofNat']
  rw [Nat.mod_eq_of_lt ha]
set_option maxRecDepth 100000 in
set_option maxHeartbeats 2000000 in
theorem put_any (n k : Nat) (w : World) (hn : n < 4294967296) (hk : k ≤ 100) : Calls Try.prog 20 #[.int .u32 (n : Int), .int .i64 (k : Int)] w fun e w' => e = .returned (.string ⟨(byt k n).toArray⟩) ∧ Below w.heap.size w w' := by
  go_enter Try.func20, Try.ntmps20
  go_wp2_with fail
  go_loopw [0, 5, 6] (fun v x i wr => ∃ j : Nat, i = .int .i64 (j : Int) ∧ j ≤ k ∧ v = .int .u32 ((n / 256 ^ j : Nat) : Int) ∧ x = .string ⟨(byt j n).toArray⟩ ∧ Below w.heap.size w wr) (fun _ _ i _ => k - (intOf i).toNat)
  case atStart => exact ⟨0, rfl, by omega, by simp, rfl, Below.refl _ _⟩
  case round =>
    obtain ⟨j, rfl, hj, rfl, rfl, hb⟩ := hrel
    have HB := Lib.hid hb
    clear hb
    rcases Nat.lt_or_ge j k with hjk | hjk
    · have hcons := Lib.hid (byt_cons j n)
      have hdiv : n / 256 ^ j / 256 = n / 256 ^ (j + 1) := by rw [Nat.div_div_eq_div_mul, Nat.pow_succ]
      have hle : n / 256 ^ j ≤ n := Nat.div_le_self _ _
      obtain ⟨m, hm⟩ : ∃ m, m = n / 256 ^ j := ⟨_, rfl⟩
      rw [← hm] at hdiv hcons hle
      have HD := Lib.hid hdiv
      rw [← hm]
      obtain ⟨a, ha⟩ : ∃ a, a = m % 256 := ⟨_, rfl⟩
      rw [← ha] at hcons
      have e1 : (m : Int) % 256 = (a : Int) := by omega
      have e3 := wrap_u8n a (by omega)
      obtain ⟨D, hD⟩ : ∃ D : ByteArray, D = ⟨([UInt8.ofNat a]).toArray⟩ := ⟨_, rfl⟩
      have hc := conv_new wr [UInt8.ofNat a] _ (one_u8 a (by omega)) _ rfl
      rw [← hD] at hc
      have hc : (convert 68 9 (.slice (some ⟨wr.heap.size, 0, none⟩) 1 1)).run Try.prog (wr.alloc (.cells #[.int .u8 (a : Int)] 5)) = .ok (.string D) (wr.alloc (.cells #[.int .u8 (a : Int)] 5)) := hc
      have hl : ¬ 9223372036854775807 < D.size + (byt j n).length := by
        have : D.size = 1 := by rw [hD]; rfl
        rw [this, byt_len]; omega
      have HH := Lib.hid hD
      clear hm ha hD hdiv
      go_wp2_with fail
      exact ⟨⟨j + 1, by simp, by omega, by rw [← HD.out]; simp, by rw [HH.out, app_txt, hcons.out]; rfl, HB.out.alloc HB.out.size _⟩, by simp [intOf]; omega⟩
    · have hjk : j = k := by omega
      subst hjk
      go_wp2_with fail
      go_ret
      exact ⟨rfl, HB.out⟩
end Go.Proofs.Ytbmeamhpmahlgaa
