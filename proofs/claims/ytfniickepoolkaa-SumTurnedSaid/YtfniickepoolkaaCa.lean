/- Proved here: what moving by a bit is, as a turn of numbers of 32 bits, and that products of polynomials move as their parts do. Plain numbers alone. No condition beyond those stated. -/
import Derived.Lib.Hide
namespace Go.Proofs.Ytfniickepoolkaa

/-- The lower powers that the power 32 stands for. -/
def pp : Nat := 3988292384
/-- A number, moved to the right by a bit. -/
def mv (c : Nat) : Nat := (c / 2) ^^^ (if c % 2 = 1 then pp else 0)
/-- Moved n times. -/
def mvn : Nat → Nat → Nat
  | 0, c => c
  | n + 1, c => mvn n (mv c)
theorem mvn_add (m : Nat) : ∀ n c, mvn (n + m) c = mvn m (mvn n c)
  | 0, c => by simp [mvn]
  | n + 1, c => by rw [show n + 1 + m = (n + m) + 1 by omega]; exact mvn_add m n (mv c)
theorem mvn_snoc (n c : Nat) : mvn (n + 1) c = mv (mvn n c) := by rw [mvn_add]; rfl
theorem xz {a b : Nat} (h : a ^^^ b = 0) : a = b := by
  have h3 : (a ^^^ b) ^^^ b = b := by rw [h, Nat.zero_xor]
  rwa [Nat.xor_assoc, Nat.xor_self, Nat.xor_zero] at h3
theorem mv_lt {c : Nat} (h : c < 4294967296) : mv c < 4294967296 := by
  unfold mv
  refine Nat.xor_lt_two_pow (n := 32) (by omega) ?_
  split <;> simp [pp]
theorem mvn_lt : ∀ n {c : Nat}, c < 4294967296 → mvn n c < 4294967296
  | 0, _, h => h
  | n + 1, _, h => mvn_lt n (mv_lt h)
theorem mv_zero : mv 0 = 0 := by decide
theorem mvn_zero : ∀ n, mvn n 0 = 0
  | 0 => rfl
  | n + 1 => by unfold mvn; rw [mv_zero, mvn_zero n]
theorem xor4 (a b c d : Nat) : a ^^^ b ^^^ (c ^^^ d) = a ^^^ c ^^^ (b ^^^ d) := by
  rw [Nat.xor_assoc, Nat.xor_assoc, ← Nat.xor_assoc b c d, Nat.xor_comm b c, Nat.xor_assoc]
theorem mv_xor (a b : Nat) : mv (a ^^^ b) = mv a ^^^ mv b := by
  unfold mv
  have h1 : (a ^^^ b) / 2 = a / 2 ^^^ b / 2 := by
    apply Nat.eq_of_testBit_eq
    intro i
    simp only [Nat.testBit_div_two, Nat.testBit_xor]
  have h2 : ((a ^^^ b) % 2 = 1) ↔ ¬(a % 2 = 1 ↔ b % 2 = 1) := by
    have := Nat.xor_mod_two_eq_one (a := a) (b := b)
    exact this
  rw [h1, xor4]
  congr 1
  by_cases ha : a % 2 = 1 <;> by_cases hb : b % 2 = 1
  · rw [if_neg (by rw [h2]; simp [ha, hb]), if_pos ha, if_pos hb, Nat.xor_self]
  · rw [if_pos (by rw [h2]; simp [ha, hb]), if_pos ha, if_neg hb, Nat.xor_zero]
  · rw [if_pos (by rw [h2]; simp [ha, hb]), if_neg ha, if_pos hb, Nat.zero_xor]
  · rw [if_neg (by rw [h2]; simp [ha, hb]), if_neg ha, if_neg hb, Nat.xor_zero]
theorem mvn_xor : ∀ n a b, mvn n (a ^^^ b) = mvn n a ^^^ mvn n b
  | 0, _, _ => rfl
  | n + 1, a, b => by simp only [mvn]; rw [mv_xor, mvn_xor n]
/-- Only 0 is moved to 0. -/
theorem mv_inj0 {c : Nat} (hc : c < 4294967296) (h : mv c = 0) : c = 0 := by
  unfold mv at h
  have h1 := xz h
  split at h1
  · unfold pp at h1; omega
  · omega
theorem mvn_inj0 : ∀ n {c : Nat}, c < 4294967296 → mvn n c = 0 → c = 0
  | 0, _, _, h => h
  | n + 1, _, hc, h => mv_inj0 hc (mvn_inj0 n (mv_lt hc) h)
theorem mvn_inj {n a b : Nat} (ha : a < 4294967296) (hb : b < 4294967296) (h : mvn n a = mvn n b) : a = b := by
  have h1 : mvn n (a ^^^ b) = 0 := by rw [mvn_xor, h, Nat.xor_self]
  exact xz (mvn_inj0 n (Nat.xor_lt_two_pow (n := 32) ha hb) h1)
/-- The product, power by power: of the first k bits of b, from the highest down. -/
def tm (a b : Nat) : Nat → Nat
  | 0 => 0
  | k + 1 => tm a b k ^^^ (if b.testBit (31 - k) then mvn k a else 0)
theorem tm_xor2 (a b c : Nat) : ∀ k, tm a (b ^^^ c) k = tm a b k ^^^ tm a c k
  | 0 => by simp [tm]
  | k + 1 => by
    simp only [tm, tm_xor2 a b c k, Nat.testBit_xor]
    rw [xor4]
    congr 1
    cases b.testBit (31 - k) <;> cases c.testBit (31 - k) <;> simp
theorem tm_xor1 (a b c : Nat) : ∀ k, tm (a ^^^ b) c k = tm a c k ^^^ tm b c k
  | 0 => by simp [tm]
  | k + 1 => by
    simp only [tm, tm_xor1 a b c k, mvn_xor]
    rw [xor4]
    congr 1
    cases c.testBit (31 - k) <;> simp
theorem tm_mv1 (a c : Nat) : ∀ k, tm (mv a) c k = mv (tm a c k)
  | 0 => by simp [tm, mv_zero]
  | k + 1 => by
    simp only [tm, tm_mv1 a c k, mv_xor]
    congr 1
    cases c.testBit (31 - k)
    · simp [mv_zero]
    · simp only [if_pos]
      rw [← mvn_snoc]; rfl
theorem tm_lt {a : Nat} (b : Nat) (ha : a < 4294967296) : ∀ k, tm a b k < 4294967296
  | 0 => by simp [tm]
  | k + 1 => by
    simp only [tm]
    refine Nat.xor_lt_two_pow (n := 32) (tm_lt b ha k) ?_
    split
    · exact mvn_lt k ha
    · omega
/-- Two turns that keep xor, and are the same at each power of 2 below 2^32, are the same. -/
theorem basis (f g : Nat → Nat) (hf : ∀ a b, f (a ^^^ b) = f a ^^^ f b) (hg : ∀ a b, g (a ^^^ b) = g a ^^^ g b) (h : ∀ j, j < 32 → f (2 ^ j) = g (2 ^ j)) : ∀ k, k ≤ 32 → ∀ a, a < 2 ^ k → f a = g a
  | 0, _, a, ha => by
    have : a = 0 := by simpa using ha
    subst this
    have h1 := hf 0 0
    have h2 := hg 0 0
    simp at h1 h2
    rw [h1, h2]
  | k + 1, hk, a, ha => by
    have ih := basis f g hf hg h k (by omega)
    rcases Nat.lt_or_ge a (2 ^ k) with hl | hl
    · exact ih a hl
    · have e : a = 2 ^ k ^^^ (a - 2 ^ k) := by
        have hm : a - 2 ^ k < 2 ^ k := by rw [Nat.pow_succ] at ha; omega
        apply Nat.eq_of_testBit_eq
        intro i
        have h3 : a = 2 ^ k + (a - 2 ^ k) := by omega
        rw [Nat.testBit_xor]
        conv => lhs; rw [h3]
        rcases Nat.lt_trichotomy i k with hi | hi | hi
        · rw [Nat.testBit_two_pow_add_gt hi, Nat.testBit_two_pow_of_ne (by omega)]; simp
        · subst hi
          rw [Nat.testBit_two_pow_add_eq, Nat.testBit_two_pow_self, Nat.testBit_lt_two_pow hm]; rfl
        · have h4 : 2 ^ k + (a - 2 ^ k) < 2 ^ i := by
            refine Nat.lt_of_lt_of_le (by omega) (Nat.pow_le_pow_right (by decide) hi)
          rw [Nat.testBit_lt_two_pow h4, Nat.testBit_two_pow_of_ne (by omega), Nat.testBit_lt_two_pow (Nat.lt_of_lt_of_le hm (Nat.pow_le_pow_right (by decide) (by omega)))]; rfl
      rw [e, hf, hg, h k (by omega), ih _ (by rw [Nat.pow_succ] at ha; omega)]
/-- The power 32 is what it stands for. -/
theorem power32 {a : Nat} (ha : a < 4294967296) : tm a pp 32 = mvn 32 a := by
  refine basis (fun a => tm a pp 32) (mvn 32) (fun a b => tm_xor1 a b pp 32) (mvn_xor 32) ?_ 32 (Nat.le_refl _) a ha
  have : ∀ j : Fin 32, tm (2 ^ j.val) pp 32 = mvn 32 (2 ^ j.val) := by decide +kernel
  exact fun j hj => this ⟨j, hj⟩
theorem tm_half (a c : Nat) (hc : c < 4294967296) : ∀ k, k ≤ 32 → tm a (c / 2) k ^^^ (if k = 0 then 0 else if c.testBit (32 - k) then mvn k a else 0) = mv (tm a c k)
  | 0, _ => by simp [tm, mv_zero]
  | k + 1, hk => by
    have ih := tm_half a c hc k (by omega)
    simp only [tm, mv_xor, ← ih]
    have e1 : (c / 2).testBit (31 - k) = (if k = 0 then false else c.testBit (32 - k)) := by
      rw [Nat.testBit_div_two, show 31 - k + 1 = 32 - k by omega]
      split
      · rename_i h; subst h; exact Nat.testBit_lt_two_pow hc
      · rfl
    have e2 : 32 - (k + 1) = 31 - k := by omega
    rw [e1, e2, if_neg (by omega : ¬ k + 1 = 0)]
    have e3 : mv (if c.testBit (31 - k) = true then mvn k a else 0) = if c.testBit (31 - k) = true then mvn (k + 1) a else 0 := by
      split
      · rw [mvn_snoc]
      · exact mv_zero
    rw [e3]
    by_cases h0 : k = 0
    · subst h0; simp [tm]
    · simp only [if_neg h0]
/-- A product moves as its second part does. -/
theorem tm_mv2 {a c : Nat} (ha : a < 4294967296) (hc : c < 4294967296) : tm a (mv c) 32 = mv (tm a c 32) := by
  have h := tm_half a c hc 32 (Nat.le_refl _)
  rw [if_neg (by decide : ¬ 32 = 0)] at h
  rw [← h]
  unfold mv
  rw [tm_xor2]
  congr 1
  have e : c.testBit (32 - 32) = decide (c % 2 = 1) := by rw [Nat.sub_self, Nat.testBit_zero]
  rw [e]
  by_cases h1 : c % 2 = 1
  · rw [if_pos h1, power32 ha]; simp [h1]
  · rw [if_neg h1]; simp only [h1, decide_false, Bool.false_eq_true, if_false]
    have : ∀ k, tm a 0 k = 0 := fun k => by
      induction k with
      | zero => rfl
      | succ k ih => simp [tm, ih]
    exact this 32
theorem tm_one {a : Nat} : tm a 2147483648 32 = a := by
  have : ∀ k, tm a 2147483648 (k + 1) = a ∨ 32 < k + 1 := by
    intro k
    induction k with
    | zero => left; simp [tm, mvn, show (2147483648 : Nat).testBit 31 = true by decide]
    | succ k ih =>
      rcases ih with h | h
      · rcases Nat.lt_or_ge 31 (k + 1) with h2 | h2
        · right; omega
        · left
          rw [tm, h, show (2147483648 : Nat) = 2 ^ 31 from rfl, Nat.testBit_two_pow_of_ne (by omega)]
          simp
      · right; omega
  rcases this 31 with h | h
  · exact h
  · omega
/-- To multiply by a power is to move as often. -/
theorem tm_power {a : Nat} (ha : a < 4294967296) (n : Nat) : tm a (mvn n 2147483648) 32 = mvn n a := by
  induction n with
  | zero => exact tm_one
  | succ n ih => rw [mvn_snoc, mvn_snoc, tm_mv2 ha (mvn_lt n (by decide)), ih]
/-- The power that stands for n bytes. -/
def pw (n : Nat) : Nat := mvn (8 * n) 2147483648
theorem pw_lt (n : Nat) : pw n < 4294967296 := mvn_lt _ (by decide)
theorem pw_one : pw 1 = 8388608 := by decide +kernel
theorem tm_pw {a : Nat} (ha : a < 4294967296) (n : Nat) : tm a (pw n) 32 = mvn (8 * n) a := tm_power ha _
theorem pw_sq (n : Nat) : tm (pw n) (pw n) 32 = pw (n + n) := by
  rw [tm_pw (pw_lt n)]
  unfold pw
  rw [← mvn_add]
  congr 1
  omega
/-- What bytes make of a number, one by one. -/
def cr : List UInt8 → Nat → Nat
  | [], c => c
  | b :: l, c => cr l (mvn 8 (c ^^^ b.toNat))
theorem b_lt (b : UInt8) : b.toNat < 4294967296 := Nat.lt_trans (UInt8.toNat_lt b) (by decide)
theorem cr_lt : ∀ (l : List UInt8) {c : Nat}, c < 4294967296 → cr l c < 4294967296
  | [], _, h => h
  | b :: l, _, h => cr_lt l (mvn_lt 8 (Nat.xor_lt_two_pow (n := 32) h (b_lt b)))
theorem cr_app : ∀ (l m : List UInt8) (c : Nat), cr (l ++ m) c = cr m (cr l c)
  | [], _, _ => rfl
  | _ :: l, m, _ => cr_app l m _
theorem cr_snoc (l : List UInt8) (b : UInt8) (c : Nat) : cr (l ++ [b]) c = mvn 8 (cr l c ^^^ b.toNat) := by rw [cr_app]; rfl
theorem cr_xor : ∀ (l : List UInt8) (c d : Nat), cr l (c ^^^ d) = cr l c ^^^ mvn (8 * l.length) d
  | [], _, _ => rfl
  | b :: l, c, d => by
    simp only [cr]
    rw [show c ^^^ d ^^^ b.toNat = (c ^^^ b.toNat) ^^^ d by rw [Nat.xor_assoc, Nat.xor_comm d, ← Nat.xor_assoc], mvn_xor, cr_xor l, ← mvn_add, List.length_cons, show 8 * (l.length + 1) = 8 + 8 * l.length by omega]
theorem cr_inj : ∀ (l : List UInt8) {c d : Nat}, c < 4294967296 → d < 4294967296 → cr l c = cr l d → c = d
  | [], _, _, _, _, h => h
  | b :: l, c, d, hc, hd, h => by
    have h1 := cr_inj l (mvn_lt 8 (Nat.xor_lt_two_pow (n := 32) hc (b_lt b))) (mvn_lt 8 (Nat.xor_lt_two_pow (n := 32) hd (b_lt b))) h
    have h2 := mvn_inj (Nat.xor_lt_two_pow (n := 32) hc (b_lt b)) (Nat.xor_lt_two_pow (n := 32) hd (b_lt b)) h1
    have h3 : (c ^^^ b.toNat) ^^^ b.toNat = (d ^^^ b.toNat) ^^^ b.toNat := by rw [h2]
    rwa [Nat.xor_assoc, Nat.xor_self, Nat.xor_zero, Nat.xor_assoc, Nat.xor_self, Nat.xor_zero] at h3
/-- The CRC. -/
def crc (l : List UInt8) : Nat := cr l 4294967295 ^^^ 4294967295
theorem crc_lt (l : List UInt8) : crc l < 4294967296 := Nat.xor_lt_two_pow (n := 32) (cr_lt l (by decide)) (by decide)
theorem crc_app (l m : List UInt8) : crc (l ++ m) = mvn (8 * m.length) (crc l) ^^^ crc m := by
  unfold crc
  have h := cr_xor m 4294967295 (cr l 4294967295 ^^^ 4294967295)
  have e : 4294967295 ^^^ (cr l 4294967295 ^^^ 4294967295) = cr l 4294967295 := by
    rw [Nat.xor_comm, Nat.xor_assoc, Nat.xor_self, Nat.xor_zero]
  rw [e] at h
  rw [cr_app, h, Nat.xor_comm (cr m 4294967295), Nat.xor_assoc]
theorem xor_right_inj {a b c : Nat} (h : a ^^^ c = b ^^^ c) : a = b := by
  have h3 : (a ^^^ c) ^^^ c = (b ^^^ c) ^^^ c := by rw [h]
  rwa [Nat.xor_assoc, Nat.xor_self, Nat.xor_zero, Nat.xor_assoc, Nat.xor_self, Nat.xor_zero] at h3
/-- A byte that is another one makes another CRC. -/
theorem crc_set {l m : List UInt8} {a b : UInt8} (h : crc (l ++ a :: m) = crc (l ++ b :: m)) : a = b := by
  unfold crc at h
  have h1 := xor_right_inj h
  rw [cr_app, cr_app] at h1
  have hl : cr l 4294967295 < 4294967296 := cr_lt l (by decide)
  have h2 := cr_inj m (mvn_lt 8 (Nat.xor_lt_two_pow (n := 32) hl (b_lt a))) (mvn_lt 8 (Nat.xor_lt_two_pow (n := 32) hl (b_lt b))) h1
  have h3 := mvn_inj (Nat.xor_lt_two_pow (n := 32) hl (b_lt a)) (Nat.xor_lt_two_pow (n := 32) hl (b_lt b)) h2
  rw [Nat.xor_comm _ a.toNat, Nat.xor_comm _ b.toNat] at h3
  have h4 := xor_right_inj h3
  exact UInt8.toNat_inj.mp h4
end Go.Proofs.Ytfniickepoolkaa
