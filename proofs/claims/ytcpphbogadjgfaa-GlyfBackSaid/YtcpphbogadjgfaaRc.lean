/- Proved here: the document's p16 and step; a glyph's bytes, plain. Condition: numbers up to 100000, either way. -/
import Derived.Test.YtcpphbogadjgfaaRb
namespace Go.Proofs.Ytcpphbogadjgfaa
open Go.RowKit

theorem rp16_any (n : Int) (w : World) : Calls Try.prog 21 #[.int .i64 n] w fun e w' => e = .returned (.string ⟨(u2 n).toArray⟩) ∧ Below w.heap.size w w' := by
  have e1 := wrap_u16i n
  unfold u2
  obtain ⟨m, hm⟩ : ∃ m, m = (n % 65536).toNat := ⟨_, rfl⟩
  rw [← hm] at e1 ⊢
  have CP := Lib.hid (show ∀ W, Calls Try.prog 20 #[.int .u32 (m : Int), .int .i64 2] W fun e w' => e = .returned (.string ⟨(byt 2 m).toArray⟩) ∧ Below W.heap.size W w' from fun W => put_any m 2 W (by omega) (by omega))
  have e2 : IntKind.u32.wrap (m : Int) = (m : Int) := by rw [IntKind.wrap_u32]; omega
  clear hm
  go_enter Try.func21, Try.ntmps21
  go_wp2_with (go_at_call 20; (with_reducible refine (CP.out _).mono ?_); rintro e w1 ⟨rfl, hb⟩; have HB := Lib.hid hb; clear hb)
  go_ret
  exact ⟨rfl, HB.out⟩
theorem put1_any (n : Nat) (w : World) (h : n < 256) : Calls Try.prog 20 #[.int .u32 (n : Int), .int .i64 1] w fun e w' => e = .returned (.string ⟨(byt 1 n).toArray⟩) ∧ Below w.heap.size w w' := put_any n 1 w (by omega) (by omega)
set_option maxHeartbeats 2000000 in
theorem rstep_any (d : Int) (sh sm : Nat) (w : World) (h : -100000 ≤ d ∧ d ≤ 100000) (hs : sh + sm < 1000) : Calls Try.prog 19 #[.int .i64 d, .int .i64 (sh : Int), .int .i64 (sm : Int)] w fun e w' => e = .returned (.tuple #[.int .i64 (stF d sh sm : Int), .string ⟨(stB d).toArray⟩, .bool (decide (okS d))]) ∧ Below w.heap.size w w' := by
  have HB0 := Lib.hid (Below.refl w.heap.size w)
  have e9 : IntKind.i64.wrap ((sh : Int) + (sm : Int)) = ((sh + sm : Nat) : Int) := by rw [i64_in _ (by omega)]; omega
  obtain ⟨t, ht⟩ : ∃ t, t = sh + sm := ⟨_, rfl⟩
  rw [← ht] at e9
  by_cases h0 : d = 0
  · subst h0
    have eF : stF 0 sh sm = sm := rfl
    have eS : stB 0 = [] := rfl
    have eO : decide (okS 0) = true := rfl
    rw [eF, eS, eO]
    clear eF eS eO ht
    go_enter Try.func19, Try.ntmps19
    go_wp2_with fail
    go_ret3
    exact ⟨rfl, HB0.out⟩
  · have e0 : (d == 0) = false := by simp [h0]
    by_cases h1 : 0 < d ∧ d < 256
    · have eF : stF d sh sm = t := by unfold stF; rw [if_neg h0, if_pos h1, ht]
      have eO : decide (okS d) = true := decide_eq_true ⟨by omega, by omega⟩
      have eS : stB d = byt 1 d.natAbs := by unfold stB; rw [if_neg h0, if_pos (by omega)]
      rw [eF, eS, eO]
      obtain ⟨a, ha⟩ : ∃ a, a = d.natAbs := ⟨_, rfl⟩
      have hda : d = (a : Int) := by omega
      rw [← ha]
      subst hda
      have CP := Lib.hid (fun W => put1_any a W (by omega))
      have e2 : IntKind.u32.wrap (a : Int) = (a : Int) := by rw [IntKind.wrap_u32]; omega
      have e3 : 0 < a := by omega
      have e4 : decide ((a : Int) < 256) = true := decide_eq_true h1.2
      clear eF eS eO h0 h1 h ha ht
      go_enter Try.func19, Try.ntmps19
      go_wp2_with (go_at_call 20; (with_reducible refine (CP.out _).mono ?_); rintro e w1 ⟨rfl, hb⟩; have HB := Lib.hid hb; clear hb)
      go_ret3
      exact ⟨rfl, HB.out⟩
    · by_cases h2 : -256 < d ∧ d < 0
      · have eF : stF d sh sm = sh := by unfold stF; rw [if_neg h0, if_neg h1, if_pos h2]
        have eO : decide (okS d) = true := decide_eq_true ⟨by omega, by omega⟩
        have eS : stB d = byt 1 d.natAbs := by unfold stB; rw [if_neg h0, if_pos (by omega)]
        rw [eF, eS, eO]
        obtain ⟨a, ha⟩ : ∃ a, a = d.natAbs := ⟨_, rfl⟩
        rw [← ha]
        have CP := Lib.hid (fun W => put1_any a W (by omega))
        have e1 : IntKind.i64.wrap (-d) = (a : Int) := by rw [i64_in _ (by omega)]; omega
        have e2 : IntKind.u32.wrap (a : Int) = (a : Int) := by rw [IntKind.wrap_u32]; omega
        have e5 : decide (0 < d) = false := decide_eq_false (by omega)
        have e6 : decide (d < 0) = true := decide_eq_true h2.2
        have e7 : decide (-256 < d) = true := decide_eq_true h2.1
        clear eF eS eO h0 h1 h2 h ha ht
        go_enter Try.func19, Try.ntmps19
        go_wp2_with (go_at_call 20; (with_reducible refine (CP.out _).mono ?_); rintro e w1 ⟨rfl, hb⟩; have HB := Lib.hid hb; clear hb)
        go_ret3
        exact ⟨rfl, HB.out⟩
      · have eF : stF d sh sm = 0 := by unfold stF; rw [if_neg h0, if_neg h1, if_neg h2]
        have eS : stB d = u2 d := by unfold stB; rw [if_neg h0, if_neg (by omega)]
        have eO : decide (okS d) = (decide (-32768 ≤ d) && decide (d ≤ 32767)) := (decide_eq_decide.2 (show okS d ↔ (-32768 ≤ d ∧ d ≤ 32767) from Iff.rfl)).trans (Bool.decide_and _ _)
        rw [eF, eS]
        have CU := Lib.hid (fun W => rp16_any d W)
        rcases (by omega : (256 ≤ d) ∨ (d ≤ -256)) with h3 | h3
        · have e5 : decide (0 < d) = true := decide_eq_true (by omega)
          have e6 : decide (d < 256) = false := decide_eq_false (by omega)
          have e7 : decide (d < 0) = false := decide_eq_false (by omega)
          have e8 : decide (-32768 ≤ d) = true := decide_eq_true (by omega)
          rw [e8, Bool.true_and] at eO
          rw [eO]
          clear eF eS eO h0 h1 h2 h ht
          go_enter Try.func19, Try.ntmps19
          go_wp2_with (go_at_call 21; (with_reducible refine (CU.out _).mono ?_); rintro e w1 ⟨rfl, hb⟩; have HB := Lib.hid hb; clear hb)
          go_ret3
          exact ⟨rfl, HB.out⟩
        · have e5 : decide (0 < d) = false := decide_eq_false (by omega)
          have e6 : decide (d < 0) = true := decide_eq_true (by omega)
          have e7 : decide (-256 < d) = false := decide_eq_false (by omega)
          by_cases h4 : -32768 ≤ d
          · have e8 : decide (d ≤ 32767) = true := decide_eq_true (by omega)
            have e10 : decide (-32768 ≤ d) = true := decide_eq_true h4
            rw [e8, e10] at eO
            rw [eO]
            clear eF eS eO h0 h1 h2 h ht
            go_enter Try.func19, Try.ntmps19
            go_wp2_with (go_at_call 21; (with_reducible refine (CU.out _).mono ?_); rintro e w1 ⟨rfl, hb⟩; have HB := Lib.hid hb; clear hb)
            go_ret3
            exact ⟨rfl, HB.out⟩
          · have e10 : decide (-32768 ≤ d) = false := decide_eq_false h4
            rw [e10] at eO
            rw [eO]
            clear eF eS eO h0 h1 h2 h ht
            go_enter Try.func19, Try.ntmps19
            go_wp2_with (go_at_call 21; (with_reducible refine (CU.out _).mono ?_); rintro e w1 ⟨rfl, hb⟩; have HB := Lib.hid hb; clear hb)
            go_ret3
            exact ⟨rfl, HB.out⟩
/-- A point's flag. -/
def flg (dx dy : Int) (o : Bool) : Nat := stF dx 2 16 + stF dy 4 32 + (if o then 1 else 0)
theorem stF_16 (d : Int) : stF d 2 16 = 16 ∨ stF d 2 16 = 18 ∨ stF d 2 16 = 2 ∨ stF d 2 16 = 0 := by
  unfold stF; (repeat' split) <;> simp
theorem stF_32 (d : Int) : stF d 4 32 = 32 ∨ stF d 4 32 = 36 ∨ stF d 4 32 = 4 ∨ stF d 4 32 = 0 := by
  unfold stF; (repeat' split) <;> simp
theorem flg_lt (dx dy : Int) (o : Bool) : flg dx dy o < 128 := by
  unfold flg
  rcases stF_16 dx with h | h | h | h <;> rcases stF_32 dy with h' | h' | h' | h' <;> rw [h, h'] <;> cases o <;> decide
theorem or_flags (dx dy : Int) : bits .or .u8 (stF dx 2 16 : Int) (stF dy 4 32 : Int) = ((stF dx 2 16 + stF dy 4 32 : Nat) : Int) := by
  rcases stF_16 dx with h | h | h | h <;> rcases stF_32 dy with h' | h' | h' | h' <;> rw [h, h'] <;> decide
theorem or_one (dx dy : Int) : bits .or .u8 ((stF dx 2 16 + stF dy 4 32 : Nat) : Int) 1 = ((stF dx 2 16 + stF dy 4 32 + 1 : Nat) : Int) := by
  rcases stF_16 dx with h | h | h | h <;> rcases stF_32 dy with h' | h' | h' | h' <;> rw [h, h'] <;> decide
/-- All flags, all x and all y, from a place on. -/
def encF : Int → Int → List Pt → List UInt8
  | _, _, [] => []
  | a, b, p :: r => UInt8.ofNat (flg (p.1 - a) (p.2.1 - b) p.2.2) :: encF p.1 p.2.1 r
def encX : Int → List Pt → List UInt8
  | _, [] => []
  | a, p :: r => stB (p.1 - a) ++ encX p.1 r
def encY : Int → List Pt → List UInt8
  | _, [] => []
  | b, p :: r => stB (p.2.1 - b) ++ encY p.2.1 r
/-- No point is too far from the one ahead. -/
def okSt : Int → Int → List Pt → Prop
  | _, _, [] => True
  | a, b, p :: r => (okS (p.1 - a) ∧ okS (p.2.1 - b)) ∧ okSt p.1 p.2.1 r
instance decSt : ∀ (a b : Int) (P : List Pt), Decidable (okSt a b P)
  | _, _, [] => isTrue trivial
  | _, _, p :: r => @instDecidableAnd _ _ _ (decSt p.1 p.2.1 r)
/-- The last point's x and y. -/
def lX : Int → List Pt → Int
  | a, [] => a
  | _, p :: r => lX p.1 r
def lY : Int → List Pt → Int
  | b, [] => b
  | _, p :: r => lY p.2.1 r
theorem lX_snoc (p : Pt) : ∀ (P : List Pt) (a : Int), lX a (P ++ [p]) = p.1
  | [], _ => rfl
  | q :: r, _ => lX_snoc p r q.1
theorem lY_snoc (p : Pt) : ∀ (P : List Pt) (b : Int), lY b (P ++ [p]) = p.2.1
  | [], _ => rfl
  | q :: r, _ => lY_snoc p r q.2.1
theorem encF_snoc (p : Pt) : ∀ (P : List Pt) (a b : Int), encF a b (P ++ [p]) = encF a b P ++ [UInt8.ofNat (flg (p.1 - lX a P) (p.2.1 - lY b P) p.2.2)]
  | [], _, _ => rfl
  | q :: r, a, b => by simp only [List.cons_append, encF, lX, lY, encF_snoc p r q.1 q.2.1]
theorem encX_snoc (p : Pt) : ∀ (P : List Pt) (a : Int), encX a (P ++ [p]) = encX a P ++ stB (p.1 - lX a P)
  | [], _ => by simp [encX, lX]
  | q :: r, a => by simp only [List.cons_append, encX, lX, encX_snoc p r q.1, List.append_assoc]
theorem encY_snoc (p : Pt) : ∀ (P : List Pt) (b : Int), encY b (P ++ [p]) = encY b P ++ stB (p.2.1 - lY b P)
  | [], _ => by simp [encY, lY]
  | q :: r, b => by simp only [List.cons_append, encY, lY, encY_snoc p r q.2.1, List.append_assoc]
theorem okSt_snoc (p : Pt) : ∀ (P : List Pt) (a b : Int), okSt a b (P ++ [p]) ↔ okSt a b P ∧ (okS (p.1 - lX a P) ∧ okS (p.2.1 - lY b P))
  | [], a, b => by simp [okSt, lX, lY]
  | q :: r, a, b => by simp only [List.cons_append, okSt, lX, lY, okSt_snoc p r q.1 q.2.1, and_assoc]
theorem okSt_app (Q : List Pt) : ∀ (P : List Pt) (a b : Int), okSt a b (P ++ Q) → okSt a b P
  | [], _, _, _ => trivial
  | q :: r, _, _, h => ⟨h.1, okSt_app Q r q.1 q.2.1 h.2⟩
theorem encF_len : ∀ (P : List Pt) (a b : Int), (encF a b P).length = P.length
  | [], _, _ => rfl
  | q :: r, a, b => by simp only [encF, List.length_cons, encF_len r]
theorem encX_len : ∀ (P : List Pt) (a : Int), (encX a P).length ≤ 2 * P.length
  | [], _ => by simp [encX]
  | q :: r, a => by have := encX_len r q.1; have := stB_len (q.1 - a); simp only [encX, List.length_append, List.length_cons]; omega
theorem encY_len : ∀ (P : List Pt) (b : Int), (encY b P).length ≤ 2 * P.length
  | [], _ => by simp [encY]
  | q :: r, b => by have := encY_len r q.2.1; have := stB_len (q.2.1 - b); simp only [encY, List.length_append, List.length_cons]; omega
/-- All points ahead of contour k. -/
def preP (LL : List (List Pt)) : Nat → List Pt
  | 0 => []
  | k + 1 => preP LL k ++ ct LL k
theorem preP_len (LL : List (List Pt)) : ∀ k, (preP LL k).length = tot LL k
  | 0 => rfl
  | k + 1 => by simp only [preP, tot, List.length_append, preP_len LL k]
theorem preP_app (LL : List (List Pt)) : ∀ n k, k ≤ n → ∃ Q, preP LL n = preP LL k ++ Q
  | 0, k, h => ⟨[], by rw [show k = 0 by omega]; simp⟩
  | n + 1, k, h => by
    rcases Nat.lt_or_ge n k with h1 | h1
    · exact ⟨[], by rw [show k = n + 1 by omega]; simp⟩
    · obtain ⟨Q, hQ⟩ := preP_app LL n k h1
      exact ⟨Q ++ ct LL n, by simp only [preP, hQ, List.append_assoc]⟩
theorem take_pt {L : List Pt} {j : Nat} (h : j < L.length) : L.take (j + 1) = L.take j ++ [(px L j, py L j, po L j)] := by
  rw [List.take_succ_eq_append_getElem h]
  unfold px py po
  rw [List.getD_eq_getElem?_getD, List.getElem?_eq_getElem h]
  rfl
/-- All points up to point j of contour k. -/
def upP (LL : List (List Pt)) (k j : Nat) : List Pt := preP LL k ++ (ct LL k).take j
theorem upP_zero (LL : List (List Pt)) (k : Nat) : upP LL k 0 = preP LL k := by simp [upP]
theorem upP_all (LL : List (List Pt)) (k : Nat) : upP LL k (ct LL k).length = preP LL (k + 1) := by simp [upP, preP]
theorem upP_succ {LL : List (List Pt)} {k j : Nat} (h : j < (ct LL k).length) : upP LL k (j + 1) = upP LL k j ++ [(px (ct LL k) j, py (ct LL k) j, po (ct LL k) j)] := by
  unfold upP
  rw [take_pt h, List.append_assoc]
theorem upP_app {LL : List (List Pt)} {n k j : Nat} (hk : k < n) : ∃ Q, preP LL n = upP LL k j ++ Q := by
  obtain ⟨Q, hQ⟩ := preP_app LL n (k + 1) hk
  exact ⟨(ct LL k).drop j ++ Q, by rw [hQ, ← List.append_assoc]; unfold upP; rw [List.append_assoc (preP LL k), List.take_append_drop]; rfl⟩
theorem upP_len {LL : List (List Pt)} {k j : Nat} (h : j ≤ (ct LL k).length) : (upP LL k j).length = tot LL k + j := by
  unfold upP
  rw [List.length_append, preP_len, List.length_take]
  omega
end Go.Proofs.Ytcpphbogadjgfaa
