/- Proved here: which tags may be, how many bytes 0 are behind a table, and lists of tables as they lie in memory. Condition: texts of at most a billion bytes. -/
import Derived.Test.YtlidagofjkilgaaPa
import Derived.Test.YtlidagofjkilgaaBa
namespace Go.Proofs.Ytlidagofjkilgaa
open Go.RowKit

theorem all_take {l : List UInt8} {k : Nat} (h : k < l.length) : (l.take (k + 1)).all chOK = ((l.take k).all chOK && (decide (32 ≤ bat l k) && decide (bat l k ≤ 126))) := by
  rw [List.take_succ_eq_append_getElem h, List.all_append]
  simp [chOK, bat, h]
set_option maxHeartbeats 2000000 in
theorem may_any (s : ByteArray) (w : World) (hs : s.data.toList.length ≤ 1000000000) : Calls Try.prog 33 #[.string s] w fun e w' => e = .returned (.bool (tagOK s.data.toList)) ∧ w = w' := by
  obtain ⟨l, hl⟩ : ∃ l, l = s.data.toList := ⟨_, rfl⟩
  obtain ⟨n, hn⟩ : ∃ n, n = l.length := ⟨_, rfl⟩
  have hsz : s.size = n := by rw [hn, hl]; simp
  have hidx := fun (k : Nat) (hk : k < n) (W : World) => idx_run s k (by rw [← hl, ← hn]; exact hk) (k : Int) rfl W
  rw [← hl] at hidx ⊢ hs
  rw [← hn] at hs
  have HT := Lib.hid (fun k (h : k < n) => all_take (l := l) (k := k) (by omega))
  have HB := Lib.hid (fun k (h : k < n) (h2 : (l.take (k + 1)).all chOK = false) => show tagOK l = false from by
    unfold tagOK
    have h3 : l.all chOK = false := by
      rw [← List.take_append_drop (k + 1) l, List.all_append, h2]; rfl
    rw [h3, Bool.and_false])
  have HE := Lib.hid (show (l.take n).all chOK = true → tagOK l = decide (n = 4) from fun h => by
    rw [hn, List.take_length] at h
    unfold tagOK
    rw [h, ← hn, Bool.and_true])
  have HI := Lib.hid hidx
  clear hl hn hidx
  go_enter Try.func33, Try.ntmps33
  go_wp2_with fail
  go_loopw [6] (fun i wr => ∃ k : Nat, i = .int .i64 (k : Int) ∧ k ≤ n ∧ (l.take k).all chOK = true ∧ wr = w) (fun i _ => n - (intOf i).toNat)
  case atStart => exact ⟨0, rfl, by omega, rfl, rfl⟩
  case round =>
    obtain ⟨k, rfl, hk, ha, rfl⟩ := hrel
    rcases Nat.lt_or_ge k n with hkn | hkn
    · have hik := fun W => HI.out k hkn W
      have hstep := HT.out k hkn
      rw [ha, Bool.true_and] at hstep
      obtain ⟨c, hc⟩ : ∃ c, c = bat l k := ⟨_, rfl⟩
      rw [← hc] at hik hstep
      clear hc ha
      by_cases h1 : 32 ≤ c
      · have d1 : decide ((c : Int) < 32) = false := decide_eq_false (by omega)
        by_cases h2 : c ≤ 126
        · have d2 : decide (126 < (c : Int)) = false := decide_eq_false (by omega)
          have HS := Lib.hid (show (l.take (k + 1)).all chOK = true by rw [hstep, decide_eq_true h1, decide_eq_true h2]; rfl)
          clear hstep h1 h2
          go_wp2_with fail
          exact ⟨⟨k + 1, by simp, by omega, HS.out, by trivial⟩, by simp [intOf]; omega⟩
        · have d2 : decide (126 < (c : Int)) = true := decide_eq_true (by omega)
          have HS := Lib.hid (HB.out k hkn (by rw [hstep, decide_eq_false h2, Bool.and_false]))
          clear hstep h1 h2
          go_wp2_with fail
          go_ret
          exact ⟨by rw [HS.out]; rfl, rfl⟩
      · have d1 : decide ((c : Int) < 32) = true := decide_eq_true (by omega)
        have HS := Lib.hid (HB.out k hkn (by rw [hstep, decide_eq_false h1, Bool.false_and]))
        clear hstep h1
        go_wp2_with fail
        go_ret
        exact ⟨by rw [HS.out]; rfl, rfl⟩
    · have hkn : k = n := by omega
      subst hkn
      have HF := Lib.hid (HE.out ha)
      clear ha
      by_cases h4 : k = 4
      · have e4 : ((k : Int) == 4) = true := by simp; omega
        have HQ := Lib.hid h4
        clear h4
        go_wp2_with fail
        go_ret
        exact ⟨by rw [HF.out, decide_eq_true HQ.out]; rfl, rfl⟩
      · have e4 : ((k : Int) == 4) = false := by simp; omega
        have HQ := Lib.hid h4
        clear h4
        go_wp2_with fail
        go_ret
        exact ⟨by rw [HF.out, decide_eq_false HQ.out]; rfl, rfl⟩
set_option maxHeartbeats 2000000 in
theorem rtag_any (s : ByteArray) (w : World) : Calls Try.prog 23 #[.string s] w fun e w' => e = .returned (.bool (tagOK s.data.toList)) ∧ w = w' := by
  obtain ⟨l, hl⟩ : ∃ l, l = s.data.toList := ⟨_, rfl⟩
  obtain ⟨n, hn⟩ : ∃ n, n = l.length := ⟨_, rfl⟩
  have hsz : s.size = n := by rw [hn, hl]; simp
  have hidx := fun (k : Nat) (hk : k < n) (W : World) => idx_run s k (by rw [← hl, ← hn]; exact hk) (k : Int) rfl W
  rw [← hl] at hidx ⊢
  have HT := Lib.hid (fun k (h : k < n) => all_take (l := l) (k := k) (by omega))
  have HB := Lib.hid (fun k (h : k < n) (h2 : (l.take (k + 1)).all chOK = false) => show tagOK l = false from by
    unfold tagOK
    have h3 : l.all chOK = false := by
      rw [← List.take_append_drop (k + 1) l, List.all_append, h2]; rfl
    rw [h3, Bool.and_false])
  have HE := Lib.hid (show (l.take n).all chOK = true → tagOK l = decide (n = 4) from fun h => by
    rw [hn, List.take_length] at h
    unfold tagOK
    rw [h, ← hn, Bool.and_true])
  have HN := Lib.hid (show n ≠ 4 → tagOK l = false from fun h => by
    unfold tagOK
    rw [← hn, decide_eq_false h, Bool.false_and])
  have HI := Lib.hid hidx
  clear hl hn hidx
  by_cases h4 : n = 4
  · have e4 : ((n : Int) != 4) = false := by simp; omega
    have HQ := Lib.hid h4
    clear h4
    go_enter Try.func23, Try.ntmps23
    go_wp2_with fail
    go_loopw [3] (fun i wr => ∃ k : Nat, i = .int .i64 (k : Int) ∧ k ≤ 4 ∧ (l.take k).all chOK = true ∧ wr = w) (fun i _ => 4 - (intOf i).toNat)
    case atStart => exact ⟨0, rfl, by omega, rfl, rfl⟩
    case round =>
      obtain ⟨k, rfl, hk, ha, rfl⟩ := hrel
      rcases Nat.lt_or_ge k 4 with hkn | hkn
      · have hik := fun W => HI.out k (by have := HQ.out; omega) W
        have hstep := HT.out k (by have := HQ.out; omega)
        rw [ha, Bool.true_and] at hstep
        have hb0 := HB.out k (by have := HQ.out; omega)
        obtain ⟨c, hc⟩ : ∃ c, c = bat l k := ⟨_, rfl⟩
        rw [← hc] at hik hstep
        clear hc ha
        by_cases h1 : 32 ≤ c
        · have d1 : decide ((c : Int) < 32) = false := decide_eq_false (by omega)
          by_cases h2 : c ≤ 126
          · have d2 : decide (126 < (c : Int)) = false := decide_eq_false (by omega)
            have HS := Lib.hid (show (l.take (k + 1)).all chOK = true by rw [hstep, decide_eq_true h1, decide_eq_true h2]; rfl)
            clear hstep h1 h2 hb0
            go_wp2_with fail
            exact ⟨⟨k + 1, by simp, by omega, HS.out, by trivial⟩, by simp [intOf]; omega⟩
          · have d2 : decide (126 < (c : Int)) = true := decide_eq_true (by omega)
            have HS := Lib.hid (hb0 (by rw [hstep, decide_eq_false h2, Bool.and_false]))
            clear hstep h1 h2 hb0
            go_wp2_with fail
            go_ret
            exact ⟨by rw [HS.out]; rfl, rfl⟩
        · have d1 : decide ((c : Int) < 32) = true := decide_eq_true (by omega)
          have HS := Lib.hid (hb0 (by rw [hstep, decide_eq_false h1, Bool.false_and]))
          clear hstep h1 hb0
          go_wp2_with fail
          go_ret
          exact ⟨by rw [HS.out]; rfl, rfl⟩
      · have hkn : k = 4 := by omega
        subst hkn
        have HF := Lib.hid (show tagOK l = true by rw [HE.out (by rw [HQ.out]; exact ha), decide_eq_true HQ.out])
        clear ha
        go_wp2_with fail
        go_ret
        exact ⟨by rw [HF.out]; rfl, rfl⟩
  · have e4 : ((n : Int) != 4) = true := by simp; omega
    have HF := Lib.hid (HN.out h4)
    clear h4
    go_enter Try.func23, Try.ntmps23
    go_wp2_with fail
    go_ret
    exact ⟨by rw [HF.out]; rfl, rfl⟩
theorem i64_and3 (n : Int) : bits .and .i64 n 3 = n % 4 := by
  have h1 : (BitVec.ofInt 64 3).toNat = 2 ^ 2 - 1 := by decide
  have key : (BitVec.ofInt 64 n &&& BitVec.ofInt 64 3).toNat = (n % ((2 ^ 64 : Nat) : Int)).toNat % 2 ^ 2 := by
    rw [BitVec.toNat_and, BitVec.toNat_ofInt, h1, Nat.and_two_pow_sub_one_eq_mod]
  show IntKind.i64.wrap ((BitVec.ofInt 64 n &&& BitVec.ofInt 64 3).toNat : Nat) = n % 4
  rw [key, IntKind.wrap_i64]
  omega
theorem pad_any (s : ByteArray) (w : World) (hs : s.data.toList.length ≤ 1000000000) : Calls Try.prog 20 #[.string s] w fun e w' => e = .returned (.int .i64 (padn s.data.toList.length : Int)) ∧ w = w' := by
  obtain ⟨n, hn⟩ : ∃ n, n = s.data.toList.length := ⟨_, rfl⟩
  have hsz : s.size = n := by rw [hn]; simp
  rw [← hn] at hs ⊢
  have e1 : IntKind.i64.wrap (-(n : Int)) = -(n : Int) := i64_in _ (by omega)
  have e2 : bits .and .i64 (-(n : Int)) 3 = (padn n : Int) := by
    rw [i64_and3]
    unfold padn
    omega
  clear hn
  go_enter Try.func20, Try.ntmps20
  go_wp2_with fail
  go_ret
  exact ⟨rfl, rfl⟩
/-- A list of tables, as it lies in memory: each a tag and its bytes. -/
structure Tl (w : World) (A : Option Addr) (m : Nat) (L : List (List UInt8 × List UInt8)) : Prop where
  len : L.length = m
  get : ∀ i, i < m → ∃ ad, A = some ad ∧ ad.block < w.heap.size ∧ w.cell? (ad.add (i * 2)) = some (.string ⟨(tg L i).toArray⟩) ∧ w.cell? (ad.add (i * 2 + 1)) = some (.string ⟨(dt L i).toArray⟩)
theorem block_of_add (a : Addr) (n : Nat) : (a.add n).block = a.block := by unfold Addr.add; split <;> rfl
theorem add_next (a : Addr) (n : Nat) : (⟨(a.add n).block, (a.add n).off + 1, none⟩ : Addr) = a.add (n + 1) := by
  unfold Addr.add
  split
  · next h => subst h; simp
  · simp [Nat.add_assoc]
theorem Tl.bel {w w' : World} {A : Option Addr} {m : Nat} {L : List (List UInt8 × List UInt8)} (h : Tl w A m L) (hb : Below w.heap.size w w') : Tl w' A m L :=
  ⟨h.len, fun i hi => by
    obtain ⟨ad, h1, h2, h3, h4⟩ := h.get i hi
    exact ⟨ad, h1, Nat.lt_of_lt_of_le h2 hb.size, by rw [hb.cell (by rw [block_of_add]; exact h2)]; exact h3, by rw [hb.cell (by rw [block_of_add]; exact h2)]; exact h4⟩⟩
/-- The i-th table's cells, as the walk asks for them. -/
theorem Tl.at_ {w : World} {A : Option Addr} {m : Nat} {L : List (List UInt8 × List UInt8)} (h : Tl w A m L) {W : World} (hb : Below w.heap.size w W) {i : Nat} (hi : i < m) :
    ∃ ad, A = some ad ∧ W.cell? (ad.add (i * 2)) = some (.string ⟨(tg L i).toArray⟩) ∧ W.cell? { block := (ad.add (i * 2)).block, off := (ad.add (i * 2)).off + 1 } = some (.string ⟨(dt L i).toArray⟩) := by
  obtain ⟨ad, h1, h2, h3, h4⟩ := h.get i hi
  exact ⟨ad, h1, by rw [hb.cell (by rw [block_of_add]; exact h2)]; exact h3, by rw [add_next, hb.cell (by rw [block_of_add]; exact h2)]; exact h4⟩
end Go.Proofs.Ytlidagofjkilgaa
