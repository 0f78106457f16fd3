/- Proved here: what Find answers, the program's and the document's. Condition: a list of tables that lies in memory, of bytes of at most a million each. -/
import Derived.Test.YtphnapnmeidgkaaTa
namespace Go.Proofs.Ytphnapnmeidgkaa
open Go.RowKit

theorem str_eq (x y : List UInt8) : ((⟨x.toArray⟩ : ByteArray).toList == (⟨y.toArray⟩ : ByteArray).toList) = (x == y) := by
  rw [Lib.toList_data, Lib.toList_data]
/-- The bytes of the first table of a tag, and whether there is one. -/
def findL (L : List (List UInt8 × List UInt8)) (t : List UInt8) : List UInt8 × Bool := match L.find? (fun u => u.1 == t) with
  | some u => (u.2, true)
  | none => ([], false)
theorem tg_get {L : List (List UInt8 × List UInt8)} {i : Nat} (hi : i < L.length) : L[i] = (tg L i, dt L i) := by
  unfold tg dt
  rw [List.getD_eq_getElem?_getD, List.getElem?_eq_getElem hi]
  rfl
theorem find_hit {L : List (List UInt8 × List UInt8)} {t : List UInt8} {i : Nat} (hi : i < L.length) (h : ∀ j, j < i → (tg L j == t) = false) (h2 : (tg L i == t) = true) : findL L t = (dt L i, true) := by
  have h3 : L.find? (fun u => u.1 == t) = some L[i] := by
    rw [List.find?_eq_some_iff_getElem]
    refine ⟨by rw [tg_get hi]; exact h2, i, hi, rfl, fun j hj => ?_⟩
    rw [tg_get (by omega), h j hj]
    rfl
  unfold findL
  rw [h3]
  show (L[i].2, true) = _
  rw [tg_get hi]
theorem find_none {L : List (List UInt8 × List UInt8)} {t : List UInt8} (h : ∀ j, j < L.length → (tg L j == t) = false) : findL L t = ([], false) := by
  have h3 : L.find? (fun u => u.1 == t) = none := by
    rw [List.find?_eq_none]
    intro u hu
    obtain ⟨j, hj, rfl⟩ := List.getElem_of_mem hu
    rw [tg_get hj, h j hj]
    simp
  unfold findL
  rw [h3]
set_option maxHeartbeats 2000000 in
theorem find_any (A : Option Addr) (m c : Nat) (L : List (List UInt8 × List UInt8)) (t : List UInt8) (w : World) (h : Tl w A m L) (hm : m ≤ 1000000) (hd : ∀ i, i < m → (dt L i).length ≤ 1000000) :
    Calls Try.prog 46 #[.slice A m c, .string ⟨t.toArray⟩] w fun e w' => e = .returned (.tuple #[.string ⟨(findL L t).1.toArray⟩, .bool (findL L t).2]) ∧ Below w.heap.size w w' := by
  have HX := Lib.hid h
  have HD := Lib.hid hd
  obtain ⟨T, hT⟩ : ∃ T : ByteArray, T = ⟨t.toArray⟩ := ⟨_, rfl⟩
  have HQ := Lib.hid (fun x : List UInt8 => show ((⟨x.toArray⟩ : ByteArray).toList == T.toList) = (x == t) by rw [hT]; exact str_eq x t)
  rw [← hT]
  clear h hd hT
  go_enter Try.func46, Try.ntmps46
  go_wp2_with fail
  go_loopw [10] (fun i wr => ∃ k : Nat, i = .int .i64 (k : Int) ∧ k ≤ m ∧ (∀ j, j < k → (tg L j == t) = false) ∧ Below w.heap.size w wr) (fun i _ => m - (intOf i).toNat)
  case atStart => exact ⟨0, rfl, Nat.zero_le _, fun j hj => by omega, Below.refl _ _⟩
  case round =>
    obtain ⟨k, rfl, hk, hno, hb⟩ := hrel
    have HB := Lib.hid hb
    have HN := Lib.hid hno
    clear hb hno
    by_cases hgo : k < m
    · obtain ⟨ad, rfl, c0, c1⟩ := HX.out.at_ HB.out hgo
      have hq := HQ.out (tg L k)
      have hlen := HD.out k hgo
      obtain ⟨X, hX⟩ : ∃ X : ByteArray, X = ⟨(tg L k).toArray⟩ := ⟨_, rfl⟩
      obtain ⟨D, hDD⟩ : ∃ D : ByteArray, D = ⟨(dt L k).toArray⟩ := ⟨_, rfl⟩
      rw [← hX] at c0 hq
      rw [← hDD] at c1
      have hDs : D.size ≤ 1000000000 := by rw [hDD]; show (dt L k).toArray.size ≤ _; rw [List.size_toArray]; omega
      have HC := Lib.hid (fun W => clone_any D W hDs)
      have hBA := Lib.hid (HB.out.alloc HB.out.size (.cells #[.string X, .string D] 35))
      cases he : (tg L k == t)
      · rw [he] at hq
        have HN2 := Lib.hid (show ∀ j, j < k + 1 → (tg L j == t) = false from fun j hj => by
          rcases Nat.lt_or_ge j k with h | h
          · exact HN.out j h
          · rw [show j = k by omega]; exact he)
        clear he hX hDD hDs hlen
        go_wp2_with fail
        exact ⟨⟨k + 1, by simp, by omega, HN2.out, hBA.out⟩, by simp [intOf]; omega⟩
      · rw [he] at hq
        have HF := Lib.hid (find_hit (by rw [HX.out.len]; exact hgo) HN.out he)
        have HE := Lib.hid hDD
        clear he hX hDD hDs hlen
        go_wp2_with (go_at_call 57; (with_reducible refine (HC.out _).mono ?_); rintro e w' ⟨rfl, hb⟩; have B := Lib.hid (hBA.out.trans (hb.mono hBA.out.size)); clear hb)
        go_ret2
        exact ⟨(by rw [HF.out, HE.out] <;> rfl), B.out⟩
    · have HF := Lib.hid (find_none (L := L) (t := t) fun j hj => HN.out j (by have := HX.out.len; omega))
      have hkm : k = m := by omega
      subst hkm
      go_wp2_with fail
      go_ret2
      exact ⟨(by rw [HF.out] <;> rfl), HB.out⟩
set_option maxHeartbeats 2000000 in
theorem rfind_any (A : Option Addr) (m c : Nat) (L : List (List UInt8 × List UInt8)) (t : List UInt8) (w : World) (h : Tl w A m L) (hm : m ≤ 1000000) :
    Calls Try.prog 26 #[.slice A m c, .string ⟨t.toArray⟩] w fun e w' => e = .returned (.tuple #[.string ⟨(findL L t).1.toArray⟩, .bool (findL L t).2]) ∧ w = w' := by
  have HX := Lib.hid h
  obtain ⟨T, hT⟩ : ∃ T : ByteArray, T = ⟨t.toArray⟩ := ⟨_, rfl⟩
  have HQ := Lib.hid (fun x : List UInt8 => show ((⟨x.toArray⟩ : ByteArray).toList == T.toList) = (x == t) by rw [hT]; exact str_eq x t)
  rw [← hT]
  clear h hT
  go_enter Try.func26, Try.ntmps26
  go_wp2_with fail
  go_loopw [6] (fun i wr => ∃ k : Nat, i = .int .i64 (k : Int) ∧ k ≤ m ∧ (∀ j, j < k → (tg L j == t) = false) ∧ wr = w) (fun i _ => m - (intOf i).toNat)
  case atStart => exact ⟨0, rfl, Nat.zero_le _, fun j hj => by omega, rfl⟩
  case round =>
    obtain ⟨k, rfl, hk, hno, rfl⟩ := hrel
    have HN := Lib.hid hno
    clear hno
    by_cases hgo : k < m
    · obtain ⟨ad, rfl, c0, c1⟩ := HX.out.at_ (Below.refl _ _) hgo
      have hq := HQ.out (tg L k)
      obtain ⟨X, hX⟩ : ∃ X : ByteArray, X = ⟨(tg L k).toArray⟩ := ⟨_, rfl⟩
      obtain ⟨D, hDD⟩ : ∃ D : ByteArray, D = ⟨(dt L k).toArray⟩ := ⟨_, rfl⟩
      rw [← hX] at c0 hq
      rw [← hDD] at c1
      cases he : (tg L k == t)
      · rw [he] at hq
        have HN2 := Lib.hid (show ∀ j, j < k + 1 → (tg L j == t) = false from fun j hj => by
          rcases Nat.lt_or_ge j k with h | h
          · exact HN.out j h
          · rw [show j = k by omega]; exact he)
        clear he hX hDD
        go_wp2_with fail
        exact ⟨⟨k + 1, by simp, by omega, HN2.out, by trivial⟩, by simp [intOf]; omega⟩
      · rw [he] at hq
        have HF := Lib.hid (find_hit (by rw [HX.out.len]; exact hgo) HN.out he)
        have HE := Lib.hid hDD
        clear he hX hDD
        go_wp2_with fail
        go_ret2
        exact ⟨(by rw [HF.out, HE.out] <;> rfl), rfl⟩
    · have HF := Lib.hid (find_none (L := L) (t := t) fun j hj => HN.out j (by have := HX.out.len; omega))
      have hkm : k = m := by omega
      subst hkm
      go_wp2_with fail
      go_ret2
      exact ⟨(by rw [HF.out] <;> rfl), rfl⟩
set_option maxHeartbeats 4000000 in
theorem same_any (A A' : Option Addr) (m c c' : Nat) (L : List (List UInt8 × List UInt8)) (w : World) (h : Tl w A m L) (h' : Tl w A' m L) (hm : m ≤ 1000000) : Calls Try.prog 10 #[.slice A m c, .slice A' m c'] w fun e w' => e = .returned (.bool true) ∧ Below w.heap.size w w' := by
  have HX := Lib.hid h
  have HY := Lib.hid h'
  clear h h'
  go_enter Try.func10, Try.ntmps10
  go_wp2_with fail
  go_loopw [5] (fun i wr => ∃ k : Nat, i = .int .i64 (k : Int) ∧ k ≤ m ∧ Below w.heap.size w wr) (fun i _ => m - (intOf i).toNat)
  case atStart => exact ⟨0, rfl, Nat.zero_le _, Below.refl _ _⟩
  case round =>
    obtain ⟨k, rfl, hk, hb⟩ := hrel
    have HB := Lib.hid hb
    clear hb
    by_cases hgo : k < m
    · obtain ⟨ad, rfl, c0, c1⟩ := HX.out.at_ HB.out hgo
      obtain ⟨ad2, rfl, d0, d1⟩ := HY.out.at_ HB.out hgo
      obtain ⟨X, hX⟩ : ∃ X : ByteArray, X = ⟨(tg L k).toArray⟩ := ⟨_, rfl⟩
      obtain ⟨D, hDD⟩ : ∃ D : ByteArray, D = ⟨(dt L k).toArray⟩ := ⟨_, rfl⟩
      rw [← hX] at c0 d0
      rw [← hDD] at c1 d1
      clear hX hDD
      go_wp2_with fail
      go_quiet (fail)
      all_goals
        go_wp2_with fail
        exact ⟨⟨k + 1, by simp, by omega, below_drewN HB.out _⟩, by simp [intOf]; omega⟩
    · have hkm : k = m := by omega
      subst hkm
      go_wp2_with fail
      go_ret
      exact ⟨rfl, HB.out⟩
end Go.Proofs.Ytphnapnmeidgkaa
