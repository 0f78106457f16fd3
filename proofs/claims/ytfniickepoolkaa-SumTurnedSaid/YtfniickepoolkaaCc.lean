/- Proved here: what the program's and the document's CRC and sum of a table answer, and Join. Condition: texts of up to 10^6 bytes; numbers of 32 bits. -/
import Derived.Test.YtfniickepoolkaaCb
namespace Go.Proofs.Ytfniickepoolkaa
open Go.RowKit

/-- The byte at a place. -/
def bat (l : List UInt8) (k : Nat) : Nat := (l.getD k 0).toNat
theorem bat_lt (l : List UInt8) (k : Nat) : bat l k < 256 := UInt8.toNat_lt _
theorem idx_run (s : ByteArray) (k : Nat) (hk : k < s.data.toList.length) (i : Int) (hi : i = (k : Int)) (W : World) : (Instr.index 9 (.string s) (.int .i64 i)).run Try.prog W = .ok (.int .u8 (bat s.data.toList k : Int)) W := by
  subst hi
  have hk2 : k < s.size := by simpa using hk
  have hk' : (0 : Int) ≤ (k : Int) ∧ (k : Int) < (s.size : Int) := by omega
  rw [run_index_string W 9 s .i64 (k : Int) (by kernel_rfl), dif_pos hk']
  congr 1
  unfold bat
  simp only [Int.toNat_natCast]
  rw [List.getD_eq_getElem?_getD, List.getElem?_eq_getElem hk]
  simp only [Option.getD_some, Array.getElem_toList]
  rfl
theorem cr_take {l : List UInt8} {k c : Nat} (h : k < l.length) : cr (l.take (k + 1)) c = mvn 8 (cr (l.take k) c ^^^ bat l k) := by
  rw [List.take_succ_eq_append_getElem h, cr_snoc]
  simp [bat, h]
theorem flip_any {x : Nat} (hx : x < 4294967296) : bits .xor .u32 IntKind.u32.max (x : Int) = ((x ^^^ 4294967295 : Nat) : Int) := by
  rw [show IntKind.u32.max = ((4294967295 : Nat) : Int) from rfl, u32_xor_nat _ _ (by decide) hx, Nat.xor_comm]
set_option maxHeartbeats 2000000 in
theorem crc_any (s : ByteArray) (w : World) (hs : s.data.toList.length ≤ 1000000) : Calls Try.prog 7 #[.string s] w fun e w' => e = .returned (.int .u32 (crc s.data.toList : Int)) ∧ w = w' := by
  obtain ⟨l, hl⟩ : ∃ l, l = s.data.toList := ⟨_, rfl⟩
  obtain ⟨n, hn⟩ : ∃ n, n = l.length := ⟨_, rfl⟩
  have hsz : s.size = n := by rw [hn, hl]; simp
  have hidx := fun (k : Nat) (hk : k < n) (W : World) => idx_run s k (by rw [← hl, ← hn]; exact hk) (k : Int) rfl W
  rw [← hl] at hidx ⊢ hs
  rw [← hn] at hs
  have HT := Lib.hid (fun k (h : k < n) => cr_take (l := l) (k := k) (c := 4294967295) (by omega))
  have HL := Lib.hid (show cr (l.take n) 4294967295 = cr l 4294967295 by rw [hn, List.take_length])
  have HI := Lib.hid hidx
  clear hl hn hidx
  go_enter Try.func7, Try.ntmps7
  go_wp2_with fail
  go_loopw [3, 7] (fun v i wr => ∃ k : Nat, i = .int .i64 (k : Int) ∧ k ≤ n ∧ v = .int .u32 (cr (l.take k) 4294967295 : Int) ∧ wr = w) (fun _ i _ => n - (intOf i).toNat)
  case atStart => exact ⟨0, rfl, by omega, by simp [cr], rfl⟩
  case round =>
    obtain ⟨k, rfl, hk, rfl, rfl⟩ := hrel
    have hcl := cr_lt (l.take k) (c := 4294967295) (by decide)
    rcases Nat.lt_or_ge k n with hkn | hkn
    · have hik := fun W => HI.out k hkn W
      have hbk := bat_lt l k
      have hstep := HT.out k hkn
      obtain ⟨c, hc⟩ : ∃ c, c = bat l k := ⟨_, rfl⟩
      obtain ⟨m, hm⟩ : ∃ m, m = cr (l.take k) 4294967295 := ⟨_, rfl⟩
      rw [← hc] at hik hbk
      rw [← hm] at hcl
      rw [← hm, ← hc] at hstep
      have HS := Lib.hid hstep
      rw [← hm]
      have hxor : bits .xor .u32 (m : Int) (c : Int) = ((m ^^^ c : Nat) : Int) := u32_xor_nat m c hcl (by omega)
      have hxl : m ^^^ c < 4294967296 := Nat.xor_lt_two_pow (n := 32) hcl (by omega)
      obtain ⟨x, hx⟩ : ∃ x, x = m ^^^ c := ⟨_, rfl⟩
      rw [← hx] at hxor hxl
      have HX := Lib.hid hx
      clear hm hc hstep hx
      go_wp2_with fail
      go_loopw [3, 16] (fun v i wi => ∃ j : Nat, i = .int .i64 (j : Int) ∧ j ≤ 8 ∧ v = .int .u32 (mvn j x : Int) ∧ wi = wr) (fun _ i _ => 8 - (intOf i).toNat)
      case atStart => exact ⟨0, rfl, by omega, rfl, rfl⟩
      case round =>
        obtain ⟨j, rfl, hj, rfl, rfl⟩ := hrel
        have hml := mvn_lt j hxl
        have hms := Lib.hid (mvn_snoc j x)
        rcases Nat.lt_or_ge j 8 with hj8 | hj8
        · obtain ⟨y, hy⟩ : ∃ y, y = mvn j x := ⟨_, rfl⟩
          rw [← hy] at hml hms ⊢
          have HM := Lib.hid (fun W => move_any y W hml)
          clear hy
          go_wp2_with (go_at_call 12; (with_reducible refine (HM.out _).mono ?_); rintro e w' ⟨rfl, rfl⟩)
          exact ⟨⟨j + 1, by simp, by omega, by rw [hms.out], by trivial⟩, by simp [intOf]; omega⟩
        · have hj8 : j = 8 := by omega
          subst hj8
          go_wp2_with fail
          exact ⟨⟨k + 1, by simp, by omega, by rw [HS.out, HX.out], by trivial⟩, by simp [intOf]; omega⟩
    · have hkn : k = n := by omega
      subst hkn
      rw [HL.out] at hcl ⊢
      have hf : bits .xor .u32 IntKind.u32.max (cr l 4294967295 : Int) = (crc l : Int) := flip_any hcl
      go_wp2_with fail
      go_ret
      exact ⟨rfl, rfl⟩
theorem mv_even {y : Nat} (h : y % 2 = 0) : y / 2 = mv y := by unfold mv; rw [if_neg (by omega), Nat.xor_zero]
theorem mv_odd {y : Nat} (h : y % 2 = 1) : y / 2 ^^^ 3988292384 = mv y := by unfold mv; rw [if_pos h]; rfl
set_option maxRecDepth 100000 in
set_option maxHeartbeats 2000000 in
theorem rcrc_any (s : ByteArray) (w : World) (hs : s.data.toList.length ≤ 1000000) : Calls Try.prog 8 #[.string s] w fun e w' => e = .returned (.int .u32 (crc s.data.toList : Int)) ∧ Below w.heap.size w w' := by
  obtain ⟨l, hl⟩ : ∃ l, l = s.data.toList := ⟨_, rfl⟩
  obtain ⟨n, hn⟩ : ∃ n, n = l.length := ⟨_, rfl⟩
  have hsz : s.size = n := by rw [hn, hl]; simp
  have hidx := fun (k : Nat) (hk : k < n) (W : World) => idx_run s k (by rw [← hl, ← hn]; exact hk) (k : Int) rfl W
  rw [← hl] at hidx ⊢ hs
  rw [← hn] at hs
  have HT := Lib.hid (fun k (h : k < n) => cr_take (l := l) (k := k) (c := 4294967295) (by omega))
  have HL := Lib.hid (show cr (l.take n) 4294967295 = cr l 4294967295 by rw [hn, List.take_length])
  have HI := Lib.hid hidx
  clear hl hn hidx
  go_enter Try.func8, Try.ntmps8
  go_wp2_with fail
  go_loopw [3, 4] (fun v i wr => ∃ k : Nat, i = .int .i64 (k : Int) ∧ k ≤ n ∧ v = .int .u32 (cr (l.take k) 4294967295 : Int) ∧ Below w.heap.size w wr) (fun _ i _ => n - (intOf i).toNat)
  case atStart => exact ⟨0, rfl, by omega, by simp [cr], Below.refl _ _⟩
  case round =>
    obtain ⟨k, rfl, hk, rfl, hb⟩ := hrel
    have HB := Lib.hid hb
    clear hb
    have hcl := cr_lt (l.take k) (c := 4294967295) (by decide)
    rcases Nat.lt_or_ge k n with hkn | hkn
    · have hik := fun W => HI.out k hkn W
      have hbk := bat_lt l k
      have hstep := HT.out k hkn
      obtain ⟨c, hc⟩ : ∃ c, c = bat l k := ⟨_, rfl⟩
      obtain ⟨m, hm⟩ : ∃ m, m = cr (l.take k) 4294967295 := ⟨_, rfl⟩
      rw [← hc] at hik hbk
      rw [← hm] at hcl
      rw [← hm, ← hc] at hstep
      have HS := Lib.hid hstep
      rw [← hm]
      have HM := Lib.hid (fun W => xor_any m c W hcl (by omega))
      have hxl : m ^^^ c < 4294967296 := Nat.xor_lt_two_pow (n := 32) hcl (by omega)
      obtain ⟨x, hx⟩ : ∃ x, x = m ^^^ c := ⟨_, rfl⟩
      rw [← hx] at HM hxl
      have HX := Lib.hid hx
      clear hm hc hstep hx
      go_wp2_with (go_at_call 13; (with_reducible refine (HM.out _).mono ?_); rintro e w1 ⟨rfl, hb⟩; have B1 := Lib.hid (HB.out.trans (hb.mono HB.out.size)); clear hb)
      obtain ⟨wo, hwo⟩ : ∃ W, W = wr := ⟨_, rfl⟩
      subst hwo
      go_loopw [3, 5] (fun v i wi => ∃ j : Nat, i = .int .i64 (j : Int) ∧ j ≤ 8 ∧ v = .int .u32 (mvn j x : Int) ∧ Below w.heap.size w wi) (fun _ i _ => 8 - (intOf i).toNat)
      case atStart => exact ⟨0, rfl, by omega, rfl, B1.out⟩
      case round =>
        obtain ⟨j, rfl, hj, rfl, hb⟩ := hrel
        have B2 := Lib.hid hb
        clear hb
        have hml := mvn_lt j hxl
        have hms := Lib.hid (mvn_snoc j x)
        rcases Nat.lt_or_ge j 8 with hj8 | hj8
        · obtain ⟨y, hy⟩ : ∃ y, y = mvn j x := ⟨_, rfl⟩
          rw [← hy] at hml hms ⊢
          obtain ⟨q, hq⟩ : ∃ q, q = y / 2 := ⟨_, rfl⟩
          have HP := Lib.hid (fun W => xor_any q 3988292384 W (by omega) (by decide))
          have h4 : IntKind.u32.wrap ((y : Int).tdiv 2) = (q : Int) := by rw [Int.tdiv_eq_ediv_of_nonneg (by omega), IntKind.wrap_u32']; omega
          have h5 : (y : Int) / 2 = (q : Int) := by omega
          have hE := mv_even (y := y)
          have hO := mv_odd (y := y)
          rw [← hq] at hE hO
          clear hy hq
          rcases Nat.mod_two_eq_zero_or_one y with h2 | h2
          · have H2 := Lib.hid (hE h2)
            have h3 : ((y : Int) % 2 == 1) = false := by simp; omega
            clear h2 hE hO
            go_wp2_with fail
            exact ⟨⟨j + 1, by simp, by omega, by rw [hms.out, ← H2.out], B2.out⟩, by simp [intOf]; omega⟩
          · have H2 := Lib.hid (hO h2)
            rw [H2.out] at HP
            have h3 : ((y : Int) % 2 == 1) = true := by simp; omega
            have HP := Lib.hid (show ∀ W, Calls Try.prog 13 #[.int .u32 (q : Int), .int .u32 3988292384] W fun e w' => e = .returned (.int .u32 (mv y : Int)) ∧ Below W.heap.size W w' from HP.out)
            clear h2 hE hO
            go_wp2_with (go_at_call 13; (with_reducible refine (HP.out _).mono ?_); rintro e w3 ⟨rfl, hb⟩; have B3 := Lib.hid (B2.out.trans (hb.mono B2.out.size)); clear hb)
            exact ⟨⟨j + 1, by simp, by omega, by rw [hms.out], B3.out⟩, by simp [intOf]; omega⟩
        · have hj8 : j = 8 := by omega
          subst hj8
          go_wp2_with fail
          exact ⟨⟨k + 1, by simp, by omega, by rw [HS.out, HX.out], B2.out⟩, by simp [intOf]; omega⟩
    · have hkn : k = n := by omega
      subst hkn
      rw [HL.out] at hcl ⊢
      have HP := Lib.hid (fun W => xor_any (cr l 4294967295) 4294967295 W hcl (by decide))
      have HP := Lib.hid (show ∀ W, Calls Try.prog 13 #[.int .u32 (cr l 4294967295 : Int), .int .u32 4294967295] W fun e w' => e = .returned (.int .u32 (crc l : Int)) ∧ Below W.heap.size W w' from HP.out)
      go_wp2_with (go_at_call 13; (with_reducible refine (HP.out _).mono ?_); rintro e w3 ⟨rfl, hb⟩; have B3 := Lib.hid (HB.out.trans (hb.mono HB.out.size)); clear hb)
      go_ret
      exact ⟨rfl, B3.out⟩
end Go.Proofs.Ytfniickepoolkaa
