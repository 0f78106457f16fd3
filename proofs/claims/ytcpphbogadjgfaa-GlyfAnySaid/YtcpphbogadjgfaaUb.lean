/- Proved here: what the document's along answers. Condition: a reader of a text of at most a billion bytes; at most 100000 points. -/
import Derived.Test.YtcpphbogadjgfaaUa
import Derived.Test.YtcpphbogadjgfaaTd
namespace Go.Proofs.Ytcpphbogadjgfaa
open Go.RowKit

theorem bit_of (f m : Nat) (hf : f < 256) (hm : m = 2 ∨ m = 4 ∨ m = 16 ∨ m = 32) : ∃ q : Nat, (f : Int) / (m : Int) = (q : Int) ∧ q < 256 ∧ (f : Int).tdiv (m : Int) = (q : Int) ∧ IntKind.u32.wrap ((f : Int).tdiv (m : Int)) = (q : Int) ∧ ((q : Int) % 2 == 1) = isS (f : Int) m := by
  have hq : f / m < 256 := by rcases hm with rfl | rfl | rfl | rfl <;> omega
  have h1 : (f : Int).tdiv (m : Int) = ((f / m : Nat) : Int) := by rw [Int.tdiv_eq_ediv_of_nonneg (by omega)]; exact (Int.natCast_ediv f m).symm
  refine ⟨f / m, (Int.natCast_ediv f m).symm, hq, h1, ?_, ?_⟩
  · rw [h1, IntKind.wrap_u32]
    obtain ⟨d, hd⟩ : ∃ d, d = f / m := ⟨_, rfl⟩
    rw [← hd] at hq ⊢
    omega
  unfold isS
  rw [← Int.natCast_ediv f m]
  rcases Nat.mod_two_eq_zero_or_one (f / m) with h | h
  · have e : ((f / m : Nat) : Int) % 2 = 0 := by omega
    rw [e]; rfl
  · have e : ((f / m : Nat) : Int) % 2 = 1 := by omega
    rw [e]; rfl
set_option maxHeartbeats 8000000 in
set_option maxRecDepth 100000 in
theorem along_any (g : Nat) (A : Option Addr) (n c : Nat) (fl : List Int) (sh sm : Nat) (s : ByteArray) (a0 : Nat) (w : World) (hm : (sh = 2 ∧ sm = 16) ∨ (sh = 4 ∧ sm = 32)) (hI : Il .u32 w A n fl) (hA : Nb A g) (hF : FlOk fl) (h : Rd 58 w g s a0 false) (hs : s.size ≤ 1000000000) (ha : a0 ≤ s.size) (hn : n ≤ 100000) :
    Calls Try.prog 32 #[.pointer (some ⟨g, 0, none⟩), .slice A n c, .int .u32 (sh : Int), .int .u32 (sm : Int)] w (FgP 58 .i64 (unts s.data.toList sh sm fl [] a0 0) g s w) := by
  have hlen := hI.len
  have HI := Lib.hid (And.intro hI hA)
  have HFl := Lib.hid hF
  have HS := Lib.hid hs
  have HM := Lib.hid hm
  have S := Lib.hid (RwS.start (e := 3) (K := .i64) h ha)
  obtain ⟨R, hR⟩ : ∃ R, R = unts s.data.toList sh sm fl [] a0 0 := ⟨_, rfl⟩
  rw [← hR]
  have HR0 := Lib.hid hR.symm
  have HE := Lib.hid (show ∀ x r w', R = (x, r) → x ≠ 0 → Onl g w w' → FgP 58 .i64 R g s w (.returned (.tuple #[.slice none 0 0, .int .i64 x])) w' from fun x r w' h1 h2 h3 => fgP_err h1 h2 h3)
  have HF := Lib.hid (show ∀ acc a A c w', R = (0, acc, a) → acc.length = n → RwS 58 3 .i64 w w' g s a false (.slice A n c) acc → FgP 58 .i64 R g s w (.returned (.tuple #[.slice A n c, .int .i64 0])) w' from fun acc a A c w' h1 h0 h2 => by
    subst h1
    have hrow := h2.row
    rw [h0] at hrow
    exact ⟨h2.r.onl, A, _, c, rfl, fun _ => ⟨⟨own_il hrow h0, own_nb hrow h2.r.lg⟩, h2.r.rd, h2.r.le⟩⟩)
  obtain ⟨i3, h3a, h3b, h3c, h3d⟩ := info_parts Try.info3
  have H3 := Lib.hid (And.intro h3a (And.intro h3b (And.intro h3c h3d)))
  have HLn := Lib.hid hlen
  have hsh0 : ¬ sh = 0 := by omega
  have hsm0 : ¬ sm = 0 := by omega
  clear h hs ha hR hI hA hF hm hlen h3a h3b h3c h3d
  go_enter Try.func32, Try.ntmps32
  go_wp2_with fail
  go_loopw [10, 11, 12] (fun v x u wr => ∃ (i : Nat) (acc : List Int) (a : Nat) (z : Int) (A' : Option Addr) (c' : Nat), u = .int .i64 (i : Int) ∧ i ≤ n ∧ x = .int .i64 z ∧ v = .slice A' i c' ∧ okU z ∧ acc.length = i ∧ unts s.data.toList sh sm (fl.drop i) acc a z = R ∧ RwS 58 3 .i64 w wr g s a false (.slice A' i c') acc) (fun _ _ u _ => n - (intOf u).toNat)
  case atStart => exact ⟨0, [], a0, 0, none, 0, rfl, Nat.zero_le _, rfl, rfl, ⟨by decide, by decide⟩, rfl, HR0.out, S.out⟩
  case round =>
    obtain ⟨i, acc, a, z, A', c', rfl, hi, rfl, rfl, hz, hal, hR, hS⟩ := hrel
    have hle := hS.r.le
    have HS1 := Lib.hid hS
    have HAL := Lib.hid hal
    have HR := Lib.hid hR
    have hn1 := hn
    by_cases hgo : i < n
    · obtain ⟨ad, rfl, hc⟩ := HI.out.1.ro HI.out.2 hS.r.onl hgo
      have HC := Lib.hid (show ∀ W, Onl g w W → W.cell? (ad.add i) = some (.int .u32 (co fl i)) from fun W hW => by
        obtain ⟨ad2, h1, h2⟩ := HI.out.1.ro HI.out.2 hW hgo
        injection h1 with h1
        subst h1
        exact h2)
      have hil : i < fl.length := by rw [HLn.out]; exact hgo
      have hd := drop_co hil
      rw [hd] at hR
      obtain ⟨hf1, hf2⟩ := HFl.out i hil
      obtain ⟨f, hf⟩ : ∃ f : Nat, co fl i = (f : Int) := ⟨(co fl i).toNat, by omega⟩
      rw [hf] at hc hR HC
      have hf256 : f < 256 := by omega
      obtain ⟨q1, m1, m2, m3, m4, m5⟩ := bit_of f sh hf256 (by rcases HM.out with ⟨h, _⟩ | ⟨h, _⟩ <;> rw [h] <;> simp)
      obtain ⟨q2, l1, l2, l3, l4, l5⟩ := bit_of f sm hf256 (by rcases HM.out with ⟨_, h⟩ | ⟨_, h⟩ <;> rw [h] <;> simp)
      have hR2 : (if s.data.toList.length < a + widB (isS (f : Int) sh) (isS (f : Int) sm) then ((3, [], 0) : Int × List Int × Nat) else if okU (z + stpB s.data.toList a (isS (f : Int) sh) (isS (f : Int) sm)) then unts s.data.toList sh sm (fl.drop (i + 1)) (acc ++ [z + stpB s.data.toList a (isS (f : Int) sh) (isS (f : Int) sm)]) (a + widB (isS (f : Int) sh) (isS (f : Int) sm)) (z + stpB s.data.toList a (isS (f : Int) sh) (isS (f : Int) sm)) else (2, [], 0)) = R := hR
      rw [size_list] at hR2
      obtain ⟨b1, hb1⟩ : ∃ b, b = isS (f : Int) sh := ⟨_, rfl⟩
      obtain ⟨b2, hb2⟩ : ∃ b, b = isS (f : Int) sm := ⟨_, rfl⟩
      rw [← hb1] at m5 hR2
      rw [← hb2] at l5 hR2
      obtain ⟨hz1, hz2⟩ := hz
      have hbt := bat_lt s.data.toList a
      obtain ⟨hg1, hg2⟩ := sg16_in _ (n2_lt s.data.toList a)
      have HOK := Lib.hid (show ∀ x, okU x ↔ (-32767 ≤ x ∧ x ≤ 32767) from fun x => Iff.rfl)
      clear hal hR hd hf1 hf2 hf hb1 hb2
      cases b1
      · cases b2
        · have hR3 : (if s.size < a + 2 then ((3, [], 0) : Int × List Int × Nat) else if okU (z + sg16 (n2 s.data.toList a)) then unts s.data.toList sh sm (fl.drop (i + 1)) (acc ++ [z + sg16 (n2 s.data.toList a)]) (a + 2) (z + sg16 (n2 s.data.toList a)) else (2, [], 0)) = R := hR2
          clear hR2
          by_cases c2 : s.size < a + 2
          · rw [if_pos c2] at hR3
            have CS := Lib.hid (fun W (hw : RwS 58 3 .i64 w W g s a false (.slice A' i c') acc) => rri16_out g s a W hw.r.rd HS.out hle c2)
            have HX := Lib.hid (fun w' ho => HE.out 3 _ w' hR3.symm (by decide) ho)
            clear hS hR3 c2 hg1 hg2 hbt
            go_wp2_with (go_at_call 28; (with_reducible refine (CS.out _ HS1.out).mono ?_); rintro e w2 ⟨rfl, hr, ho⟩; have H2 := Lib.hid (HS1.out.read hr ho HS1.out.r.le); obtain ⟨_, _, bb, _, _⟩ := hr.facts; clear hr ho)
            go_ret2
            exact HX.out _ H2.out.r.onl
          · rw [if_neg c2] at hR3
            have CS := Lib.hid (fun W (hw : RwS 58 3 .i64 w W g s a false (.slice A' i c') acc) => rri16_in g s a W hw.r.rd HS.out (by omega))
            obtain ⟨y, hy⟩ : ∃ y, y = sg16 (n2 s.data.toList a) := ⟨_, rfl⟩
            rw [← hy] at CS hR3 hg1 hg2
            have HA1 := Lib.hid (show a + 2 ≤ s.size by omega)
            by_cases c3 : okU (z + y)
            · rw [if_pos c3] at hR3
              have HX := Lib.hid (And.intro hR3 c3)
              obtain ⟨c4, c5⟩ := c3
              clear hS hR3 c2 hy
              go_upto_region 18 with (go_at_call 28; (with_reducible refine (CS.out _ HS1.out).mono ?_); rintro e w2 ⟨rfl, hr, ho⟩; have H2 := Lib.hid (HS1.out.read hr ho HA1.out); obtain ⟨_, _, bb, _, _⟩ := hr.facts; clear hr ho)
              have hnn := hn1
              have HB3 := Lib.hid (H2.out.next ((Below.refl _ w2).alloc (Nat.le_refl _) (.cells #[.int .i64 (z + y)] 3)))
              have HR3 := Lib.hid (show (w2.alloc (.cells #[.int .i64 (z + y)] 3)).ownsRow w.heap.size 3 1 (.slice A' i c') i (ci .i64 acc) by have h := HB3.out.row; rw [HAL.out] at h; exact h)
              have HBs := Lib.hid HB3.out.r.onl.size
              go_wp2_with (at_builtin; go_must (refine wpList_append_own _ rfl (.tmp 63) (.tmp 65) 60 rfl w.heap.size 3 i3 _ 1 8 Try.underlying60 H3.out.1 H3.out.2.1 H3.out.2.2.1 H3.out.2.2.2 rfl (by decide) (.slice A' i c') i (ci .i64 acc) rfl HR3.out ⟨w2.heap.size, 0, none⟩ 1 1 [.int .i64 (z + y)] rfl rfl (cells_new _ _ _) (by intro u hu; simp at hu; subst hu; rfl) (by unfold maxLen; omega) (by omega) HBs.out ?_); intro v' w7 hown' hg' _; obtain ⟨A7, c7, rfl⟩ := own_form hown'; have H7 := Lib.hid (HB3.out.push (by decide) (x := z + y) (by rw [HAL.out]; exact hown') hg'); clear hown' hg')
              exact ⟨⟨i + 1, acc ++ [z + y], _, z + y, A7, c7, by simp, by omega, rfl, rfl, HX.out.2, by rw [List.length_append, HAL.out]; rfl, HX.out.1, H7.out⟩, by simp [intOf]; omega⟩
            · rw [if_neg c3] at hR3
              have HX := Lib.hid (fun w' ho => HE.out 2 _ w' hR3.symm (by decide) ho)
              clear hS hR3 c2 hy
              by_cases c4 : z + y < -32767
              · clear c3
                go_wp2_with (go_at_call 28; (with_reducible refine (CS.out _ HS1.out).mono ?_); rintro e w2 ⟨rfl, hr, ho⟩; have H2 := Lib.hid (HS1.out.read hr ho HA1.out); obtain ⟨_, _, bb, _, _⟩ := hr.facts; clear hr ho)
                go_ret2
                exact HX.out _ H2.out.r.onl
              · have c5 : 32767 < z + y := by have := HOK.out (z + y); have h2 := mt this.2 c3; omega
                clear c3
                go_wp2_with (go_at_call 28; (with_reducible refine (CS.out _ HS1.out).mono ?_); rintro e w2 ⟨rfl, hr, ho⟩; have H2 := Lib.hid (HS1.out.read hr ho HA1.out); obtain ⟨_, _, bb, _, _⟩ := hr.facts; clear hr ho)
                go_ret2
                exact HX.out _ H2.out.r.onl
        · have hR3 : (if s.size < a + 0 then ((3, [], 0) : Int × List Int × Nat) else if okU (z + 0) then unts s.data.toList sh sm (fl.drop (i + 1)) (acc ++ [z + 0]) (a + 0) (z + 0) else (2, [], 0)) = R := hR2
          clear hR2
          rw [if_neg (by omega)] at hR3
          rw [Int.add_zero] at hR3
          by_cases c3 : okU (z)
          · rw [if_pos c3] at hR3
            have HX := Lib.hid (And.intro hR3 c3)
            obtain ⟨c4, c5⟩ := c3
            obtain ⟨_, _, bb, _, _⟩ := hS.r.rd.facts
            clear hS hR3
            go_upto_region 18 with fail
            have hnn := hn1
            have HB3 := Lib.hid (HS1.out.next ((Below.refl _ wr).alloc (Nat.le_refl _) (.cells #[.int .i64 (z)] 3)))
            have HR3 := Lib.hid (show (wr.alloc (.cells #[.int .i64 (z)] 3)).ownsRow w.heap.size 3 1 (.slice A' i c') i (ci .i64 acc) by have h := HB3.out.row; rw [HAL.out] at h; exact h)
            have HBs := Lib.hid HB3.out.r.onl.size
            go_wp2_with (at_builtin; go_must (refine wpList_append_own _ rfl (.tmp 63) (.tmp 65) 60 rfl w.heap.size 3 i3 _ 1 8 Try.underlying60 H3.out.1 H3.out.2.1 H3.out.2.2.1 H3.out.2.2.2 rfl (by decide) (.slice A' i c') i (ci .i64 acc) rfl HR3.out ⟨wr.heap.size, 0, none⟩ 1 1 [.int .i64 (z)] rfl rfl (cells_new _ _ _) (by intro u hu; simp at hu; subst hu; rfl) (by unfold maxLen; omega) (by omega) HBs.out ?_); intro v' w7 hown' hg' _; obtain ⟨A7, c7, rfl⟩ := own_form hown'; have H7 := Lib.hid (HB3.out.push (by decide) (x := z) (by rw [HAL.out]; exact hown') hg'); clear hown' hg')
            exact ⟨⟨i + 1, acc ++ [z], _, z, A7, c7, by simp, by omega, rfl, rfl, HX.out.2, by rw [List.length_append, HAL.out]; rfl, HX.out.1, H7.out⟩, by simp [intOf]; omega⟩
          · exact absurd ⟨hz1, hz2⟩ c3
      · cases b2
        · have hR3 : (if s.size < a + 1 then ((3, [], 0) : Int × List Int × Nat) else if okU (z + -(bat s.data.toList a : Int)) then unts s.data.toList sh sm (fl.drop (i + 1)) (acc ++ [z + -(bat s.data.toList a : Int)]) (a + 1) (z + -(bat s.data.toList a : Int)) else (2, [], 0)) = R := hR2
          clear hR2
          by_cases c2 : s.size < a + 1
          · rw [if_pos c2] at hR3
            have CS := Lib.hid (fun W (hw : RwS 58 3 .i64 w W g s a false (.slice A' i c') acc) => num1_out g s a W hw.r.rd HS.out hle c2)
            have HX := Lib.hid (fun w' ho => HE.out 3 _ w' hR3.symm (by decide) ho)
            clear hS hR3 c2 hg1 hg2 hbt
            go_wp2_with (go_at_call 30; (with_reducible refine (CS.out _ HS1.out).mono ?_); rintro e w2 ⟨rfl, hr, ho⟩; have H2 := Lib.hid (HS1.out.read hr ho HS1.out.r.le); obtain ⟨_, _, bb, _, _⟩ := hr.facts; clear hr ho)
            go_ret2
            exact HX.out _ H2.out.r.onl
          · rw [if_neg c2] at hR3
            have CS := Lib.hid (fun W (hw : RwS 58 3 .i64 w W g s a false (.slice A' i c') acc) => num1_in g s a W hw.r.rd HS.out (by omega))
            obtain ⟨y, hy⟩ : ∃ y, y = bat s.data.toList a := ⟨_, rfl⟩
            rw [← hy] at CS hR3 hbt
            rw [show z + -(y : Int) = z - (y : Int) by omega] at hR3
            have HA1 := Lib.hid (show a + 1 ≤ s.size by omega)
            by_cases c3 : okU (z - (y : Int))
            · rw [if_pos c3] at hR3
              have HX := Lib.hid (And.intro hR3 c3)
              obtain ⟨c4, c5⟩ := c3
              clear hS hR3 c2 hy
              go_upto_region 18 with (go_at_call 30; (with_reducible refine (CS.out _ HS1.out).mono ?_); rintro e w2 ⟨rfl, hr, ho⟩; have H2 := Lib.hid (HS1.out.read hr ho HA1.out); obtain ⟨_, _, bb, _, _⟩ := hr.facts; clear hr ho)
              have hnn := hn1
              have HB3 := Lib.hid (H2.out.next ((Below.refl _ w2).alloc (Nat.le_refl _) (.cells #[.int .i64 (z - (y : Int))] 3)))
              have HR3 := Lib.hid (show (w2.alloc (.cells #[.int .i64 (z - (y : Int))] 3)).ownsRow w.heap.size 3 1 (.slice A' i c') i (ci .i64 acc) by have h := HB3.out.row; rw [HAL.out] at h; exact h)
              have HBs := Lib.hid HB3.out.r.onl.size
              go_wp2_with (at_builtin; go_must (refine wpList_append_own _ rfl (.tmp 63) (.tmp 65) 60 rfl w.heap.size 3 i3 _ 1 8 Try.underlying60 H3.out.1 H3.out.2.1 H3.out.2.2.1 H3.out.2.2.2 rfl (by decide) (.slice A' i c') i (ci .i64 acc) rfl HR3.out ⟨w2.heap.size, 0, none⟩ 1 1 [.int .i64 (z - (y : Int))] rfl rfl (cells_new _ _ _) (by intro u hu; simp at hu; subst hu; rfl) (by unfold maxLen; omega) (by omega) HBs.out ?_); intro v' w7 hown' hg' _; obtain ⟨A7, c7, rfl⟩ := own_form hown'; have H7 := Lib.hid (HB3.out.push (by decide) (x := z - (y : Int)) (by rw [HAL.out]; exact hown') hg'); clear hown' hg')
              exact ⟨⟨i + 1, acc ++ [z - (y : Int)], _, z - (y : Int), A7, c7, by simp, by omega, rfl, rfl, HX.out.2, by rw [List.length_append, HAL.out]; rfl, HX.out.1, H7.out⟩, by simp [intOf]; omega⟩
            · rw [if_neg c3] at hR3
              have HX := Lib.hid (fun w' ho => HE.out 2 _ w' hR3.symm (by decide) ho)
              clear hS hR3 c2 hy
              by_cases c4 : z - (y : Int) < -32767
              · clear c3
                go_wp2_with (go_at_call 30; (with_reducible refine (CS.out _ HS1.out).mono ?_); rintro e w2 ⟨rfl, hr, ho⟩; have H2 := Lib.hid (HS1.out.read hr ho HA1.out); obtain ⟨_, _, bb, _, _⟩ := hr.facts; clear hr ho)
                go_ret2
                exact HX.out _ H2.out.r.onl
              · have c5 : 32767 < z - (y : Int) := by have := HOK.out (z - (y : Int)); have h2 := mt this.2 c3; omega
                exfalso; omega
        · have hR3 : (if s.size < a + 1 then ((3, [], 0) : Int × List Int × Nat) else if okU (z + (bat s.data.toList a : Int)) then unts s.data.toList sh sm (fl.drop (i + 1)) (acc ++ [z + (bat s.data.toList a : Int)]) (a + 1) (z + (bat s.data.toList a : Int)) else (2, [], 0)) = R := hR2
          clear hR2
          by_cases c2 : s.size < a + 1
          · rw [if_pos c2] at hR3
            have CS := Lib.hid (fun W (hw : RwS 58 3 .i64 w W g s a false (.slice A' i c') acc) => num1_out g s a W hw.r.rd HS.out hle c2)
            have HX := Lib.hid (fun w' ho => HE.out 3 _ w' hR3.symm (by decide) ho)
            clear hS hR3 c2 hg1 hg2 hbt
            go_wp2_with (go_at_call 30; (with_reducible refine (CS.out _ HS1.out).mono ?_); rintro e w2 ⟨rfl, hr, ho⟩; have H2 := Lib.hid (HS1.out.read hr ho HS1.out.r.le); obtain ⟨_, _, bb, _, _⟩ := hr.facts; clear hr ho)
            go_ret2
            exact HX.out _ H2.out.r.onl
          · rw [if_neg c2] at hR3
            have CS := Lib.hid (fun W (hw : RwS 58 3 .i64 w W g s a false (.slice A' i c') acc) => num1_in g s a W hw.r.rd HS.out (by omega))
            obtain ⟨y, hy⟩ : ∃ y, y = bat s.data.toList a := ⟨_, rfl⟩
            rw [← hy] at CS hR3 hbt
            have HA1 := Lib.hid (show a + 1 ≤ s.size by omega)
            by_cases c3 : okU (z + (y : Int))
            · rw [if_pos c3] at hR3
              have HX := Lib.hid (And.intro hR3 c3)
              obtain ⟨c4, c5⟩ := c3
              clear hS hR3 c2 hy
              go_upto_region 18 with (go_at_call 30; (with_reducible refine (CS.out _ HS1.out).mono ?_); rintro e w2 ⟨rfl, hr, ho⟩; have H2 := Lib.hid (HS1.out.read hr ho HA1.out); obtain ⟨_, _, bb, _, _⟩ := hr.facts; clear hr ho)
              have hnn := hn1
              have HB3 := Lib.hid (H2.out.next ((Below.refl _ w2).alloc (Nat.le_refl _) (.cells #[.int .i64 (z + (y : Int))] 3)))
              have HR3 := Lib.hid (show (w2.alloc (.cells #[.int .i64 (z + (y : Int))] 3)).ownsRow w.heap.size 3 1 (.slice A' i c') i (ci .i64 acc) by have h := HB3.out.row; rw [HAL.out] at h; exact h)
              have HBs := Lib.hid HB3.out.r.onl.size
              go_wp2_with (at_builtin; go_must (refine wpList_append_own _ rfl (.tmp 63) (.tmp 65) 60 rfl w.heap.size 3 i3 _ 1 8 Try.underlying60 H3.out.1 H3.out.2.1 H3.out.2.2.1 H3.out.2.2.2 rfl (by decide) (.slice A' i c') i (ci .i64 acc) rfl HR3.out ⟨w2.heap.size, 0, none⟩ 1 1 [.int .i64 (z + (y : Int))] rfl rfl (cells_new _ _ _) (by intro u hu; simp at hu; subst hu; rfl) (by unfold maxLen; omega) (by omega) HBs.out ?_); intro v' w7 hown' hg' _; obtain ⟨A7, c7, rfl⟩ := own_form hown'; have H7 := Lib.hid (HB3.out.push (by decide) (x := z + (y : Int)) (by rw [HAL.out]; exact hown') hg'); clear hown' hg')
              exact ⟨⟨i + 1, acc ++ [z + (y : Int)], _, z + (y : Int), A7, c7, by simp, by omega, rfl, rfl, HX.out.2, by rw [List.length_append, HAL.out]; rfl, HX.out.1, H7.out⟩, by simp [intOf]; omega⟩
            · rw [if_neg c3] at hR3
              have HX := Lib.hid (fun w' ho => HE.out 2 _ w' hR3.symm (by decide) ho)
              clear hS hR3 c2 hy
              by_cases c4 : z + (y : Int) < -32767
              · exfalso; omega
              · have c5 : 32767 < z + (y : Int) := by have := HOK.out (z + (y : Int)); have h2 := mt this.2 c3; omega
                clear c3
                go_wp2_with (go_at_call 30; (with_reducible refine (CS.out _ HS1.out).mono ?_); rintro e w2 ⟨rfl, hr, ho⟩; have H2 := Lib.hid (HS1.out.read hr ho HA1.out); obtain ⟨_, _, bb, _, _⟩ := hr.facts; clear hr ho)
                go_ret2
                exact HX.out _ H2.out.r.onl
    · have hin : i = n := by omega
      subst hin
      have hx : unts s.data.toList sh sm (fl.drop i) acc a z = (0, acc, a) := by rw [List.drop_eq_nil_of_le (by rw [HLn.out]; omega)]; rfl
      have HX := Lib.hid (HF.out acc a A' c' wr (hR.symm.trans hx) hal hS)
      clear hS hal hR hx hle
      go_wp2_with fail
      go_ret2
      exact HX.out
end Go.Proofs.Ytcpphbogadjgfaa
