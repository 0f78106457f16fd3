/- Proved here: what package big's Parse answers. No condition but a text that isn't too long to be held. -/
import Derived.Test.YthmpkejdficmgaaDoorRe
namespace Go.Proofs.YthmpkejdficmgaaDoor
open Go.RowKit

theorem cut_any (s : ByteArray) (w : World) : Calls Tryd.prog 58 #[.string s, .string ⟨#[45]⟩] w fun e w' => e = .returned (.tuple #[.string ⟨(cutN s.data.toList).toArray⟩, .bool (negN s.data.toList)]) ∧ w = w' :=
  (Tryd.strings_CutPrefix s ⟨#[45]⟩ w).mono fun _ _ ⟨h1, h2⟩ => ⟨h1, h2.symm⟩
theorem proper_l (t : List UInt8) (w : World) (hs : t.length ≤ 1000000) : Calls Tryd.prog 59 #[.string ⟨t.toArray⟩] w fun e w' => e = .returned (.bool (decide (Good t))) ∧ w = w' :=
  (proper_any ⟨t.toArray⟩ w hs).mono fun _ _ ⟨h1, h2⟩ => ⟨h1, h2.symm⟩
theorem one_arr (W : World) (c : Nat) : Arr (W.alloc (.cells #[.int .u32 (c : Int)] 61)) .u32 (.slice (some ⟨W.heap.size, 0, none⟩) 1 1) [c] := by
  have h := DB.new .u32 61 W [c]
  have e : (cs .u32 [c]).toArray = #[.int .u32 (c : Int)] := by simp [cs]
  rw [e] at h
  exact h.arr (by simp)
theorem cut_len (l : List UInt8) : (cutN l).length ≤ l.length := by
  rcases cut_case l with ⟨r, rfl, h, _⟩ | ⟨_, h, _⟩
  · rw [h]; simp
  · rw [h]; exact Nat.le_refl _
theorem len_one (c : Nat) : [c].length ≤ 100000 := by simp
theorem eg_one (c : Nat) (h : c < 4294967296) : Eg [c] := fun j => by
  cases j with
  | zero => simpa [dat] using h
  | succ j => simp
/-- What Parse answers. -/
def ParE (c : Nat) (z : Int) (l : Nat) (w : World) (e : Ending) (w' : World) : Prop := ∃ Z, e = .returned (.tuple #[Z, .int .i64 (c : Int)]) ∧ BigC w' Z z l ∧ Below w.heap.size w w'
theorem par_of {z z' : Int} {l l' c : Nat} {w w' : World} {Z : Value} (h : BigE z l w (.returned Z) w') (hz : z = z') (hl : l ≤ l') : ParE c z' l' w (.returned (.tuple #[Z, .int .i64 (c : Int)])) w' := by
  obtain ⟨Z', h1, h2, h3⟩ := h
  injection h1 with h1
  subst h1
  subst hz
  exact ⟨_, rfl, h2.le hl, h3⟩
/-- What is answered of a text, and the number. -/
def pcode (l : List UInt8) : Nat := if 400 < l.length then 6 else if okN l = true then 0 else 4
def pnum (l : List UInt8) : Int := if pcode l = 0 then pval l else 0
theorem nothing (w W : World) (h : B0 24 w W) : BigE 0 0 w (.returned (.agg #[.bool false, .slice none 0 0])) W :=
  ⟨_, rfl, ⟨false, _, [], rfl, Arr.nil _ _, fun j => by simp, ⟨top_nil, fun _ => rfl⟩, Nat.le_refl _, rfl⟩, h.bel⟩
/-- What holds at each round's head. -/
structure PaW (w wr : World) (x : Value) (t : List UInt8) (k : Nat) (xs : List Nat) : Prop where
  arr : Arr wr .u32 x xs
  eg : Eg xs
  top : Top xs
  val : dw xs = dval (t.take k)
  box : B0 24 w wr
theorem PaW.len {w wr : World} {x : Value} {t : List UInt8} {k : Nat} {xs : List Nat} (h : PaW w wr x t k xs) (hg : ∀ c ∈ t, 48 ≤ c.toNat ∧ c.toNat ≤ 57) (hk : k ≤ t.length) : xs.length ≤ k := by
  apply top_len32 h.top
  rw [h.val]
  have := dval_lt (t.take k) (fun c hc => hg c (List.mem_of_mem_take hc))
  rw [List.length_take, Nat.min_eq_left hk] at this
  exact Nat.lt_of_lt_of_le this (Nat.pow_le_pow_left (by decide) k)
theorem PaW.step {w wr W : World} {x y : Value} {t : List UInt8} {k : Nat} {xs zs : List Nat} (h : PaW w wr x t k xs) (hk : k < t.length) (hb : Below wr.heap.size wr W) (ha : Arr W .u32 y (tr zs)) (hz : Eg zs) (hv : dw zs = dw xs * 10 + (bat t k - 48)) : PaW w W y t (k + 1) (tr zs) := by
  refine ⟨ha, tr_eg hz, tr_top zs, ?_, h.box.next hb⟩
  rw [tr_dw, hv, h.val, List.take_succ_eq_append_getElem hk, dval_snoc]
  simp [bat, hk]
set_option maxHeartbeats 4000000 in
theorem parse_long (s : ByteArray) (w : World) (h1 : 400 < s.size) (h2 : s.size ≤ 1000000) : Calls Tryd.prog 31 #[.string s] w (ParE 6 0 400 w) := by
  obtain ⟨n, hn⟩ : ∃ n, n = s.size := ⟨_, rfl⟩
  have hsz : s.size = n := hn.symm
  rw [← hn] at h1 h2
  clear hn
  have H0 := Lib.hid (B0.start 24 w)
  obtain ⟨f3, f4, f5, f6⟩ := H0.out.facts
  have hd : decide (400 < (n : Int)) = true := decide_eq_true (by omega)
  go_enter Tryd.func31, Tryd.ntmps31
  go_wp2_with fail
  exact bodyPost_ret (ret_bx24_2 rfl rfl rfl H0.out.c) rfl (par_of (nothing w _ H0.out) rfl (Nat.zero_le _))
set_option maxHeartbeats 4000000 in
theorem parse_bad (s : ByteArray) (w : World) (h2 : s.size ≤ 400) (hg : ¬ Good (cutN s.data.toList)) : Calls Tryd.prog 31 #[.string s] w (ParE 4 0 400 w) := by
  obtain ⟨n, hn⟩ : ∃ n, n = s.size := ⟨_, rfl⟩
  have hsz : s.size = n := hn.symm
  have hcl : (cutN s.data.toList).length ≤ 1000000 := by have := cut_len s.data.toList; have h3 : s.data.toList.length = s.size := by simp
                                                         omega
  have hc := cut_any s
  obtain ⟨t, ht⟩ : ∃ t, t = cutN s.data.toList := ⟨_, rfl⟩
  obtain ⟨b, hb⟩ : ∃ b, b = negN s.data.toList := ⟨_, rfl⟩
  rw [← ht] at hg hcl hc
  rw [← hb] at hc
  rw [← hn] at h2
  clear hn ht hb
  have HC := Lib.hid (fun W => hc W)
  have hp := fun W => proper_l t W hcl
  rw [decide_eq_false hg] at hp
  have HP := Lib.hid (fun W => hp W)
  clear hc hp hcl hg
  have H0 := Lib.hid (B0.start 24 w)
  obtain ⟨f3, f4, f5, f6⟩ := H0.out.facts
  have hd : decide (400 < (n : Int)) = false := decide_eq_false (by omega)
  go_enter Tryd.func31, Tryd.ntmps31
  go_wp2_with (first | (go_at_call 58; (with_reducible refine (HC.out _).mono ?_); rintro e w1 ⟨rfl, rfl⟩) | (go_at_call 59; (with_reducible refine (HP.out _).mono ?_); rintro e w1 ⟨rfl, rfl⟩))
  exact bodyPost_ret (ret_bx24_2 rfl rfl rfl H0.out.c) rfl (par_of (nothing w _ H0.out) rfl (Nat.zero_le _))
set_option maxHeartbeats 4000000 in
theorem parse_minus0 (s : ByteArray) (w : World) (h2 : s.size ≤ 400) (hn1 : negN s.data.toList = true) (ht1 : cutN s.data.toList = [48]) : Calls Tryd.prog 31 #[.string s] w (ParE 4 0 400 w) := by
  obtain ⟨n, hn⟩ : ∃ n, n = s.size := ⟨_, rfl⟩
  have hsz : s.size = n := hn.symm
  have hc := cut_any s
  rw [hn1, ht1] at hc
  rw [← hn] at h2
  clear hn
  have HC := Lib.hid (fun W => hc W)
  have hp := fun W => proper_l [48] W (by decide)
  rw [show decide (Good [48]) = true by decide] at hp
  have HP := Lib.hid (fun W => hp W)
  clear hc hp
  have H0 := Lib.hid (B0.start 24 w)
  obtain ⟨f3, f4, f5, f6⟩ := H0.out.facts
  have hd : decide (400 < (n : Int)) = false := decide_eq_false (by omega)
  go_enter Tryd.func31, Tryd.ntmps31
  go_wp2_with (first | (go_at_call 58; (with_reducible refine (HC.out _).mono ?_); rintro e w1 ⟨rfl, rfl⟩) | (go_at_call 59; (with_reducible refine (HP.out _).mono ?_); rintro e w1 ⟨rfl, rfl⟩))
  exact bodyPost_ret (ret_bx24_2 rfl rfl rfl H0.out.c) rfl (par_of (nothing w _ H0.out) rfl (Nat.zero_le _))
set_option maxHeartbeats 8000000 in
theorem parse_good_pos (s : ByteArray) (w : World) (h2 : s.size ≤ 400) (hn1 : negN s.data.toList = false) (hg : Good (cutN s.data.toList)) (_hz : True) : Calls Tryd.prog 31 #[.string s] w (ParE 0 (sv false (dval (cutN s.data.toList))) 400 w) := by
  obtain ⟨n, hn⟩ : ∃ n, n = s.size := ⟨_, rfl⟩
  have hsz : s.size = n := hn.symm
  have hcl : (cutN s.data.toList).length ≤ 400 := by have := cut_len s.data.toList; have h3 : s.data.toList.length = s.size := by simp
                                                     omega
  have hc := cut_any s
  rw [hn1] at hc
  obtain ⟨t, ht⟩ : ∃ t, t = cutN s.data.toList := ⟨_, rfl⟩
  rw [← ht] at hg hcl hc ⊢
  rw [← hn] at h2
  clear hn ht
  have HC := Lib.hid (fun W => hc W)
  have hp := fun W => proper_l t W (by omega)
  rw [decide_eq_true hg] at hp
  have HP := Lib.hid (fun W => hp W)
  have HG := Lib.hid hg.2.2
  have hbk := fun k (hk : k < t.length) => ((good_bat t).1 hg).2.2 k hk
  have HK := Lib.hid hbk
  have hidx := fun (k : Nat) (hk : k < t.length) (W : World) => idx_run ⟨t.toArray⟩ k (by simpa using hk) (k : Int) rfl W
  have HI := Lib.hid hidx
  obtain ⟨m, hm⟩ : ∃ m, m = t.length := ⟨_, rfl⟩
  have htz : (⟨t.toArray⟩ : ByteArray).size = m := by rw [hm]; show t.toArray.size = _; simp
  rw [← hm] at hcl
  have HM := Lib.hid hm
  have he : True := trivial
  clear hc hp hg hbk hidx hm _hz
  have H0 := Lib.hid (B0.start 24 w)
  have hd : decide (400 < (n : Int)) = false := decide_eq_false (by omega)
  go_enter Tryd.func31, Tryd.ntmps31
  go_wp2_with (first | (go_at_call 58; (with_reducible refine (HC.out _).mono ?_); rintro e w1 ⟨rfl, rfl⟩) | (go_at_call 59; (with_reducible refine (HP.out _).mono ?_); rintro e w1 ⟨rfl, rfl⟩))
  go_loopw [31, 6] (fun i x wr => ∃ (k : Nat) (xs : List Nat), i = .int .i64 (k : Int) ∧ k ≤ m ∧ PaW w wr x t k xs) (fun i _ _ => m - (intOf i).toNat)
  case atStart => exact ⟨0, [], rfl, Nat.zero_le _, Arr.nil _ _, fun j => by simp, top_nil, rfl, H0.out⟩
  case round =>
    obtain ⟨k, xs, rfl, hk, hr⟩ := hrel
    obtain ⟨A, c, rfl⟩ := hr.arr.slice
    have hxl := hr.len HG.out (by rw [← HM.out]; exact hk)
    obtain ⟨p, hp⟩ : ∃ p, p = xs.length := ⟨_, rfl⟩
    rw [← hp] at hxl ⊢
    have HR := Lib.hid hr
    rw [← hp] at HR
    have HPL := Lib.hid hp
    clear hr hp
    rcases Nat.lt_or_ge k m with hkm | hkm
    · have hd1 : decide ((k : Int) < (m : Int)) = true := decide_eq_true (by omega)
      have hik := fun W => HI.out k (by rw [← HM.out]; exact hkm) W
      obtain ⟨hb1, hb2⟩ := HK.out k (by rw [← HM.out]; exact hkm)
      have hik : ∀ W, (Instr.index 9 (.string ⟨t.toArray⟩) (.int .i64 (k : Int))).run Tryd.prog W = .ok (.int .u8 (bat t k : Int)) W := hik
      have h10 := Lib.hid (show ∀ W : World, Arr (W.alloc (.cells #[.int .u32 10] 61)) .u32 (.slice (some ⟨W.heap.size, 0, none⟩) 1 1) [10] from fun W => one_arr W 10)
      have hdg : ((bat t k - 48 : Nat) : Int) = (bat t k : Int) - 48 := by omega
      have hone := fun W => one_arr W (bat t k - 48)
      rw [hdg] at hone
      have HO := Lib.hid (fun W => hone W)
      have HX1 := Lib.hid (HR.out.arr.alloc (.cells #[.int .u32 10] 61))
      have HBA := Lib.hid (bel_a wr (.cells #[.int .u32 10] 61))
      have e10 := Lib.hid (show Eg [10] from eg_one 10 (by decide))
      have ed := Lib.hid (eg_one (bat t k - 48) (by omega))
      clear hone
      go_wp2_with (first
        | (go_at_call 46; (with_reducible refine (times32_any _ _ xs [10] _ HX1.out (h10.out wr) HR.out.eg e10.out (by rw [← HPL.out]; omega) (by decide)).mono ?_); rintro e w1 ⟨z, zs, rfl, hz1, hz2, hz3, hz4, hb⟩; obtain ⟨B, cB, rfl⟩ := hz1.slice; have hzl : zs.length ≤ 100000 := (by have h5 : xs.length ≤ 400 := (by rw [← HPL.out]; omega); have h6 : [10].length = 1 := rfl; omega); have HZ := Lib.hid (And.intro (hz1.alloc (.cells #[.int .u32 ((bat t k : Int) - 48)] 61)) (And.intro hz2 (And.intro hz3 hz4))); have HB1 := Lib.hid (bel_tr (bel_tr HBA.out hb) (bel_a w1 (.cells #[.int .u32 ((bat t k : Int) - 48)] 61))); clear hz1 hz2 hz3 hz4 hb)
        | (go_at_call 39; (with_reducible refine (plus32_any _ _ zs [bat t k - 48] _ HZ.out.1 (HO.out w1) HZ.out.2.1 ed.out hzl (len_one _)).mono ?_); rintro e w2 ⟨z, ys, rfl, hy1, hy2, hy3, hy4, hb⟩; obtain ⟨C, cC, rfl⟩ := hy1.slice; have HY := Lib.hid (And.intro hy1 (And.intro hy2 hy3)); have HB2 := Lib.hid (bel_tr HB1.out hb); clear hy1 hy2 hy3 hy4 hb)
        | (go_at_call 37; (with_reducible refine (trim32_w _ _ _ ys _ HY.out.1).mono ?_); rintro e w1 ⟨rfl, rfl⟩))
      exact ⟨⟨k + 1, tr ys, by simp, by omega, HR.out.step (by rw [← HM.out]; exact hkm) HB2.out HY.out.1.tr HY.out.2.1 (by rw [HY.out.2.2, HZ.out.2.2.1]; simp [dw])⟩, by simp [intOf]; omega⟩
    · have hkm : k = m := by omega
      subst hkm
      have hbox := Lib.hid HR.out.box
      have HV := Lib.hid (show dw xs = dval t by rw [HR.out.val, HM.out, List.take_length])
      have hd1 : decide ((k : Int) < (k : Int)) = false := decide_eq_false (by omega)
      go_wp2_with (go_at_call 38; (with_reducible refine (form_parts false _ xs _ HR.out.arr HR.out.eg).mono ?_); rintro e w3 ⟨b, C, p', q', ss, rfl, hs, hb3⟩; have HX3 := Lib.hid (hbox.out.next hb3); have HS := Lib.hid hs; clear hs hb3; obtain ⟨f3, f4, f5, f6⟩ := HX3.out.facts)
      exact bodyPost_ret (ret_bx24_2 rfl rfl rfl (HX3.out.fin b _)) rfl (par_of (big_fin0 HX3.out HS.out (by rw [HV.out]) (Nat.le_refl _)) rfl (by rw [← HPL.out]; omega))
set_option maxHeartbeats 8000000 in
theorem parse_good_neg (s : ByteArray) (w : World) (h2 : s.size ≤ 400) (hn1 : negN s.data.toList = true) (hg : Good (cutN s.data.toList)) (hz : cutN s.data.toList ≠ [48]) : Calls Tryd.prog 31 #[.string s] w (ParE 0 (sv true (dval (cutN s.data.toList))) 400 w) := by
  obtain ⟨n, hn⟩ : ∃ n, n = s.size := ⟨_, rfl⟩
  have hsz : s.size = n := hn.symm
  have hcl : (cutN s.data.toList).length ≤ 400 := by have := cut_len s.data.toList; have h3 : s.data.toList.length = s.size := by simp
                                                     omega
  have hc := cut_any s
  rw [hn1] at hc
  obtain ⟨t, ht⟩ : ∃ t, t = cutN s.data.toList := ⟨_, rfl⟩
  rw [← ht] at hz hg hcl hc ⊢
  rw [← hn] at h2
  clear hn ht
  have HC := Lib.hid (fun W => hc W)
  have hp := fun W => proper_l t W (by omega)
  rw [decide_eq_true hg] at hp
  have HP := Lib.hid (fun W => hp W)
  have HG := Lib.hid hg.2.2
  have hbk := fun k (hk : k < t.length) => ((good_bat t).1 hg).2.2 k hk
  have HK := Lib.hid hbk
  have hidx := fun (k : Nat) (hk : k < t.length) (W : World) => idx_run ⟨t.toArray⟩ k (by simpa using hk) (k : Int) rfl W
  have HI := Lib.hid hidx
  obtain ⟨m, hm⟩ : ∃ m, m = t.length := ⟨_, rfl⟩
  have htz : (⟨t.toArray⟩ : ByteArray).size = m := by rw [hm]; show t.toArray.size = _; simp
  rw [← hm] at hcl
  have HM := Lib.hid hm
  have he : (t == [48]) = false := by simpa using hz
  clear hc hp hg hbk hidx hm hz
  have H0 := Lib.hid (B0.start 24 w)
  have hd : decide (400 < (n : Int)) = false := decide_eq_false (by omega)
  go_enter Tryd.func31, Tryd.ntmps31
  go_wp2_with (first | (go_at_call 58; (with_reducible refine (HC.out _).mono ?_); rintro e w1 ⟨rfl, rfl⟩) | (go_at_call 59; (with_reducible refine (HP.out _).mono ?_); rintro e w1 ⟨rfl, rfl⟩))
  go_loopw [31, 6] (fun i x wr => ∃ (k : Nat) (xs : List Nat), i = .int .i64 (k : Int) ∧ k ≤ m ∧ PaW w wr x t k xs) (fun i _ _ => m - (intOf i).toNat)
  case atStart => exact ⟨0, [], rfl, Nat.zero_le _, Arr.nil _ _, fun j => by simp, top_nil, rfl, H0.out⟩
  case round =>
    obtain ⟨k, xs, rfl, hk, hr⟩ := hrel
    obtain ⟨A, c, rfl⟩ := hr.arr.slice
    have hxl := hr.len HG.out (by rw [← HM.out]; exact hk)
    obtain ⟨p, hp⟩ : ∃ p, p = xs.length := ⟨_, rfl⟩
    rw [← hp] at hxl ⊢
    have HR := Lib.hid hr
    rw [← hp] at HR
    have HPL := Lib.hid hp
    clear hr hp
    rcases Nat.lt_or_ge k m with hkm | hkm
    · have hd1 : decide ((k : Int) < (m : Int)) = true := decide_eq_true (by omega)
      have hik := fun W => HI.out k (by rw [← HM.out]; exact hkm) W
      obtain ⟨hb1, hb2⟩ := HK.out k (by rw [← HM.out]; exact hkm)
      have hik : ∀ W, (Instr.index 9 (.string ⟨t.toArray⟩) (.int .i64 (k : Int))).run Tryd.prog W = .ok (.int .u8 (bat t k : Int)) W := hik
      have h10 := Lib.hid (show ∀ W : World, Arr (W.alloc (.cells #[.int .u32 10] 61)) .u32 (.slice (some ⟨W.heap.size, 0, none⟩) 1 1) [10] from fun W => one_arr W 10)
      have hdg : ((bat t k - 48 : Nat) : Int) = (bat t k : Int) - 48 := by omega
      have hone := fun W => one_arr W (bat t k - 48)
      rw [hdg] at hone
      have HO := Lib.hid (fun W => hone W)
      have HX1 := Lib.hid (HR.out.arr.alloc (.cells #[.int .u32 10] 61))
      have HBA := Lib.hid (bel_a wr (.cells #[.int .u32 10] 61))
      have e10 := Lib.hid (show Eg [10] from eg_one 10 (by decide))
      have ed := Lib.hid (eg_one (bat t k - 48) (by omega))
      clear hone
      go_wp2_with (first
        | (go_at_call 46; (with_reducible refine (times32_any _ _ xs [10] _ HX1.out (h10.out wr) HR.out.eg e10.out (by rw [← HPL.out]; omega) (by decide)).mono ?_); rintro e w1 ⟨z, zs, rfl, hz1, hz2, hz3, hz4, hb⟩; obtain ⟨B, cB, rfl⟩ := hz1.slice; have hzl : zs.length ≤ 100000 := (by have h5 : xs.length ≤ 400 := (by rw [← HPL.out]; omega); have h6 : [10].length = 1 := rfl; omega); have HZ := Lib.hid (And.intro (hz1.alloc (.cells #[.int .u32 ((bat t k : Int) - 48)] 61)) (And.intro hz2 (And.intro hz3 hz4))); have HB1 := Lib.hid (bel_tr (bel_tr HBA.out hb) (bel_a w1 (.cells #[.int .u32 ((bat t k : Int) - 48)] 61))); clear hz1 hz2 hz3 hz4 hb)
        | (go_at_call 39; (with_reducible refine (plus32_any _ _ zs [bat t k - 48] _ HZ.out.1 (HO.out w1) HZ.out.2.1 ed.out hzl (len_one _)).mono ?_); rintro e w2 ⟨z, ys, rfl, hy1, hy2, hy3, hy4, hb⟩; obtain ⟨C, cC, rfl⟩ := hy1.slice; have HY := Lib.hid (And.intro hy1 (And.intro hy2 hy3)); have HB2 := Lib.hid (bel_tr HB1.out hb); clear hy1 hy2 hy3 hy4 hb)
        | (go_at_call 37; (with_reducible refine (trim32_w _ _ _ ys _ HY.out.1).mono ?_); rintro e w1 ⟨rfl, rfl⟩))
      exact ⟨⟨k + 1, tr ys, by simp, by omega, HR.out.step (by rw [← HM.out]; exact hkm) HB2.out HY.out.1.tr HY.out.2.1 (by rw [HY.out.2.2, HZ.out.2.2.1]; simp [dw])⟩, by simp [intOf]; omega⟩
    · have hkm : k = m := by omega
      subst hkm
      have hbox := Lib.hid HR.out.box
      have HV := Lib.hid (show dw xs = dval t by rw [HR.out.val, HM.out, List.take_length])
      have hd1 : decide ((k : Int) < (k : Int)) = false := decide_eq_false (by omega)
      go_wp2_with (go_at_call 38; (with_reducible refine (form_parts true _ xs _ HR.out.arr HR.out.eg).mono ?_); rintro e w3 ⟨b, C, p', q', ss, rfl, hs, hb3⟩; have HX3 := Lib.hid (hbox.out.next hb3); have HS := Lib.hid hs; clear hs hb3; obtain ⟨f3, f4, f5, f6⟩ := HX3.out.facts)
      exact bodyPost_ret (ret_bx24_2 rfl rfl rfl (HX3.out.fin b _)) rfl (par_of (big_fin0 HX3.out HS.out (by rw [HV.out]) (Nat.le_refl _)) rfl (by rw [← HPL.out]; omega))
theorem parse_any (s : ByteArray) (w : World) (hs : s.size ≤ 1000000) : Calls Tryd.prog 31 #[.string s] w (ParE (pcode s.data.toList) (pnum s.data.toList) 400 w) := by
  have hl : s.data.toList.length = s.size := by simp
  by_cases h4 : 400 < s.size
  · have e1 : pcode s.data.toList = 6 := by unfold pcode; rw [if_pos (by omega)]
    have e2 : pnum s.data.toList = 0 := by unfold pnum; rw [e1]; rfl
    rw [e1, e2]
    exact parse_long s w h4 hs
  · have e0 : pcode s.data.toList = if okN s.data.toList = true then 0 else 4 := by unfold pcode; rw [if_neg (by omega)]
    by_cases hg : Good (cutN s.data.toList)
    · by_cases hz : negN s.data.toList = true ∧ cutN s.data.toList = [48]
      · have e3 : ¬ okN s.data.toList = true := fun h => (of_decide_eq_true h).2 hz
        have e1 : pcode s.data.toList = 4 := by rw [e0, if_neg e3]
        have e2 : pnum s.data.toList = 0 := by unfold pnum; rw [e1]; rfl
        rw [e1, e2]
        exact parse_minus0 s w (by omega) hz.1 hz.2
      · have e3 : okN s.data.toList = true := decide_eq_true ⟨hg, hz⟩
        have e1 : pcode s.data.toList = 0 := by rw [e0, if_pos e3]
        have e2 : pnum s.data.toList = pval s.data.toList := by unfold pnum; rw [e1]; rfl
        rw [e1, e2]
        unfold pval
        cases hb : negN s.data.toList
        · exact parse_good_pos s w (by omega) hb hg trivial
        · exact parse_good_neg s w (by omega) hb hg (fun h => hz ⟨hb, h⟩)
    · have e3 : ¬ okN s.data.toList = true := fun h => hg (of_decide_eq_true h).1
      have e1 : pcode s.data.toList = 4 := by rw [e0, if_neg e3]
      have e2 : pnum s.data.toList = 0 := by unfold pnum; rw [e1]; rfl
      rw [e1, e2]
      exact parse_bad s w (by omega) hg
end Go.Proofs.YthmpkejdficmgaaDoor
