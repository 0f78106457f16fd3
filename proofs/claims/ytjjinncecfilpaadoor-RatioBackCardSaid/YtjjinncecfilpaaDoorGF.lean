/- Proved here: what the reference package's tenth answers: a list of digits divided by ten, and what is left over. Condition: a list of digits that lies in memory. · what the reference package's Text answers. Condition: a number in its one form that lies in memory, of at most 10000 digits. -/
import Derived.Test.YtjjinncecfilpaaDoorGE
import Derived.Test.YtjjinncecfilpaaDoorGC
import Derived.Test.YtjjinncecfilpaaDoorGA
import Derived.Test.YtjjinncecfilpaaDoorProg
namespace Go.Proofs.YtjjinncecfilpaaDoor
open Go.RowKit

/-- What holds at each round's head of tenth: digits from k on have been divided. -/
structure TenW (w wr : World) (xs os : List Nat) (k r : Nat) : Prop where
  db : DB .u64 48 wr w.heap.size os
  dg : Dg os
  len : os.length = xs.length
  zero : ∀ j, j < k → dat os j = 0
  val : ∃ Q, dv os = Q * 65536 ^ k ∧ dv (xs.drop k) = Q * 10 + r
  rl : r < 10
  bel : Below w.heap.size w wr
theorem TenW.start (w : World) (xs : List Nat) (L : Nat) (hL : L = xs.length) : TenW w (w.alloc (.cells (cs .u64 (List.replicate L 0)).toArray 48)) xs (List.replicate L 0) L 0 :=
  ⟨DB.new _ _ w _, dg_zeros L, by simp [hL], fun j _ => dw_zeros_ L j, ⟨0, by rw [dv_zeros]; simp, by rw [hL]; simp [dv]⟩, by decide, bel_a w _⟩
theorem dv_drop (xs : List Nat) (k : Nat) : dv (xs.drop k) = dat xs k + 65536 * dv (xs.drop (k + 1)) := by
  rcases Nat.lt_or_ge k xs.length with h | h
  · rw [List.drop_eq_getElem_cons h, dv]
    simp [dat, h]
  · rw [dat_beyond h, List.drop_eq_nil_of_le h, List.drop_eq_nil_of_le (by omega)]
    simp [dv]
theorem TenW.step {w wr W : World} {xs os : List Nat} {k r q r' : Nat} (h : TenW w wr xs os (k + 1) r) (hW : Below wr.heap.size wr W) (hx : Dg xs) (hk : k < xs.length)
    (hq : q = (r * 65536 + dat xs k) / 10) (hr : r' = (r * 65536 + dat xs k) % 10) :
    TenW w (W.setCell ⟨w.heap.size, k, none⟩ (.int .u64 (q : Int))) xs (os.set k q) k r' := by
  have hX : dat xs k < 65536 := hx k
  have hrl := h.rl
  have hql : q < 65536 := by omega
  obtain ⟨Q, hQ1, hQ2⟩ := h.val
  have h0 : dat os k = 0 := h.zero k (by omega)
  refine ⟨(h.db.bel hW).set_ k q, dg_set h.dg k hql, by simp [h.len], fun j hj => ?_, ⟨Q * 65536 + q, ?_, ?_⟩, by rw [hr]; exact Nat.mod_lt _ (by decide), bel_set (bel_tr h.bel hW) (Nat.le_refl _) _ _⟩
  · have := h.zero j (by omega)
    simp only [dat, List.getD_eq_getElem?_getD] at this ⊢
    rw [List.getElem?_set_ne (by omega)]
    exact this
  · have h1 := dv_set (l := os) q (show k < os.length by rw [h.len]; exact hk)
    have h2 : os.getD k 0 = 0 := h0
    rw [h2, hQ1, Nat.pow_succ] at h1
    generalize 65536 ^ k = P at *
    grind
  · rw [dv_drop, hQ2]
    have h3 := Nat.div_add_mod (r * 65536 + dat xs k) 10
    rw [← hq, ← hr] at h3
    omega
theorem TenW.fin {w wr : World} {xs os : List Nat} {r : Nat} (h : TenW w wr xs os 0 r) (hl : xs.length ≤ 1000000) : Arr wr .u64 (.slice (some ⟨w.heap.size, 0, none⟩) xs.length xs.length) os ∧ Dg os ∧ dv os = dv xs / 10 ∧ r = dv xs % 10 ∧ os.length = xs.length := by
  obtain ⟨Q, hQ1, hQ2⟩ := h.val
  have ha := h.db.arr (by rw [h.len]; exact hl)
  rw [h.len] at ha
  have hrl := h.rl
  simp only [List.drop_zero, Nat.pow_zero, Nat.mul_one] at hQ1 hQ2
  exact ⟨ha, h.dg, by omega, by omega, h.len⟩
/-- What tenth answers. -/
def TenE (x : Nat) (w : World) (e : Ending) (w' : World) : Prop := ∃ (A : Option Addr) (n c r : Nat) (zs : List Nat), e = .returned (.tuple #[.slice A n c, .int .u64 (r : Int)]) ∧ r = x % 10 ∧ Arr w' .u64 (.slice A n c) zs ∧ Dg zs ∧ Top zs ∧ dv zs = x / 10 ∧ Below w.heap.size w w'
def TenH (w wr : World) (xs : List Nat) (k r : Nat) : Prop := ∃ os, TenW w wr xs os k r
set_option maxHeartbeats 2000000 in
set_option maxRecDepth 100000 in
theorem tenth_any (v : Value) (xs : List Nat) (w : World) (hv : Arr w .u64 v xs) (hx : Dg xs) (hxl : xs.length ≤ 100000) :
    Calls Tryd.prog 75 #[v] w (TenE (dv xs) w) := by
  obtain ⟨Av, cv, rfl⟩ := hv.slice
  obtain ⟨m, hm⟩ : ∃ m, m = xs.length := ⟨_, rfl⟩
  rw [← hm] at hv hxl
  have HV := Lib.hid hv
  have HX := Lib.hid hx
  have HS := Lib.hid (TenW.start w xs m hm)
  have hmk := fun w => mk16 m (by omega) w (m : Int) rfl
  have HM := Lib.hid hm
  rw [← hm]
  clear hm hv hx
  go_enter Tryd.func75, Tryd.ntmps75
  go_wp2_with fail
  go_loopw [5, 6] (fun r i wr => ∃ k rn : Nat, i = .int .i64 ((k : Int) - 1) ∧ r = .int .u64 (rn : Int) ∧ k ≤ m ∧ TenH w wr xs k rn) (fun _ i _ => (intOf i + 1).toNat)
  case atStart => exact ⟨m, 0, rfl, rfl, Nat.le_refl _, _, HS.out⟩
  case round =>
    obtain ⟨k, rn, hk, rfl, hkm, os, hr⟩ := hrel
    rcases k with _ | k
    · obtain rfl : u6 = .int .i64 (-1) := hk
      have hf := hr.fin (by rw [← HM.out]; omega)
      rw [← HM.out] at hf
      have HF := Lib.hid hf
      have HB := Lib.hid hr.bel
      clear hf hr
      go_wp2_with (go_at_call 80; (with_reducible refine (trim16_w _ _ _ os _ HF.out.1).mono ?_); rintro e w1 ⟨rfl, rfl⟩)
      go_ret2
      obtain ⟨f1, f2, f3, f4, f5⟩ := HF.out
      exact ⟨some ⟨w.heap.size, 0, none⟩, tl os, m, rn, tr os, rfl, f4, f1.tr, tr_dg f2, tr_top os, by rw [tr_dv, f3], HB.out⟩
    · obtain rfl : u6 = .int .i64 (k : Int) := by rw [hk]; congr 1; omega
      clear hk
      have HVr := Lib.hid (HV.out.bel hr.bel)
      obtain ⟨ad, rfl, _, hca⟩ := HVr.out.get k (by rw [← HM.out]; omega)
      have hX : dat xs k < 65536 := HX.out k
      have hcell := hr.db.cell k (by rw [hr.len, ← HM.out]; omega)
      have hfr := hr.db.fr k
      have HR := Lib.hid hr
      have hrl : rn < 10 := hr.rl
      clear hr
      obtain ⟨S, hS⟩ : ∃ S, S = rn * 65536 + dat xs k := ⟨_, rfl⟩
      obtain ⟨Q, hQ⟩ : ∃ Q, Q = S / 10 := ⟨_, rfl⟩
      obtain ⟨R, hR⟩ : ∃ R, R = S % 10 := ⟨_, rfl⟩
      have F0 : (rn : Int) * 65536 + (dat xs k : Int) = (S : Int) := by omega
      have F1 : (S : Int) / 10 = (Q : Int) := by omega
      have F2 : (S : Int) % 10 = (R : Int) := by omega
      have HQ := Lib.hid (HR.out.step (Below.refl _ _) HX.out (by rw [← HM.out]; omega) (hS ▸ hQ) (hS ▸ hR))
      have hSl : S < 18446744073709551616 := by omega
      clear hQ hR hS
      go_wp2_with fail
      exact ⟨⟨k, R, rfl, by first | rfl | rw [F2], by omega, _, HQ.out⟩, by simp [intOf]⟩
end Go.Proofs.YtjjinncecfilpaaDoor
namespace Go.Proofs.YtjjinncecfilpaaDoor
open Go.RowKit
open Go.Lib (decDigits nDigits)

/-- A digit's letter. -/
def dgB (r : Nat) : UInt8 := UInt8.ofNat (48 + r)
theorem conv_dig (r : Nat) (hr : r < 10) (W : World) : (convert 100 9 (.slice (some ⟨W.heap.size, 0, none⟩) 1 1)).run Tryd.prog (W.alloc (.cells #[.int .u8 (48 + (r : Int))] 5)) =
    .ok (.string ⟨#[dgB r]⟩) (W.alloc (.cells #[.int .u8 (48 + (r : Int))] 5)) := by
  have hn : (dgB r).toNat = 48 + r := by unfold dgB; rw [UInt8.toNat_ofNat']; omega
  exact run_convert_bytes_back (P := Tryd.prog) (W.alloc (.cells #[.int .u8 (48 + (r : Int))] 5)) 100 9 5 ⟨W.heap.size, 0, none⟩ 1 [dgB r] Tryd.underlying100 Tryd.underlying5 Tryd.underlying9 (fun j hj => by
    obtain rfl : j = 0 := by simpa using hj
    have h := cell_one_new W (.int .u8 (48 + (r : Int))) 5 0 _ rfl
    rw [h]
    simp only [List.getElem_cons_zero, hn]
    simp)
def lenS : Value → Nat
  | .string s => s.size
  | _ => 0
/-- What holds at each round's head of the reference's Text. -/
structure TxR (w wr : World) (n : Bool) (v : Value) (x : Nat) (S : ByteArray) (l : Value) (zs : List Nat) : Prop where
  arr : Arr wr .u64 l zs
  dg : Dg zs
  top : Top zs
  fin : zs = [] → S.data.toList = decDigits x
  txt : zs ≠ [] → decDigits x = decDigits (dv zs) ++ S.data.toList
  box : Bx 65 wr w.heap.size n v
  bel : Below w.heap.size w wr
theorem TxR.size {w wr : World} {n : Bool} {v l : Value} {x : Nat} {S : ByteArray} {zs : List Nat} (h : TxR w wr n v x S l zs) (hz : zs ≠ []) : S.size < nDigits x := by
  have h1 := congrArg List.length (h.txt hz)
  rw [List.length_append, Lib.decDigits_length, Lib.decDigits_length] at h1
  have h2 := Lib.nDigits_pos (dv zs)
  have h3 : S.data.toList.length = S.size := by simp
  omega
theorem cons_bytes (b : UInt8) (S : ByteArray) : ((⟨#[b]⟩ : ByteArray) ++ S).data.toList = b :: S.data.toList := by simp
theorem TxR.step {w wr W : World} {n : Bool} {v l l' : Value} {x r : Nat} {S : ByteArray} {zs ys : List Nat} (h : TxR w wr n v x S l zs) (hz : zs ≠ []) (hr : r = dv zs % 10) (hb : Below wr.heap.size wr W) (ha : Arr W .u64 l' ys) (hd : Dg ys) (ht : Top ys) (hv : dv ys = dv zs / 10) :
    TxR w W n v x (⟨#[dgB r]⟩ ++ S) l' ys := by
  have h0 : dv zs ≠ 0 := fun h1 => hz ((top_zero16 h.top).1 h1)
  have h1 := h.txt hz
  refine ⟨ha, hd, ht, fun hy => ?_, fun hy => ?_, h.box.bel hb, bel_tr h.bel hb⟩
  · have h2 : dv ys = 0 := by rw [hy]; rfl
    have h3 : dv zs < 10 := by omega
    rw [cons_bytes, h1, Lib.decDigits_one h3, hr, Nat.mod_eq_of_lt h3]
    rfl
  · have h2 : dv ys ≠ 0 := fun h3 => hy ((top_zero16 ht).1 h3)
    have h3 : 10 ≤ dv zs := by omega
    rw [cons_bytes, h1, dec_big h3, hv, hr]
    simp [dgB]
set_option maxHeartbeats 4000000 in
set_option maxRecDepth 100000 in
theorem rtext_pos (n : Bool) (v : Value) (xs : List Nat) (w : World) (hv : Arr w .u64 v xs) (hx : Dg xs) (ht : Top xs) (hne : xs ≠ []) (hl : xs.length ≤ 10000) (hnd : nDigits (dv xs) ≤ 100000) :
    Calls Tryd.prog 55 #[.agg #[.bool n, v]] w fun e w' => (∃ S : ByteArray, e = .returned (.string S) ∧ S.data.toList = (if n then [45] else []) ++ decDigits (dv xs)) ∧ Below w.heap.size w w' := by
  obtain ⟨A, c, rfl⟩ := hv.slice
  obtain ⟨p, hp⟩ : ∃ p, p = xs.length := ⟨_, rfl⟩
  rw [← hp] at hv hl ⊢
  have hp0 : ¬ p = 0 := fun h => hne (List.eq_nil_of_length_eq_zero (by omega))
  have H0 := Lib.hid (show TxR w (w.alloc (.cells #[.bool n, .slice A p c] 65)) n (.slice A p c) (dv xs) ⟨#[]⟩ (.slice A p c) xs from
    ⟨hv.alloc _, hx, ht, fun h => absurd h hne, fun _ => by simp, Bx.new 65 w _ _, bel_a w _⟩)
  obtain ⟨X, hX⟩ : ∃ X, X = dv xs := ⟨_, rfl⟩
  rw [← hX] at hnd H0 ⊢
  have hd0 : ((p : Int) == 0) = false := by simp; omega
  clear hv hx ht hne hp hX
  go_enter Tryd.func55, Tryd.ntmps55
  go_wp2_with fail
  go_loopw [3, 4] (fun s l wr => ∃ S zs, s = .string S ∧ TxR w wr n (.slice A p c) X S l zs ∧ zs.length ≤ 10000) (fun s _ _ => nDigits X - lenS s)
  case atStart => exact ⟨_, _, rfl, H0.out, by have := (H0.out.arr.slice); obtain ⟨A', c', h⟩ := this; injection h with h1 h2; omega⟩
  case round =>
    obtain ⟨S, zs, rfl, hr, hzl⟩ := hrel
    obtain ⟨A', c', rfl⟩ := hr.arr.slice
    obtain ⟨k, hk⟩ : ∃ k, k = zs.length := ⟨_, rfl⟩
    have HR := Lib.hid hr
    rw [← hk] at HR ⊢ hzl
    have HK := Lib.hid hk
    rcases Nat.eq_zero_or_pos k with h0 | h0
    · have hz : zs = [] := List.eq_nil_of_length_eq_zero (by omega)
      subst h0
      have g0 := hr.box.c0
      have HF := Lib.hid (And.intro (hr.fin hz) hr.bel)
      clear hr hk hz
      cases n
      · go_wp2_with fail
        go_ret
        exact ⟨⟨S, rfl, by simpa using HF.out.1⟩, HF.out.2⟩
      · have hS : S.size ≤ 100000 := by
          have h3 : S.data.toList.length = S.size := by simp
          have := congrArg List.length HF.out.1
          rw [Lib.decDigits_length] at this
          omega
        go_wp2_with fail
        go_ret
        exact ⟨⟨_, rfl, by rw [cons_bytes, HF.out.1]; first | done | rfl⟩, HF.out.2⟩
    · have hz : zs ≠ [] := fun h => by rw [h] at hk; simp at hk; omega
      have hd1 : decide (0 < (k : Int)) = true := decide_eq_true (by omega)
      have hsz := hr.size hz
      have HZ := Lib.hid hz
      have HTN := Lib.hid (tenth_any (.slice A' k c') zs wr HR.out.arr HR.out.dg (by rw [← HK.out]; omega))
      clear hr hk hz
      go_wp2_with (go_at_call 75; (with_reducible refine HTN.out.mono ?_); rintro e w1 ⟨B, n1, c1, r, ys, rfl, hr1, hy1, hy2, hy3, hy4, hb1⟩; have hcv := conv_dig r (by omega) w1; have hr10 : r < 10 := (by omega); have HY := Lib.hid (And.intro hr1 (And.intro hy1 (And.intro hy2 (And.intro hy3 (And.intro hy4 hb1))))); clear hr1 hy1 hy2 hy3 hy4 hb1)
      have hyl : ys.length ≤ 10000 := by
        have h1 : dv ys < 65536 ^ k := by
          have h2 := dv_lt HR.out.dg
          rw [← HK.out] at h2
          have h3 := HY.out.2.2.2.2.1
          exact Nat.lt_of_le_of_lt (by rw [h3]; exact Nat.div_le_self _ _) h2
        have := top_len16 HY.out.2.2.2.1 h1
        omega
      have hsz2 : ((⟨#[dgB r]⟩ : ByteArray) ++ S).size = 1 + S.size := by rw [ByteArray.size_append]; rfl
      exact ⟨⟨_, ys, rfl, HR.out.step HZ.out HY.out.1 (bel_tr HY.out.2.2.2.2.2 (bel_a w1 _)) (HY.out.2.1.alloc _) HY.out.2.2.1 HY.out.2.2.2.1 HY.out.2.2.2.2.1, hyl⟩, by show nDigits X - ((⟨#[dgB r]⟩ : ByteArray) ++ S).size < nDigits X - S.size; omega⟩
theorem nd_le (x l : Nat) (hl : 0 < l) (h : x < 65536 ^ l) : nDigits x ≤ 5 * l := by
  have h1 : x < 10 ^ (5 * l) := by
    rw [Nat.pow_mul]
    exact Nat.lt_of_lt_of_le h (Nat.pow_le_pow_left (by decide) l)
  exact (pad_dec (5 * l) x h1 (by omega)).2
theorem str_of {S : ByteArray} {l : List UInt8} (h : S.data.toList = l) : S = ⟨l.toArray⟩ := by
  subst h
  rfl
set_option maxHeartbeats 1000000 in
theorem rtext_zero (v : Value) (w : World) (hv : Arr w .u64 v []) : Calls Tryd.prog 55 #[.agg #[.bool false, v]] w fun e w' => e = .returned (.string ⟨#[48]⟩) ∧ Below w.heap.size w w' := by
  obtain ⟨A, c, rfl⟩ := hv.slice
  clear hv
  go_enter Tryd.func55, Tryd.ntmps55
  go_wp2_with fail
  go_ret
  exact ⟨rfl, bel_a w _⟩
/-- The reference's Text. -/
theorem rtext_any (X : Value) (x : Int) (l : Nat) (w : World) (hX : NumC w X x l) (hl : l ≤ 10000) : Calls Tryd.prog 55 #[X] w fun e w' => e = .returned (.string ⟨(txt x).toArray⟩) ∧ Below w.heap.size w w' := by
  obtain ⟨n, v, xs, rfl, hv, hx, hc, hxl, rfl⟩ := hX
  by_cases h0 : xs = []
  · subst h0
    have hn := hc.2 rfl
    subst hn
    have e0 : decDigits 0 = [48] := by first | decide | simp [decDigits] | (rw [decDigits]; rfl)
    have e1 : txt (sv false (dv [])) = [48] := by
      show txt 0 = [48]
      unfold txt
      rw [if_neg (by decide)]
      exact e0
    rw [e1]
    exact rtext_zero v w hv
  · have hlen : 0 < xs.length := by
      rcases xs with _ | ⟨a, r⟩
      · exact absurd rfl h0
      · simp
    have hnd : nDigits (dv xs) ≤ 100000 := by
      have := nd_le (dv xs) xs.length hlen (dv_lt hx)
      omega
    have hpos : dv xs ≠ 0 := fun h => h0 ((top_zero16 hc.1).1 h)
    refine (rtext_pos n v xs w hv hx hc.1 h0 (by omega) hnd).mono fun e w' ⟨⟨S, he, hS⟩, hb⟩ => ⟨?_, hb⟩
    rw [he, str_of hS]
    cases n
    · have e1 : txt (sv false (dv xs)) = decDigits (dv xs) := by
        have : ¬ (sv false (dv xs) < 0) := by simp [sv]
        unfold txt
        rw [if_neg this]
        simp [sv]
      rw [e1]
      simp
    · have e1 : txt (sv true (dv xs)) = 45 :: decDigits (dv xs) := by
        have : sv true (dv xs) < 0 := by simp [sv]; omega
        unfold txt
        rw [if_pos this]
        simp [sv]
      rw [e1]
      simp
end Go.Proofs.YtjjinncecfilpaaDoor
