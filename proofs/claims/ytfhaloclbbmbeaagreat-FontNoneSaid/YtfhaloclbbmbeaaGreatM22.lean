/- Proved here: what Make answers, in the program. Condition: a list that lies in memory · what the segments of a part of 4 make of the pairs so far (plain); what number, mayDouble and openShort answer. Condition: a text of at most a billion bytes. -/
import Derived.Test.YtfhaloclbbmbeaaGreatM21
import Derived.Test.YtfhaloclbbmbeaaGreatM18
namespace Go.Proofs.YtfhaloclbbmbeaaGreat
open Go.RowKit
theorem runs_mem (L : List (Int × Int)) : ∀ k, ∀ r ∈ runs L k, (∃ j, j < k ∧ r.1 = cd L j) ∧ (∃ j, j < k ∧ r.2.1 = cd L j) ∧ (∃ j, j < k ∧ r.2.2 = gy L j)
  | 0, r, h => by simp [runs] at h
  | k + 1, r, h => by
    have up : ∀ r' : Int × Int × Int, ((∃ j, j < k ∧ r'.1 = cd L j) ∧ (∃ j, j < k ∧ r'.2.1 = cd L j) ∧ (∃ j, j < k ∧ r'.2.2 = gy L j)) → ((∃ j, j < k + 1 ∧ r'.1 = cd L j) ∧ (∃ j, j < k + 1 ∧ r'.2.1 = cd L j) ∧ (∃ j, j < k + 1 ∧ r'.2.2 = gy L j)) := by
      rintro r' ⟨⟨a, h1, h2⟩, ⟨b, h3, h4⟩, ⟨c, h5, h6⟩⟩
      exact ⟨⟨a, by omega, h2⟩, ⟨b, by omega, h4⟩, ⟨c, by omega, h6⟩⟩
    have ih := runs_mem L k
    simp only [runs] at h
    split at h
    · rename_i hg
      have hp := runs_pos L k hg.1
      unfold stT at h
      rcases List.mem_or_eq_of_mem_set h with h1 | h1
      · exact up r (ih r h1)
      · subst h1
        have h2 : (rF (runs L k) ((runs L k).length - 1), rT (runs L k) ((runs L k).length - 1), rG (runs L k) ((runs L k).length - 1)) ∈ runs L k := by
          have hlt : (runs L k).length - 1 < (runs L k).length := by omega
          have : (rF (runs L k) ((runs L k).length - 1), rT (runs L k) ((runs L k).length - 1), rG (runs L k) ((runs L k).length - 1)) = (runs L k)[(runs L k).length - 1] := by simp [rF, rT, rG, hlt]
          rw [this]; exact List.getElem_mem hlt
        have h3 := up _ (ih _ h2)
        exact ⟨h3.1, ⟨k, by omega, rfl⟩, h3.2.2⟩
    · rcases List.mem_append.1 h with h1 | h1
      · exact up r (ih r h1)
      · simp at h1
        subst h1
        exact ⟨⟨k, by omega, rfl⟩, ⟨k, by omega, rfl⟩, ⟨k, by omega, rfl⟩⟩
theorem at_mem {R : List (Int × Int × Int)} {i : Nat} (h : i < R.length) : (rF R i, rT R i, rG R i) ∈ R := by
  have : (rF R i, rT R i, rG R i) = R[i] := by simp [rF, rT, rG, h]
  rw [this]; exact List.getElem_mem h
theorem runs_in (L : List (Int × Int)) (k i : Nat) (h : i < (runs L k).length) : (∃ j, j < k ∧ rF (runs L k) i = cd L j) ∧ (∃ j, j < k ∧ rT (runs L k) i = cd L j) ∧ (∃ j, j < k ∧ rG (runs L k) i = gy L j) := runs_mem L k _ (at_mem h)
namespace N12
theorem runs_fits32 {L : List (Int × Int)} (h : MayP L 1024) : fits32 (runs L L.length) := by
  intro i hi
  obtain ⟨⟨a, h1, h2⟩, ⟨b, h3, h4⟩, ⟨c, h5, h6⟩⟩ := runs_in L _ i hi
  have q1 := cd_max h a h1
  have q2 := cd_max h b h3
  have q3 := cd_max h c h5
  rw [h2, h4, h6]
  omega
theorem rise_all {L : List (Int × Int)} (h : MayP L 1024) {i : Nat} (hi : i < L.length) : cd L i ≤ cd L (L.length - 1) := rise_le h.rise _ i (by omega) (by omega)
theorem runs_fits16 {L : List (Int × Int)} (h : MayP L 1024) (h2 : L.length = 0 ∨ cd L (L.length - 1) ≤ 65534) : fits16 (runs L L.length) := by
  intro i hi
  obtain ⟨⟨a, h1, h2'⟩, ⟨b, h3, h4⟩, ⟨c, h5, h6⟩⟩ := runs_in L _ i hi
  have q1 := cd_max h a h1
  have q2 := cd_max h b h3
  have q3 := cd_max h c h5
  have p1 := rise_all h h1
  have p2 := rise_all h h3
  rw [h2', h4, h6]
  omega
def okMk (L : List (Int × Int)) (long : Bool) : Prop := MayP L 1024 ∧ (long = true ∨ L.length = 0 ∨ cd L (L.length - 1) ≤ 65534)
instance (L : List (Int × Int)) (long : Bool) : Decidable (okMk L long) := by unfold okMk; infer_instance
def mkE (L : List (Int × Int)) (long : Bool) : Int := if okMk L long then 0 else 1
end N12
def mkB (L : List (Int × Int)) (long : Bool) : List UInt8 := if long then rowB 3 10 ++ lnB (runs L L.length) else rowB 3 1 ++ sgB (runs L L.length ++ [lastR])
namespace N12
def mkS (L : List (Int × Int)) (long : Bool) : List UInt8 := if okMk L long then mkB L long else []
theorem stE_ok {x : Int} {l : List UInt8} {w w' : World} (h : x = 0) {D : ByteArray} (hx : D = ⟨l.toArray⟩) (hb : Below w.heap.size w w') : StE x l w (.returned (.tuple #[.string D, .int .i64 0])) w' := by
  subst h hx
  exact ⟨rfl, hb⟩
theorem mk_no {L : List (Int × Int)} {long : Bool} (h : ¬ okMk L long) : mkE L long = 1 ∧ mkS L long = [] := ⟨if_neg h, if_neg h⟩
theorem mk_yes {L : List (Int × Int)} {long : Bool} (h : okMk L long) : mkE L long = 0 ∧ mkS L long = mkB L long := ⟨if_pos h, if_pos h⟩
end N12
theorem lnB_len (R : List (Int × Int × Int)) : (lnB R).length = 16 + 12 * R.length := by unfold lnB; rw [List.length_append, hdB_len, grsB_len]
theorem sgB_len (R : List (Int × Int × Int)) : (sgB R).length = 16 + 8 * R.length := by
  unfold sgB
  simp only [List.length_append, byt_len, cntB_len, tosB_len, frsB_len, dlsB_len, zerB_len]
  omega
theorem rowB_len (p e : Nat) : (rowB p e).length = 12 := by simp [rowB, byt_len]
namespace N12
theorem make_long (A : Option Addr) (c : Nat) (L : List (Int × Int)) (w : World) (hP : Pl w A L.length L) (hM : MayP L 1024) : Calls Tryz.prog 104 #[.slice A L.length c, .bool true] w (StE (mkE L true) (mkS L true) w) := by
  have hok : okMk L true := ⟨hM, .inl rfl⟩
  have hRl := runs_len_le L L.length
  have hm := hM.2.1
  obtain ⟨h1, h2⟩ := mk_yes hok
  obtain ⟨m, hmL⟩ : ∃ m, m = L.length := ⟨_, rfl⟩
  obtain ⟨R, hR⟩ : ∃ R, R = runs L L.length := ⟨_, rfl⟩
  obtain ⟨D1, hD1⟩ : ∃ D : ByteArray, D = ⟨(rowB 3 10).toArray⟩ := ⟨_, rfl⟩
  obtain ⟨D2, hD2⟩ : ∃ D : ByteArray, D = ⟨(lnB R).toArray⟩ := ⟨_, rfl⟩
  have z1 : D1.size = 12 := by rw [hD1]; show (rowB 3 10).toArray.size = _; rw [List.size_toArray]; exact rowB_len _ _
  have z2 : D2.size ≤ 1000000 := by rw [hD2]; show (lnB R).toArray.size ≤ _; rw [List.size_toArray, lnB_len, hR]; omega
  have HF := Lib.hid (fun w' (hb : Below w.heap.size w w') => stE_ok h1 (D := D1 ++ D2) (show D1 ++ D2 = ⟨(mkS L true).toArray⟩ by rw [h2, hD1, hD2, app_txt, hR]; rfl) hb)
  have g1 : ¬ 9223372036854775807 < D1.size + D2.size := by omega
  have hf := runs_fits32 hM
  have C1 := Lib.hid (show ∀ W, Calls Tryz.prog 176 #[.agg #[.int .u16 3, .int .u16 10]] W fun ee w' => ee = .returned (.string D1) ∧ Below W.heap.size W w' from fun W => by rw [hD1]; exact row_any 3 10 W (by decide) (by decide))
  have C2 := Lib.hid (fun W (h : Pl W A m L) => runs_any A m c L W h hM)
  have C3 := Lib.hid (fun A' c' W (h : Rl W A' R.length R) => makeLong_any A' R.length c' R W h (by rw [hR]; omega) (by rw [hR]; exact hf))
  have CM := Lib.hid (fun W (h : Pl W A m L) => may_any A m c L 1024 W h)
  rw [decide_eq_true hM] at CM
  rw [← hmL] at hP hR ⊢
  rw [← hR] at C2
  rw [← hD2] at C3
  have HP := Lib.hid hP
  have HB := Lib.hid (Below.refl w.heap.size w)
  clear hP hM hok hRl hm h1 h2 hmL hR hD1 hD2 z1 z2 hf
  go_enter Tryz.func104, Tryz.ntmps104
  go_wp2_with (first
    | (go_at_call 45; (with_reducible refine (CM.out _ HP.out).mono ?_); rintro e w1 ⟨rfl, hb⟩; have HB1 := Lib.hid hb; clear hb)
    | (go_at_call 176; (with_reducible refine (C1.out _).mono ?_); rintro e w2 ⟨rfl, hb⟩; have HB2 := Lib.hid (HB1.out.trans (hb.mono HB1.out.size)); clear hb)
    | (go_at_call 178; (with_reducible refine (C2.out _ (HP.out.bel HB2.out)).mono ?_); rintro e w3 ⟨A', c', rfl, ho, hb⟩; have HB3 := Lib.hid (HB2.out.trans (hb.mono HB2.out.size)); have HO := Lib.hid (own_rl ho rfl); clear hb ho)
    | (go_at_call 177; (with_reducible refine (C3.out _ _ _ HO.out).mono ?_); rintro e w4 ⟨rfl, hb⟩; have HB4 := Lib.hid (HB3.out.trans (hb.mono HB3.out.size)); clear hb))
  go_ret2
  exact HF.out _ HB4.out
theorem make_bad (A : Option Addr) (c : Nat) (long : Bool) (L : List (Int × Int)) (w : World) (hP : Pl w A L.length L) (hM : ¬ MayP L 1024) : Calls Tryz.prog 104 #[.slice A L.length c, .bool long] w (StE (mkE L long) (mkS L long) w) := by
  obtain ⟨h1, h2⟩ := mk_no (L := L) (long := long) fun h => hM h.1
  obtain ⟨m, hmL⟩ : ∃ m, m = L.length := ⟨_, rfl⟩
  have HF := Lib.hid (fun w' (hb : Below w.heap.size w w') => stE_err h1 h2 hb)
  have CM := Lib.hid (fun W (h : Pl W A m L) => may_any A m c L 1024 W h)
  rw [decide_eq_false hM] at CM
  rw [← hmL] at hP ⊢
  have HP := Lib.hid hP
  clear hP hM h1 h2 hmL
  go_enter Tryz.func104, Tryz.ntmps104
  go_wp2_with (go_at_call 45; (with_reducible refine (CM.out _ HP.out).mono ?_); rintro e w1 ⟨rfl, hb⟩; have HB1 := Lib.hid hb; clear hb)
  go_ret2
  exact HF.out _ HB1.out
theorem make_far (A : Option Addr) (c : Nat) (L : List (Int × Int)) (w : World) (hP : Pl w A L.length L) (hM : MayP L 1024) (h0 : 0 < L.length) (hx : 65534 < cd L (L.length - 1)) : Calls Tryz.prog 104 #[.slice A L.length c, .bool false] w (StE (mkE L false) (mkS L false) w) := by
  obtain ⟨h1, h2⟩ := mk_no (L := L) (long := false) fun h => by rcases h.2 with h | h | h <;> first | cases h | omega
  have hm := hM.2.1
  obtain ⟨q, hq⟩ : ∃ q, L.length = q + 1 := ⟨L.length - 1, by omega⟩
  obtain ⟨m, hmL⟩ : ∃ m, m = L.length := ⟨_, rfl⟩
  have HF := Lib.hid (fun w' (hb : Below w.heap.size w w') => stE_err h1 h2 hb)
  have CM := Lib.hid (fun W (h : Pl W A m L) => may_any A m c L 1024 W h)
  rw [decide_eq_true hM] at CM
  rw [← hmL] at hP h0 hm hq ⊢
  rw [show L.length - 1 = q by omega] at hx
  have HP := Lib.hid hP
  have e1 : IntKind.i64.wrap ((m : Int) - 1) = (q : Int) := by rw [i64_in _ (by omega)]; omega
  obtain ⟨x, hxx⟩ : ∃ x, x = cd L q := ⟨_, rfl⟩
  have HX := Lib.hid hxx
  rw [← hxx] at hx
  have hqm : q < m := by omega
  clear hP hM h1 h2 hmL hxx hq
  go_enter Tryz.func104, Tryz.ntmps104
  go_upto_region 5 with (go_at_call 45; (with_reducible refine (CM.out _ HP.out).mono ?_); rintro e w1 ⟨rfl, hb⟩; have HB1 := Lib.hid hb; clear hb)
  obtain ⟨a, rfl, c0, c1⟩ := HP.out.at_ HB1.out hqm
  rw [← HX.out] at c0
  have g2 : 65535 ≤ x := by omega
  go_wp2_with fail
  go_ret2
  exact HF.out _ HB1.out
theorem make_short (A : Option Addr) (c : Nat) (L : List (Int × Int)) (w : World) (hP : Pl w A L.length L) (hM : MayP L 1024) (hx : L.length = 0 ∨ cd L (L.length - 1) ≤ 65534) : Calls Tryz.prog 104 #[.slice A L.length c, .bool false] w (StE (mkE L false) (mkS L false) w) := by
  have hok : okMk L false := ⟨hM, .inr hx⟩
  have hRl := runs_len_le L L.length
  have hm := hM.2.1
  obtain ⟨h1, h2⟩ := mk_yes hok
  obtain ⟨m, hmL⟩ : ∃ m, m = L.length := ⟨_, rfl⟩
  obtain ⟨R, hR⟩ : ∃ R, R = runs L L.length := ⟨_, rfl⟩
  obtain ⟨D1, hD1⟩ : ∃ D : ByteArray, D = ⟨(rowB 3 1).toArray⟩ := ⟨_, rfl⟩
  obtain ⟨D2, hD2⟩ : ∃ D : ByteArray, D = ⟨(sgB (R ++ [lastR])).toArray⟩ := ⟨_, rfl⟩
  have z1 : D1.size = 12 := by rw [hD1]; show (rowB 3 1).toArray.size = _; rw [List.size_toArray]; exact rowB_len _ _
  have z2 : D2.size ≤ 1000000 := by rw [hD2]; show (sgB (R ++ [lastR])).toArray.size ≤ _; rw [List.size_toArray, sgB_len, hR]; simp; omega
  have HF := Lib.hid (fun w' (hb : Below w.heap.size w w') => stE_ok h1 (D := D1 ++ D2) (show D1 ++ D2 = ⟨(mkS L false).toArray⟩ by rw [h2, hD1, hD2, app_txt, hR]; rfl) hb)
  have g1 : ¬ 9223372036854775807 < D1.size + D2.size := by omega
  have hf := runs_fits16 hM hx
  have C1 := Lib.hid (show ∀ W, Calls Tryz.prog 176 #[.agg #[.int .u16 3, .int .u16 1]] W fun ee w' => ee = .returned (.string D1) ∧ Below W.heap.size W w' from fun W => by rw [hD1]; exact row_any 3 1 W (by decide) (by decide))
  have C2 := Lib.hid (fun W (h : Pl W A m L) => runs_any A m c L W h hM)
  have C3 := Lib.hid (fun B0 A' c' W (h : W.ownsRow B0 296 3 (.slice A' R.length c') R.length (runC R)) (hB : B0 ≤ W.heap.size) => makeShort_any B0 A' R.length c' R W h rfl (by rw [hR]; omega) (by rw [hR]; exact hf) hB)
  have CM := Lib.hid (fun W (h : Pl W A m L) => may_any A m c L 1024 W h)
  rw [decide_eq_true hM] at CM
  rw [← hmL] at hP hR hx ⊢
  rw [← hR] at C2
  rw [← hD2] at C3
  have HP := Lib.hid hP
  have hm' : m ≤ 4096 := by omega
  clear hM hok hRl hm h1 h2 hR hD1 hD2 z1 z2 hf
  rcases Nat.eq_zero_or_pos m with h0 | h0
  · have h0' : ¬ 0 < m := by omega
    clear hP hmL h0 hx
    go_enter Tryz.func104, Tryz.ntmps104
    go_wp2_with (first
      | (go_at_call 45; (with_reducible refine (CM.out _ HP.out).mono ?_); rintro e w1 ⟨rfl, hb⟩; have HB1 := Lib.hid hb; clear hb)
      | (go_at_call 176; (with_reducible refine (C1.out _).mono ?_); rintro e w2 ⟨rfl, hb⟩; have HB2 := Lib.hid (HB1.out.trans (hb.mono HB1.out.size)); clear hb)
      | (go_at_call 178; (with_reducible refine (C2.out _ (HP.out.bel HB2.out)).mono ?_); rintro e w3 ⟨A', c', rfl, ho, hb⟩; have HB3 := Lib.hid (HB2.out.trans (hb.mono HB2.out.size)); have HO := Lib.hid (And.intro ho hb.size); clear hb ho)
      | (go_at_call 179; (with_reducible refine (C3.out _ _ _ _ HO.out.1 HO.out.2).mono ?_); rintro e w4 ⟨rfl, hb⟩; have HB4 := Lib.hid (HB3.out.trans (hb.mono HB2.out.size)); clear hb))
    go_ret2
    exact HF.out _ HB4.out
  · obtain ⟨q, hq⟩ : ∃ q, m = q + 1 := ⟨m - 1, by omega⟩
    have hx : cd L q ≤ 65534 := by rcases hx with hx | hx; (· omega); rw [hmL, show L.length - 1 = q by omega] at *; exact hx
    have e1 : IntKind.i64.wrap ((m : Int) - 1) = (q : Int) := by rw [i64_in _ (by omega)]; omega
    obtain ⟨x, hxx⟩ : ∃ x, x = cd L q := ⟨_, rfl⟩
    have HX := Lib.hid hxx
    rw [← hxx] at hx
    have hqm : q < m := by omega
    clear hP hmL hxx hq
    go_enter Tryz.func104, Tryz.ntmps104
    go_upto_region 5 with (go_at_call 45; (with_reducible refine (CM.out _ HP.out).mono ?_); rintro e w1 ⟨rfl, hb⟩; have HB1 := Lib.hid hb; clear hb)
    obtain ⟨a, rfl, c0, c1⟩ := HP.out.at_ HB1.out hqm
    rw [← HX.out] at c0
    have g2 : ¬ 65535 ≤ x := by omega
    go_wp2_with (first
      | (go_at_call 176; (with_reducible refine (C1.out _).mono ?_); rintro e w2 ⟨rfl, hb⟩; have HB2 := Lib.hid (HB1.out.trans (hb.mono HB1.out.size)); clear hb)
      | (go_at_call 178; (with_reducible refine (C2.out _ (HP.out.bel HB2.out)).mono ?_); rintro e w3 ⟨A', c', rfl, ho, hb⟩; have HB3 := Lib.hid (HB2.out.trans (hb.mono HB2.out.size)); have HO := Lib.hid (And.intro ho hb.size); clear hb ho)
      | (go_at_call 179; (with_reducible refine (C3.out _ _ _ _ HO.out.1 HO.out.2).mono ?_); rintro e w4 ⟨rfl, hb⟩; have HB4 := Lib.hid (HB3.out.trans (hb.mono HB2.out.size)); clear hb))
    go_ret2
    exact HF.out _ HB4.out
theorem make_any (A : Option Addr) (m c : Nat) (L : List (Int × Int)) (long : Bool) (w : World) (hP : Pl w A m L) : Calls Tryz.prog 104 #[.slice A m c, .bool long] w (StE (mkE L long) (mkS L long) w) := by
  have h := hP.len
  subst h
  by_cases hM : MayP L 1024
  · cases long
    · by_cases hx : L.length = 0 ∨ cd L (L.length - 1) ≤ 65534
      · exact make_short A c L w hP hM hx
      · exact make_far A c L w hP hM (by omega) (by omega)
    · exact make_long A c L w hP hM
  · exact make_bad A c long L w hP hM
end N12
end Go.Proofs.YtfhaloclbbmbeaaGreat
namespace Go.Proofs.YtfhaloclbbmbeaaGreat
open Go.RowKit
def mayD (d : Nat) : Prop := 0 < d ∧ d ≤ 16384 ∧ d % 2 = 0
instance (d : Nat) : Decidable (mayD d) := by unfold mayD; infer_instance
def shortE (l : List UInt8) (a : Nat) : Int := if l.length < a + 14 then 3 else if n2 l a = 4 ∧ n2 l (a + 2) % 2 = 0 ∧ mayD (n2 l (a + 6)) ∧ piece l (a + 6) 8 = cntB (n2 l (a + 6) / 2) ∧ 16 + 8 * (n2 l (a + 6) / 2) ≤ n2 l (a + 2) then (if l.length < a + n2 l (a + 2) then 3 else 0) else 4
def prt (l : List UInt8) (a : Nat) : List UInt8 := piece l a (n2 l (a + 2))
def nSeg (l : List UInt8) (a : Nat) : Nat := n2 l (a + 6) / 2
def sF (P : List UInt8) (n i : Nat) : Nat := n2 P (14 + 2 * i + 2 * n + 2)
def sT (P : List UInt8) (i : Nat) : Nat := n2 P (14 + 2 * i)
def sD (P : List UInt8) (n i : Nat) : Nat := n2 P (14 + 2 * i + 2 * n + 2 + 2 * n)
def sJ (P : List UInt8) (n i : Nat) : Nat := n2 P (14 + 2 * i + 2 * n + 2 + 2 * n + 2 * n)
def sAt (n i : Nat) : Nat := 14 + 2 * i + 2 * n + 2 + 2 * n + 2 * n
def gly (P : List UInt8) (F D J at_ c : Nat) : Int × Int := if J = 0 then (((c + D) % 65536 : Nat), 0) else if P.length < at_ + J + 2 * (c - F) + 2 then (0, 3) else if n2 P (at_ + J + 2 * (c - F)) = 0 then (0, 0) else (((n2 P (at_ + J + 2 * (c - F)) + D) % 65536 : Nat), 0)
def ahS (P : List UInt8) : Nat → Int
  | 0 => -1
  | i + 1 => (sT P i : Int)
def segs (g : Int) (P : List UInt8) (n : Nat) : Nat → Int × List (Int × Int)
  | 0 => (0, [])
  | i + 1 => stick (segs g P n i) fun ps => if (sF P n i : Int) ≤ ahS P i ∨ sT P i < sF P n i ∨ (i + 1 = n ∧ sT P i ≠ 65535) ∨ sJ P n i % 2 ≠ 0 then (4, ps)
      else codes g (gly P (sF P n i) (sD P n i) (sJ P n i) (sAt n i)) (sF P n i) (sT P i + 1 - sF P n i) (0, ps)
theorem segs_stick {g : Int} {P : List UInt8} {n k : Nat} (h : (segs g P n k).1 ≠ 0) : ∀ m, k ≤ m → segs g P n m = segs g P n k
  | 0, hn => by rw [show k = 0 by omega]
  | m + 1, hn => by
    rcases Nat.lt_or_ge m k with h1 | h1
    · rw [show k = m + 1 by omega]
    · have ih := segs_stick h m h1
      simp only [segs]
      rw [ih, stick_err h]
def shortS (g : Int) (l : List UInt8) (a : Nat) : Int × List (Int × Int) := if shortE l a = 0 then (if n2 (prt l a) (14 + 2 * nSeg l a) = 0 then segs g (prt l a) (nSeg l a) (nSeg l a) else (4, [])) else (shortE l a, [])
theorem number_any (s : ByteArray) (a : Nat) (w : World) (hs : s.size ≤ 1000000000) (ha : a + 2 ≤ s.size) : Calls Tryz.prog 217 #[.string s, .int .i64 (a : Int)] w fun e w' => e = .returned (.int .i64 (n2 s.data.toList a : Int)) ∧ w = w' := by
  have h := fun W => u16_any s (a : Int) W hs (by omega)
  have h2 := cutL_in (l := s.data.toList) (a := a) (n := 2) (by rw [size_list]; exact ha)
  rw [show ((2 : Nat) : Int) = 2 from rfl] at h2
  rw [h2.1, h2.2] at h
  have hb := n2_lt s.data.toList a
  obtain ⟨x, hx⟩ : ∃ x, x = n2 s.data.toList a := ⟨_, rfl⟩
  rw [show bv (piece s.data.toList a 2) 0 = x from hx.symm] at h
  rw [← hx] at hb ⊢
  have C := Lib.hid h
  have e1 : IntKind.i64.wrap (x : Int) = (x : Int) := i64_in _ (by omega)
  clear h h2 hx hs ha
  go_enter Tryz.func217, Tryz.ntmps217
  go_wp2_with (go_at_call 131; (with_reducible refine (C.out _).mono ?_); rintro e w' ⟨rfl, rfl⟩)
  go_ret
  exact ⟨rfl, rfl⟩
theorem mayDouble_any (d : Nat) (w : World) (hd : d < 65536) : Calls Tryz.prog 261 #[.int .i64 (d : Int)] w fun e w' => e = .returned (.bool (decide (mayD d))) ∧ w = w' := by
  by_cases h1 : 0 < d
  · by_cases h2 : d ≤ 16384
    · obtain ⟨q, hq⟩ : ∃ q, q = d % 2 := ⟨_, rfl⟩
      have e1 : (d : Int).tmod 2 = (q : Int) := by rw [Int.tmod_eq_emod_of_nonneg (by omega)]; omega
      by_cases h3 : q = 0
      · rw [decide_eq_true (show mayD d from ⟨h1, h2, by omega⟩)]
        have e2 : ((q : Int) == 0) = true := by simp; omega
        clear hq h3
        go_enter Tryz.func261, Tryz.ntmps261
        go_wp2_with fail
        go_ret
        exact ⟨rfl, rfl⟩
      · rw [decide_eq_false (show ¬ mayD d from fun h => h3 (by have := h.2.2; omega))]
        have e2 : ((q : Int) == 0) = false := by simp; omega
        clear hq h3
        go_enter Tryz.func261, Tryz.ntmps261
        go_wp2_with fail
        go_ret
        exact ⟨rfl, rfl⟩
    · rw [decide_eq_false (show ¬ mayD d from fun h => h2 h.2.1)]
      go_enter Tryz.func261, Tryz.ntmps261
      go_wp2_with fail
      go_ret
      exact ⟨rfl, rfl⟩
  · rw [decide_eq_false (show ¬ mayD d from fun h => h1 h.1)]
    have h0 : d = 0 := by omega
    subst h0
    go_enter Tryz.func261, Tryz.ntmps261
    go_wp2_with fail
    go_ret
    exact ⟨rfl, rfl⟩
end Go.Proofs.YtfhaloclbbmbeaaGreat
