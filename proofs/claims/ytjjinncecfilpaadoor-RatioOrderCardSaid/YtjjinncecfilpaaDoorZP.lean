/- Proved here: plain facts on the library's ParseInt and Cut of fractions' texts. No condition beyond those named. · what package ratio's Parse answers. Condition: a text of at most 1000000000 bytes; the library's tables and variables stand in memory. · package ratio's calls answer as the document's do. Condition: numbers of 64 bits, texts of at most 1000000000 bytes; the library's tables and variables stand in memory. -/
import Derived.Test.YtjjinncecfilpaaDoorXo
import Derived.Lib.ParseIntBCases
import Derived.Lib.ParseIntBTie
import Derived.Lib.IndexBytes
import Derived.Lib.IndexMore
import Derived.Test.YtjjinncecfilpaaDoorZE
import Derived.Test.YtjjinncecfilpaaDoorZd
import Derived.Test.YtjjinncecfilpaaDoorZM
namespace Go.Proofs.YtjjinncecfilpaaDoor
open Go.Lib (decDigits nDigits)

theorem fold_ge (t : List UInt8) : ∀ acc : Nat, acc ≤ t.foldl (fun x c => x * 10 + (c.toNat - 48)) acc := by
  induction t with
  | nil => intro acc; exact Nat.le_refl _
  | cons c r ih => intro acc; exact Nat.le_trans (by omega) (ih (acc * 10 + (c.toNat - 48)))
theorem parseM_fold : ∀ (t : List UInt8) (acc : Nat), (∀ c ∈ t, 48 ≤ c.toNat ∧ c.toNat ≤ 57) → t.foldl (fun x c => x * 10 + (c.toNat - 48)) acc ≤ 18446744073709551615 →
    Lib.parseUintM 18446744073709551615 acc t = .ok (t.foldl (fun x c => x * 10 + (c.toNat - 48)) acc) := by
  intro t
  induction t with
  | nil => intro acc _ _; rfl
  | cons c r ih =>
    intro acc hd hl
    have h1 := hd c (List.mem_cons_self ..)
    have h2 : acc * 10 + (c.toNat - 48) ≤ 18446744073709551615 := Nat.le_trans (fold_ge r _) hl
    rw [Lib.parseUintM, if_pos h1, if_neg (by omega), if_neg (by omega)]
    exact ih _ (fun x hx => hd x (List.mem_cons_of_mem _ hx)) hl
theorem parseB_dec (x : Nat) (hx : x < 18446744073709551616) : Lib.parseUintB 64 (decDigits x) = .ok x := by
  obtain ⟨⟨h1, _, h3⟩, h4, _⟩ := dec_good x
  have e : (decDigits x).foldl (fun x c => x * 10 + (c.toNat - 48)) 0 = x := h4
  unfold Lib.parseUintB
  rw [if_neg h1]
  have := parseM_fold (decDigits x) 0 h3 (by rw [e]; omega)
  rw [e] at this
  exact this
theorem parseI_txt (n : Int) (hn : Fit n) : Lib.parseIntB 64 (txt n) = .ok n := by
  have h1 := hn.1
  have h2 := hn.2
  unfold txt
  split
  · rename_i h
    rw [Lib.parseIntB_minus, parseB_dec _ (by omega)]
    show (if 2 ^ (64 - 1) < n.natAbs then _ else _) = _
    rw [if_neg (by omega)]
    congr 1
    omega
  · rename_i h
    obtain ⟨⟨g1, _, g3⟩, _, _⟩ := dec_good n.natAbs
    cases hd : decDigits n.natAbs with
    | nil => exact absurd hd g1
    | cons c r =>
      have hc := g3 c (by rw [hd]; exact List.mem_cons_self ..)
      rw [Lib.parseIntB_plain 64 c r (by omega) (by omega), ← hd, parseB_dec _ (by omega)]
      show (if 2 ^ (64 - 1) ≤ n.natAbs then _ else _) = _
      rw [if_neg (by omega)]
      congr 1
      omega
theorem indexB_no : ∀ l : List UInt8, (∀ c ∈ l, (c != 47) = true) → Lib.indexByte l 47 = -1 := by
  intro l
  induction l with
  | nil => intro _; rfl
  | cons c r ih =>
    intro h
    have hc := h c (List.mem_cons_self ..)
    have hr := ih fun x hx => h x (List.mem_cons_of_mem _ hx)
    simp at hc
    simp [Lib.indexByte, hc, hr]
theorem indexB_at : ∀ (a b : List UInt8), (∀ c ∈ a, (c != 47) = true) → Lib.indexByte (a ++ 47 :: b) 47 = (a.length : Int) := by
  intro a b
  induction a with
  | nil => intro _; simp [Lib.indexByte]
  | cons c r ih =>
    intro h
    have hc := h c (List.mem_cons_self ..)
    have hr := ih fun x hx => h x (List.mem_cons_of_mem _ hx)
    simp at hc
    simp [Lib.indexByte, hc, hr]
    try omega
/-- What stands behind the stroke, or 1. -/
def under (l : List UInt8) : List UInt8 := if (Lib.cut l [47]).2.2 then (Lib.cut l [47]).2.1 else [49]
theorem cut_rtxt (n d : Int) : (Lib.cut (rtxt n d) [47]).1 = txt n ∧ under (rtxt n d) = txt d := by
  have e1 : txt 1 = [49] := by
    unfold txt
    rw [if_neg (by decide), show (1 : Int).natAbs = 1 from rfl, Lib.decDigits_one (by decide)]
    rfl
  unfold rtxt under
  split
  · rename_i h
    have hi : Lib.index (txt n) [47] = -1 := by rw [Lib.index_one]; exact indexB_no _ (txt_ne47 n)
    have : Lib.cut (txt n) [47] = (txt n, [], false) := by unfold Lib.cut; rw [hi, if_neg (by omega)]
    rw [this, h, e1]
    exact ⟨rfl, rfl⟩
  · have hi : Lib.index (txt n ++ 47 :: txt d) [47] = ((txt n).length : Int) := by rw [Lib.index_one]; exact indexB_at _ _ (txt_ne47 n)
    have : Lib.cut (txt n ++ 47 :: txt d) [47] = (txt n, txt d, true) := by
      unfold Lib.cut
      rw [hi, if_pos (by omega)]
      simp
    rw [this]
    exact ⟨rfl, rfl⟩
/-- A text that is read: its two parts are the numbers. -/
theorem read_rtxt (n d : Int) (hn : Fit n) (hd : Fit d) : Lib.parseIntB 64 (Lib.cut (rtxt n d) [47]).1 = .ok n ∧ Lib.parseIntB 64 (under (rtxt n d)) = .ok d := by
  rw [(cut_rtxt n d).1, (cut_rtxt n d).2]
  exact ⟨parseI_txt n hn, parseI_txt d hd⟩
theorem parse_none (l : List UInt8) (hl : l.length ≤ 40) (h : ∀ n d, Fit n → Fit d → Maybe n d → rtxt n d = l → False) : parL l = (0, 0, 4) := by
  rcases parL_cases l hl with ⟨n, d, h1, h2, h3, h4, _⟩ | ⟨_, e⟩
  · exact absurd h4 fun h4 => h n d h1 h2 h3 h4
  · exact e
theorem fit_parse {l : List UInt8} {v : Int} (h : Lib.parseIntB 64 l = .ok v) : Fit v := by
  have := Lib.parseIntB_bounds h
  unfold Fit
  omega
/-- What the two numbers that are read tell. -/
theorem parL_two (l : List UInt8) (hl : l.length ≤ 40) (n d : Int) (h1 : Lib.parseIntB 64 (Lib.cut l [47]).1 = .ok n) (h2 : Lib.parseIntB 64 (under l) = .ok d) :
    parL l = if Maybe n d ∧ rtxt n d = l then (n, d, 0) else (0, 0, 4) := by
  split
  · rename_i h
    rw [← h.2]
    exact parL_rtxt n d (fit_parse h1) (fit_parse h2) h.1
  · rename_i h
    refine parse_none l hl fun n' d' a b c e => h ?_
    subst e
    have hr := read_rtxt n' d' a b
    rw [hr.1] at h1
    rw [hr.2] at h2
    injection h1 with h1
    injection h2 with h2
    subst h1 h2
    exact ⟨c, rfl⟩
theorem parL_bad1 (l : List UInt8) (hl : l.length ≤ 40) (h : ∀ v, Lib.parseIntB 64 (Lib.cut l [47]).1 ≠ .ok v) : parL l = (0, 0, 4) :=
  parse_none l hl fun n d a b _ e => by subst e; exact h _ (read_rtxt n d a b).1
theorem parL_bad2 (l : List UInt8) (hl : l.length ≤ 40) (h : ∀ v, Lib.parseIntB 64 (under l) ≠ .ok v) : parL l = (0, 0, 4) :=
  parse_none l hl fun n d a b _ e => by subst e; exact h _ (read_rtxt n d a b).2
end Go.Proofs.YtjjinncecfilpaaDoor
namespace Go.Proofs.YtjjinncecfilpaaDoor
open Go.RowKit Go.Sort

theorem var_below {w w' : World} {nm : String} {cs : Array Value} (h : w.var? Tryd.prog nm = some cs) (hb : Below w.heap.size w w') : w'.var? Tryd.prog nm = some cs := by
  unfold World.var? at *
  cases hg : Tryd.prog.globalNamed nm with
  | none => simp [hg] at h
  | some g =>
    simp only [hg, Option.bind_some] at h ⊢
    have hlt : g < w.heap.size := by
      rcases Nat.lt_or_ge g w.heap.size with hl | hl
      · exact hl
      · rw [Array.getElem?_eq_none hl] at h; simp at h
    rw [hb.block g hlt]
    exact h
/-- The library's table, and its variables that reading a number and cutting a text come to. -/
structure TabE (w : World) : Prop where
  tab : Tab w
  max : ∃ m, w.cell? ⟨3, 0, none⟩ = some (.int .i64 m)
  syn : ∃ tp p, w.var? Tryd.prog "strconv.ErrSyntax" = some #[.iface tp p]
  ran : ∃ tp p, w.var? Tryd.prog "strconv.ErrRange" = some #[.iface tp p]
theorem cell3_lt {w : World} {v : Value} (h : w.cell? ⟨3, 0, none⟩ = some v) : 3 < w.heap.size := by
  rcases Nat.lt_or_ge 3 w.heap.size with hl | hl
  · exact hl
  · simp [World.cell?, Array.getElem?_eq_none hl] at h
theorem TabE.below {w w' : World} (h : TabE w) (hb : Below w.heap.size w w') : TabE w' := by
  obtain ⟨m, hm⟩ := h.max
  obtain ⟨tp, p, hp⟩ := h.syn
  obtain ⟨tq, q, hq⟩ := h.ran
  exact ⟨h.tab.below hb, ⟨m, by rw [hb.cell (p := ⟨3, 0, none⟩) (cell3_lt hm)]; exact hm⟩, ⟨tp, p, var_below hp hb⟩, ⟨tq, q, var_below hq hb⟩⟩
theorem bytes_below (w : World) (e : TypeId) (t : ByteArray) : Below w.heap.size w (Lib.bytesWorld w e t) :=
  ⟨rfl, rfl, rfl, by rw [Lib.bytesWorld_size]; omega, fun k hk => Lib.bytesWorld_at_old w e t k hk⟩
theorem p_atoi (S : ByteArray) (v : Int) (h : Lib.parseIntB 64 S.data.toList = .ok v) (hS : S.size ≤ 1000000000) (w : World) : Calls Tryd.prog 54 #[.string S, .int .i64 10, .int .i64 64] w fun e w' => e = .returned (.tuple #[.int .i64 v, .nilIface]) ∧ Below w.heap.size w w' :=
  (Tryd.strconv_ParseInt_10_at64_ok S (by omega) v h w).mono fun _ _ ⟨he, hw⟩ => ⟨he, by
    rcases hw with rfl | ⟨t, rfl⟩
    · exact Below.refl _ _
    · exact bytes_below _ _ _⟩
theorem p_atoi_bad (S : ByteArray) (h : ∀ v, Lib.parseIntB 64 S.data.toList ≠ .ok v) (hS : S.size ≤ 1000000000) (w : World) (ht : TabE w) : Calls Tryd.prog 54 #[.string S, .int .i64 10, .int .i64 64] w fun e w' => ∃ (z : Int) (N : Nat), e = .returned (.tuple #[.int .i64 z, .iface 119 (.pointer (some ⟨N, 0, none⟩))]) ∧ Below w.heap.size w w' := by
  obtain ⟨tp, p, hp⟩ := ht.syn
  obtain ⟨tq, q, hq⟩ := ht.ran
  cases hr : Lib.parseIntB 64 S.data.toList
  · exact absurd hr (h _)
  · exact (Any.strconv_ParseInt_10_at64_syntax_var Tryd.laysC174 S (by omega) hr tp p w hp).mono fun _ _ ⟨N, he, _, _, hb⟩ => ⟨_, N, he, hb⟩
  · exact (Tryd.strconv_ParseInt_10_at64_range_var S (by omega) hr tq q w hq).mono fun _ _ ⟨N, he, _, _, hb⟩ => ⟨_, N, he, hb⟩
theorem p_cut (s O U : ByteArray) (f : Bool) (hO : O = ⟨(Lib.cut s.data.toList [47]).1.toArray⟩) (hU : U = ⟨(Lib.cut s.data.toList [47]).2.1.toArray⟩) (hf : f = (Lib.cut s.data.toList [47]).2.2) (hs : s.size ≤ 1000000000) (w : World) (ht : TabE w) :
    Calls Tryd.prog 53 #[.string s, .string ⟨#[47]⟩] w fun e w' => e = .returned (.tuple #[.string O, .string U, .bool f]) ∧ Below w.heap.size w w' := by
  obtain ⟨m, hm⟩ := ht.max
  subst hO hU hf
  exact (Tryd.strings_Cut s ⟨#[47]⟩ m w (by omega) hm).mono fun _ _ ⟨he, n, hw⟩ => ⟨he, by subst hw; exact below_drewN (Below.refl _ w) n⟩
theorem p_parse_long (s : ByteArray) (w : World) (h1 : 40 < s.size) : Calls Tryd.prog 28 #[.string s] w (RatE (parL s.data.toList) w) := by
  have hl : s.data.toList.length = s.size := by simp
  have hr : parL s.data.toList = (0, 0, 6) := by unfold parL; rw [if_pos (by omega)]
  rw [hr]
  obtain ⟨n, hn⟩ : ∃ n, n = s.size := ⟨_, rfl⟩
  have hsz : s.size = n := hn.symm
  rw [← hn] at h1
  clear hn hl hr
  have hd : decide (40 < (n : Int)) = true := decide_eq_true (by omega)
  go_enter Tryd.func28, Tryd.ntmps28
  go_wp2_with fail
  exact bodyPost_ret (ret_rt_2 rfl rfl rfl (Rt.new w 0 0)) rfl ⟨rfl, bel_a w _⟩
/-- The library's variables, and the answer's box. -/
structure PaH (w W : World) (p q : Int) : Prop where
  T : TabE W
  rr : Rt W w.heap.size p q
  bel : Below w.heap.size w W
section
variable {w W W' : World} {p q : Int}
theorem PaH.start (ht : TabE w) (p q : Int) : PaH w (w.alloc (.cells #[.int .i64 p, .int .i64 q] 24)) p q := ⟨ht.below (bel_a w _), Rt.new w p q, bel_a w _⟩
theorem PaH.next (h : PaH w W p q) (hb : Below W.heap.size W W') : PaH w W' p q := ⟨h.T.below hb, h.rr.bel hb, bel_tr h.bel hb⟩
theorem PaH.res (h : PaH w W p q) : W.cell? ⟨w.heap.size, 0, none⟩ = some (.int .i64 p) ∧ W.cell? ⟨w.heap.size, 1, none⟩ = some (.int .i64 q) ∧ W.frozen? ⟨w.heap.size, 0, none⟩ = false ∧ W.frozen? ⟨w.heap.size, 1, none⟩ = false ∧ ¬ w.heap.size = W.heap.size ∧ ¬ W.heap.size = w.heap.size :=
  ⟨h.rr.c0, h.rr.c1, h.rr.fr 0, h.rr.fr 1, Nat.ne_of_lt h.rr.lt, Ne.symm (Nat.ne_of_lt h.rr.lt)⟩
theorem PaH.fin (h : PaH w W p q) (x y : Int) : Rt ((W.setCell ⟨w.heap.size, 0, none⟩ (.int .i64 x)).setCell ⟨w.heap.size, 1, none⟩ (.int .i64 y)) w.heap.size x y ∧ Below w.heap.size w ((W.setCell ⟨w.heap.size, 0, none⟩ (.int .i64 x)).setCell ⟨w.heap.size, 1, none⟩ (.int .i64 y)) :=
  ⟨(h.rr.set0 x).set1 y, bel_set (bel_set h.bel (by omega) _ _) (by omega) _ _⟩
end
set_option maxHeartbeats 4000000 in
theorem pa_bad1 (s O U V : ByteArray) (f : Bool) (w : World) (ht : TabE w) (h1 : s.size ≤ 40) (hV : V = if f then U else ⟨#[49]⟩)
    (hC : ∀ W, TabE W → Calls Tryd.prog 53 #[.string s, .string ⟨#[47]⟩] W fun e w' => e = .returned (.tuple #[.string O, .string U, .bool f]) ∧ Below W.heap.size W w')
    (hN : ∀ W, TabE W → Calls Tryd.prog 54 #[.string O, .int .i64 10, .int .i64 64] W fun e w' => ∃ (z : Int) (N : Nat), e = .returned (.tuple #[.int .i64 z, .iface 119 (.pointer (some ⟨N, 0, none⟩))]) ∧ Below W.heap.size W w') :
    Calls Tryd.prog 28 #[.string s] w (RatE (0, 0, 4) w) := by
  obtain ⟨n, hn⟩ : ∃ n, n = s.size := ⟨_, rfl⟩
  have hsz : s.size = n := hn.symm
  have hd : decide (40 < (n : Int)) = false := decide_eq_false (by omega)
  have H := Lib.hid (PaH.start ht 0 0)
  obtain ⟨k1, k2, k3, k4, k5, k6⟩ := H.out.res
  have HC := Lib.hid hC
  have HN := Lib.hid hN
  clear h1 hn ht hC hN
  cases f
  all_goals
    simp only [if_true, if_false, Bool.false_eq_true] at hV
    subst hV
    go_enter Tryd.func28, Tryd.ntmps28
    go_wp2_with (first
      | (go_at_call 53; (with_reducible refine (HC.out _ H.out.T).mono ?_); rintro e w1 ⟨rfl, hb⟩; have H := Lib.hid (H.out.next hb); (try clear k1 k2 k3 k4 k5 k6); clear hb; obtain ⟨k1, k2, k3, k4, k5, k6⟩ := H.out.res)
      | (go_at_call 54; (with_reducible refine (HN.out _ H.out.T).mono ?_); rintro e w2 ⟨z, N, rfl, hb⟩; have H := Lib.hid (H.out.next hb); (try clear k1 k2 k3 k4 k5 k6); clear hb; obtain ⟨k1, k2, k3, k4, k5, k6⟩ := H.out.res))
    exact bodyPost_ret (ret_rt_2 rfl rfl rfl (H.out.fin 0 0).1) rfl ⟨rfl, (H.out.fin 0 0).2⟩
set_option maxHeartbeats 4000000 in
theorem pa_bad2 (s O U V : ByteArray) (f : Bool) (a : Int) (w : World) (ht : TabE w) (h1 : s.size ≤ 40) (hV : V = if f then U else ⟨#[49]⟩)
    (hC : ∀ W, TabE W → Calls Tryd.prog 53 #[.string s, .string ⟨#[47]⟩] W fun e w' => e = .returned (.tuple #[.string O, .string U, .bool f]) ∧ Below W.heap.size W w')
    (hN : ∀ W, TabE W → Calls Tryd.prog 54 #[.string O, .int .i64 10, .int .i64 64] W fun e w' => e = .returned (.tuple #[.int .i64 a, .nilIface]) ∧ Below W.heap.size W w')
    (hM : ∀ W, TabE W → Calls Tryd.prog 54 #[.string V, .int .i64 10, .int .i64 64] W fun e w' => ∃ (z : Int) (N : Nat), e = .returned (.tuple #[.int .i64 z, .iface 119 (.pointer (some ⟨N, 0, none⟩))]) ∧ Below W.heap.size W w') :
    Calls Tryd.prog 28 #[.string s] w (RatE (0, 0, 4) w) := by
  obtain ⟨n, hn⟩ : ∃ n, n = s.size := ⟨_, rfl⟩
  have hsz : s.size = n := hn.symm
  have hd : decide (40 < (n : Int)) = false := decide_eq_false (by omega)
  have H := Lib.hid (PaH.start ht 0 0)
  obtain ⟨k1, k2, k3, k4, k5, k6⟩ := H.out.res
  have HC := Lib.hid hC
  have HN := Lib.hid hN
  have HM := Lib.hid hM
  clear h1 hn ht hC hN hM
  cases f
  all_goals
    simp only [if_true, if_false, Bool.false_eq_true] at hV
    subst hV
    go_enter Tryd.func28, Tryd.ntmps28
    go_wp2_with (first
      | (go_at_call 53; (with_reducible refine (HC.out _ H.out.T).mono ?_); rintro e w1 ⟨rfl, hb⟩; have H := Lib.hid (H.out.next hb); (try clear k1 k2 k3 k4 k5 k6); clear hb; obtain ⟨k1, k2, k3, k4, k5, k6⟩ := H.out.res)
      | (go_at_call 54; (with_reducible refine (HN.out _ H.out.T).mono ?_); rintro e w2 ⟨rfl, hb⟩; have H := Lib.hid (H.out.next hb); (try clear k1 k2 k3 k4 k5 k6); clear hb; obtain ⟨k1, k2, k3, k4, k5, k6⟩ := H.out.res)
      | (go_at_call 54; (with_reducible refine (HM.out _ H.out.T).mono ?_); rintro e w3 ⟨z, N, rfl, hb⟩; have H := Lib.hid (H.out.next hb); (try clear k1 k2 k3 k4 k5 k6); clear hb; obtain ⟨k1, k2, k3, k4, k5, k6⟩ := H.out.res))
    exact bodyPost_ret (ret_rt_2 rfl rfl rfl (H.out.fin 0 0).1) rfl ⟨rfl, (H.out.fin 0 0).2⟩
set_option maxHeartbeats 4000000 in
theorem pa_none (s O U V : ByteArray) (f : Bool) (X : ByteArray) (a b : Int) (w : World) (ht : TabE w) (h1 : s.size ≤ 40) (hV : V = if f then U else ⟨#[49]⟩)
    (hC : ∀ W, TabE W → Calls Tryd.prog 53 #[.string s, .string ⟨#[47]⟩] W fun e w' => e = .returned (.tuple #[.string O, .string U, .bool f]) ∧ Below W.heap.size W w')
    (hN : ∀ W, TabE W → Calls Tryd.prog 54 #[.string O, .int .i64 10, .int .i64 64] W fun e w' => e = .returned (.tuple #[.int .i64 a, .nilIface]) ∧ Below W.heap.size W w')
    (hM : ∀ W, TabE W → Calls Tryd.prog 54 #[.string V, .int .i64 10, .int .i64 64] W fun e w' => e = .returned (.tuple #[.int .i64 b, .nilIface]) ∧ Below W.heap.size W w')
    (hX : ∀ W, TabE W → Calls Tryd.prog 27 #[.agg #[.int .i64 a, .int .i64 b]] W fun e w' => e = .returned (.tuple #[.string X, .int .i64 1]) ∧ Below W.heap.size W w') :
    Calls Tryd.prog 28 #[.string s] w (RatE (0, 0, 4) w) := by
  obtain ⟨n, hn⟩ : ∃ n, n = s.size := ⟨_, rfl⟩
  have hsz : s.size = n := hn.symm
  have hd : decide (40 < (n : Int)) = false := decide_eq_false (by omega)
  have H := Lib.hid (PaH.start ht 0 0)
  obtain ⟨k1, k2, k3, k4, k5, k6⟩ := H.out.res
  have HC := Lib.hid hC
  have HN := Lib.hid hN
  have HM := Lib.hid hM
  have HX := Lib.hid hX
  clear h1 hn ht hC hN hM hX
  cases f
  all_goals
    simp only [if_true, if_false, Bool.false_eq_true] at hV
    subst hV
    go_enter Tryd.func28, Tryd.ntmps28
    go_wp2_with (first
      | (go_at_call 53; (with_reducible refine (HC.out _ H.out.T).mono ?_); rintro e w1 ⟨rfl, hb⟩; have H := Lib.hid (H.out.next hb); (try clear k1 k2 k3 k4 k5 k6); clear hb; obtain ⟨k1, k2, k3, k4, k5, k6⟩ := H.out.res)
      | (go_at_call 54; (with_reducible refine (HN.out _ H.out.T).mono ?_); rintro e w2 ⟨rfl, hb⟩; have H := Lib.hid (H.out.next hb); (try clear k1 k2 k3 k4 k5 k6); clear hb; obtain ⟨k1, k2, k3, k4, k5, k6⟩ := H.out.res)
      | (go_at_call 54; (with_reducible refine (HM.out _ H.out.T).mono ?_); rintro e w3 ⟨rfl, hb⟩; have H := Lib.hid (H.out.next hb); have HR := Lib.hid (Rt.new w3 a b); have H := Lib.hid (H.out.next (bel_a w3 (.cells #[.int .i64 a, .int .i64 b] 24))); (try clear k1 k2 k3 k4 k5 k6); clear hb; obtain ⟨k1, k2, k3, k4, k5, k6⟩ := H.out.res)
      | (go_at_call 27; (with_reducible refine (HX.out _ H.out.T).mono ?_); rintro e w4 ⟨rfl, hb⟩; have H := Lib.hid (H.out.next hb); (try clear k1 k2 k3 k4 k5 k6); have HR := Lib.hid (HR.out.bel hb); clear hb; have g1 := HR.out.c0; have g2 := HR.out.c1; obtain ⟨k1, k2, k3, k4, k5, k6⟩ := H.out.res))
    exact bodyPost_ret (ret_rt_2 rfl rfl rfl (H.out.fin 0 0).1) rfl ⟨rfl, (H.out.fin 0 0).2⟩
set_option maxHeartbeats 4000000 in
theorem pa_other (s O U V : ByteArray) (f : Bool) (X : ByteArray) (a b : Int) (w : World) (ht : TabE w) (h1 : s.size ≤ 40) (hV : V = if f then U else ⟨#[49]⟩)
    (hC : ∀ W, TabE W → Calls Tryd.prog 53 #[.string s, .string ⟨#[47]⟩] W fun e w' => e = .returned (.tuple #[.string O, .string U, .bool f]) ∧ Below W.heap.size W w')
    (hN : ∀ W, TabE W → Calls Tryd.prog 54 #[.string O, .int .i64 10, .int .i64 64] W fun e w' => e = .returned (.tuple #[.int .i64 a, .nilIface]) ∧ Below W.heap.size W w')
    (hM : ∀ W, TabE W → Calls Tryd.prog 54 #[.string V, .int .i64 10, .int .i64 64] W fun e w' => e = .returned (.tuple #[.int .i64 b, .nilIface]) ∧ Below W.heap.size W w')
    (hX : ∀ W, TabE W → Calls Tryd.prog 27 #[.agg #[.int .i64 a, .int .i64 b]] W fun e w' => e = .returned (.tuple #[.string X, .int .i64 0]) ∧ Below W.heap.size W w')
    (hXs : X ≠ s) :
    Calls Tryd.prog 28 #[.string s] w (RatE (0, 0, 4) w) := by
  obtain ⟨n, hn⟩ : ∃ n, n = s.size := ⟨_, rfl⟩
  have hsz : s.size = n := hn.symm
  have hd : decide (40 < (n : Int)) = false := decide_eq_false (by omega)
  have H := Lib.hid (PaH.start ht 0 0)
  obtain ⟨k1, k2, k3, k4, k5, k6⟩ := H.out.res
  have HC := Lib.hid hC
  have HN := Lib.hid hN
  have HM := Lib.hid hM
  have HX := Lib.hid hX
  have x1 : (X.toList == s.toList) = false := by
    rw [beq_eq_false_iff_ne]
    intro h
    rw [Lib.toList_data, Lib.toList_data] at h
    exact hXs (ByteArray.ext (Array.toList_inj.1 h))
  clear h1 hn ht hC hN hM hX
  cases f
  all_goals
    simp only [if_true, if_false, Bool.false_eq_true] at hV
    subst hV
    go_enter Tryd.func28, Tryd.ntmps28
    go_wp2_with (first
      | (go_at_call 53; (with_reducible refine (HC.out _ H.out.T).mono ?_); rintro e w1 ⟨rfl, hb⟩; have H := Lib.hid (H.out.next hb); (try clear k1 k2 k3 k4 k5 k6); clear hb; obtain ⟨k1, k2, k3, k4, k5, k6⟩ := H.out.res)
      | (go_at_call 54; (with_reducible refine (HN.out _ H.out.T).mono ?_); rintro e w2 ⟨rfl, hb⟩; have H := Lib.hid (H.out.next hb); (try clear k1 k2 k3 k4 k5 k6); clear hb; obtain ⟨k1, k2, k3, k4, k5, k6⟩ := H.out.res)
      | (go_at_call 54; (with_reducible refine (HM.out _ H.out.T).mono ?_); rintro e w3 ⟨rfl, hb⟩; have H := Lib.hid (H.out.next hb); have HR := Lib.hid (Rt.new w3 a b); have H := Lib.hid (H.out.next (bel_a w3 (.cells #[.int .i64 a, .int .i64 b] 24))); (try clear k1 k2 k3 k4 k5 k6); clear hb; obtain ⟨k1, k2, k3, k4, k5, k6⟩ := H.out.res)
      | (go_at_call 27; (with_reducible refine (HX.out _ H.out.T).mono ?_); rintro e w4 ⟨rfl, hb⟩; have H := Lib.hid (H.out.next hb); (try clear k1 k2 k3 k4 k5 k6); have HR := Lib.hid (HR.out.bel hb); clear hb; have g1 := HR.out.c0; have g2 := HR.out.c1; obtain ⟨k1, k2, k3, k4, k5, k6⟩ := H.out.res))
    exact bodyPost_ret (ret_rt_2 rfl rfl rfl (H.out.fin 0 0).1) rfl ⟨rfl, (H.out.fin 0 0).2⟩
set_option maxHeartbeats 4000000 in
theorem pa_yes (s O U V : ByteArray) (f : Bool) (a b : Int) (w : World) (ht : TabE w) (h1 : s.size ≤ 40) (hV : V = if f then U else ⟨#[49]⟩)
    (hC : ∀ W, TabE W → Calls Tryd.prog 53 #[.string s, .string ⟨#[47]⟩] W fun e w' => e = .returned (.tuple #[.string O, .string U, .bool f]) ∧ Below W.heap.size W w')
    (hN : ∀ W, TabE W → Calls Tryd.prog 54 #[.string O, .int .i64 10, .int .i64 64] W fun e w' => e = .returned (.tuple #[.int .i64 a, .nilIface]) ∧ Below W.heap.size W w')
    (hM : ∀ W, TabE W → Calls Tryd.prog 54 #[.string V, .int .i64 10, .int .i64 64] W fun e w' => e = .returned (.tuple #[.int .i64 b, .nilIface]) ∧ Below W.heap.size W w')
    (hX : ∀ W, TabE W → Calls Tryd.prog 27 #[.agg #[.int .i64 a, .int .i64 b]] W fun e w' => e = .returned (.tuple #[.string s, .int .i64 0]) ∧ Below W.heap.size W w') :
    Calls Tryd.prog 28 #[.string s] w (RatE (a, b, 0) w) := by
  obtain ⟨n, hn⟩ : ∃ n, n = s.size := ⟨_, rfl⟩
  have hsz : s.size = n := hn.symm
  have hd : decide (40 < (n : Int)) = false := decide_eq_false (by omega)
  have H := Lib.hid (PaH.start ht 0 0)
  obtain ⟨k1, k2, k3, k4, k5, k6⟩ := H.out.res
  have HC := Lib.hid hC
  have HN := Lib.hid hN
  have HM := Lib.hid hM
  have HX := Lib.hid hX
  clear h1 hn ht hC hN hM hX
  cases f
  all_goals
    simp only [if_true, if_false, Bool.false_eq_true] at hV
    subst hV
    go_enter Tryd.func28, Tryd.ntmps28
    go_wp2_with (first
      | (go_at_call 53; (with_reducible refine (HC.out _ H.out.T).mono ?_); rintro e w1 ⟨rfl, hb⟩; have H := Lib.hid (H.out.next hb); (try clear k1 k2 k3 k4 k5 k6); clear hb; obtain ⟨k1, k2, k3, k4, k5, k6⟩ := H.out.res)
      | (go_at_call 54; (with_reducible refine (HN.out _ H.out.T).mono ?_); rintro e w2 ⟨rfl, hb⟩; have H := Lib.hid (H.out.next hb); (try clear k1 k2 k3 k4 k5 k6); clear hb; obtain ⟨k1, k2, k3, k4, k5, k6⟩ := H.out.res)
      | (go_at_call 54; (with_reducible refine (HM.out _ H.out.T).mono ?_); rintro e w3 ⟨rfl, hb⟩; have H := Lib.hid (H.out.next hb); have HR := Lib.hid (Rt.new w3 a b); have H := Lib.hid (H.out.next (bel_a w3 (.cells #[.int .i64 a, .int .i64 b] 24))); (try clear k1 k2 k3 k4 k5 k6); clear hb; obtain ⟨k1, k2, k3, k4, k5, k6⟩ := H.out.res)
      | (go_at_call 27; (with_reducible refine (HX.out _ H.out.T).mono ?_); rintro e w4 ⟨rfl, hb⟩; have H := Lib.hid (H.out.next hb); (try clear k1 k2 k3 k4 k5 k6); have HR := Lib.hid (HR.out.bel hb); clear hb; have g1 := HR.out.c0; have g2 := HR.out.c1; obtain ⟨k1, k2, k3, k4, k5, k6⟩ := H.out.res))
    exact bodyPost_ret (ret_rt_2 rfl rfl rfl (H.out.fin a b).1) rfl ⟨rfl, (H.out.fin a b).2⟩
end Go.Proofs.YtjjinncecfilpaaDoor
namespace Go.Proofs.YtjjinncecfilpaaDoor
open Go.RowKit

theorem p_parse (s : ByteArray) (w : World) (h2 : s.size ≤ 1000000000) (ht : TabE w) : Calls Tryd.prog 28 #[.string s] w (RatE (parL s.data.toList) w) := by
  by_cases h1 : 40 < s.size
  · exact p_parse_long s w h1
  · have hl : s.data.toList.length ≤ 40 := by simp; omega
    have h1' : s.size ≤ 40 := by omega
    have hC := p_cut s _ _ _ rfl rfl rfl h2
    have hO : (⟨(Lib.cut s.data.toList [47]).1.toArray⟩ : ByteArray).data.toList = (Lib.cut s.data.toList [47]).1 := by simp
    have hV : (if (Lib.cut s.data.toList [47]).2.2 = true then (⟨(Lib.cut s.data.toList [47]).2.1.toArray⟩ : ByteArray) else ⟨#[49]⟩).data.toList = under s.data.toList := by
      unfold under
      split <;> simp
    have hcl : (Lib.cut s.data.toList [47]).1.length ≤ 40 ∧ (under s.data.toList).length ≤ 40 := by
      unfold under Lib.cut
      split
      · simp only [if_true, List.length_take, List.length_drop]; omega
      · simp; omega
    have sO : (⟨(Lib.cut s.data.toList [47]).1.toArray⟩ : ByteArray).size ≤ 1000000000 := by show (Lib.cut s.data.toList [47]).1.toArray.size ≤ _; rw [List.size_toArray]; omega
    have sV : (if (Lib.cut s.data.toList [47]).2.2 = true then (⟨(Lib.cut s.data.toList [47]).2.1.toArray⟩ : ByteArray) else ⟨#[49]⟩).size ≤ 1000000000 := by
      have e : ∀ b : ByteArray, b.size = b.data.toList.length := fun b => by simp
      rw [e, hV]; omega
    by_cases ha : ∃ a, Lib.parseIntB 64 (Lib.cut s.data.toList [47]).1 = .ok a
    · obtain ⟨a, ha⟩ := ha
      have hN := fun (W : World) (_ : TabE W) => p_atoi ⟨(Lib.cut s.data.toList [47]).1.toArray⟩ a (by rw [hO]; exact ha) sO W
      by_cases hb : ∃ b, Lib.parseIntB 64 (under s.data.toList) = .ok b
      · obtain ⟨b, hb⟩ := hb
        have hM := fun (W : World) (_ : TabE W) => p_atoi _ b (by rw [hV]; exact hb) sV W
        have hX := fun (W : World) (h : TabE W) => p_text a b W (fit_parse ha) (fit_parse hb) h.tab
        rw [parL_two s.data.toList hl a b ha hb]
        by_cases hm : Maybe a b
        · have ex : textC a b = (rtxt a b, 0) := if_pos hm
          rw [ex] at hX
          by_cases hr : rtxt a b = s.data.toList
          · rw [if_pos ⟨hm, hr⟩]
            have es : (⟨(rtxt a b).toArray⟩ : ByteArray) = s := by rw [hr]
            exact pa_yes s _ _ _ _ a b w ht h1' rfl hC hN hM (by rw [← es]; exact hX)
          · rw [if_neg fun h => hr h.2]
            refine pa_other s _ _ _ _ ⟨(rtxt a b).toArray⟩ a b w ht h1' rfl hC hN hM hX fun h => hr ?_
            rw [← h]
        · have ex : textC a b = ([], 1) := if_neg hm
          rw [ex] at hX
          rw [if_neg fun h => hm h.1]
          exact pa_none s _ _ _ _ _ a b w ht h1' rfl hC hN hM hX
      · rw [parL_bad2 s.data.toList hl fun v hv => hb ⟨v, hv⟩]
        exact pa_bad2 s _ _ _ _ a w ht h1' rfl hC hN fun W hW => p_atoi_bad _ (by rw [hV]; exact fun v hv => hb ⟨v, hv⟩) sV W hW
    · rw [parL_bad1 s.data.toList hl fun v hv => ha ⟨v, hv⟩]
      exact pa_bad1 s _ _ _ _ w ht h1' rfl hC fun W hW => p_atoi_bad _ (by rw [hO]; exact fun v hv => ha ⟨v, hv⟩) sO W hW
theorem p_new (n d : Int) (w : World) (hn : Fit n) (hd : Fit d) : Calls Tryd.prog 9 #[.int .i64 n, .int .i64 d] w (RatE (newR n d) w) := by
  by_cases h0 : d = 0
  · subst h0
    exact p_new_zero n w
  · have e : newR n d = fitI (lowN n d) (d.natAbs / n.natAbs.gcd d.natAbs) := if_neg h0
    obtain ⟨⟨p, q, k⟩, hr⟩ : ∃ r, r = newR n d := ⟨_, rfl⟩
    rw [← hr]
    exact p_new_core n d _ _ _ _ _ _ _ _ p q k w rfl rfl rfl rfl rfl rfl rfl rfl hn hd h0 (by rw [hr, e]; rfl)
theorem ratio_ok {T : World → Prop} (hk : ∀ w w', T w → Below w.heap.size w w' → T w') (ht : ∀ w, T w → Tab w) : PrOK T where
  keep := hk
  new n d w hn hd _ := p_new n d w hn hd
  may n d w hn hd _ := p_may n d w hn hd
  add n d m c w hn hd hm hc _ := p_add n d m c w hn hd hm hc
  sub n d m c w hn hd hm hc _ := p_sub n d m c w hn hd hm hc
  mul n d m c w hn hd hm hc _ := p_mul n d m c w hn hd hm hc
  div n d m c w hn hd hm hc _ := p_div n d m c w hn hd hm hc
  cmp n d m c w hn hd hm hc _ := p_cmp n d m c w hn hd hm hc
  floor n d w hn hd _ := (p_floor n d w hn hd).mono fun _ _ ⟨he, hb⟩ => ⟨by rw [he]; unfold floorC; split <;> rfl, hb⟩
  round n d w hn hd _ := (p_round n d w hn hd).mono fun _ _ ⟨he, hb⟩ => ⟨by rw [he]; unfold roundC; split <;> rfl, hb⟩
  text n d w hn hd h := p_text n d w hn hd (ht w h)
theorem tab_ok : PrOK Tab := ratio_ok (fun _ _ h hb => h.below hb) fun _ h => h
theorem tabE_ok : PrOK TabE := ratio_ok (fun _ _ h hb => h.below hb) fun _ h => h.tab
theorem tabE_parse : ParseOK TabE := fun s w h ht => p_parse s w h ht
end Go.Proofs.YtjjinncecfilpaaDoor
