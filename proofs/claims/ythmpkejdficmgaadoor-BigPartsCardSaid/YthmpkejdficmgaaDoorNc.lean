/- Proved here: what the reference package's plus, minus and less answer and leave in memory. Condition: digits below 65536, as lists that lie in memory. -/
import Derived.Test.YthmpkejdficmgaaDoorNb
namespace Go.Proofs.YthmpkejdficmgaaDoor
open Go.RowKit

theorem Tryd.info60 : (Tryd.prog.info? 60).map (fun i => (i.zero, i.size, i.bytes)) = some (some (.int .u64 0), 1, 8) := by kernel_rfl
theorem Tryd.info61 : (Tryd.prog.info? 61).map (fun i => (i.zero, i.size, i.bytes)) = some (some (.int .u32 0), 1, 4) := by kernel_rfl
theorem dat_or (xs : List Nat) (i : Nat) : i < xs.length ∨ dat xs i = 0 := (Nat.lt_or_ge i xs.length).imp id dat_beyond
/-- One digit is appended to a row of the call's own. -/
theorem push_own {ops : Array Oper} {rest : List Oper} {o : Oper} {a : Act} {Q : Exit → Act → World → Prop} {wr : World} (hgd : o.guard = none) (s x : Operand)
    (ho : o.op = .call { callee := .builtin .append, args := #[s, x], argTypes := #[26, 26] }) (base : Nat) (v : Value) (n : Nat) (zs : List Nat) (d : Nat) (hs : a.eval s = v)
    (hown : wr.ownsRow base 60 1 v n (cs .u64 zs)) (D : Int) (hD : D = (d : Int)) (hbase : base ≤ wr.heap.size) (hn : n ≤ 1000000) (hx : a.eval x = .slice (some ⟨wr.heap.size, 0, none⟩) 1 1)
    (h : ∀ v' w', w'.ownsRow base 60 1 v' (n + 1) (cs .u64 (zs ++ [d])) → Below base wr w' → wpList Tryd.prog ops Q rest (a.put o.dst v') w') :
    wpList Tryd.prog ops Q (o :: rest) a (wr.alloc (.cells #[.int .u64 D] 60)) := by
  subst hD
  obtain ⟨i0, hi0, hz0, hz1, hz2⟩ := info_parts Tryd.info60
  refine wpList_append_own _ hgd s x 26 ho base 60 i0 _ 1 8 Tryd.underlying26 hi0 hz0 hz1 hz2 rfl (by decide) v n (cs .u64 zs) hs (hown.alloc _) ⟨wr.heap.size, 0, none⟩ 1 1 [.int .u64 (d : Int)] hx rfl ?_ ?_ ?_ ?_ ?_ ?_
  · exact cell_one_new _ _ _
  · intro u hu
    simp at hu
    subst hu
    rfl
  · unfold maxLen; omega
  · omega
  · simp; omega
  · intro v' w' h1 h2 _
    rw [← cs_snoc] at h1
    exact h v' w' h1 (((Below.refl _ _).alloc hbase _).grown h2 (by simp; omega) (fun k hk => (hown.lt k hk).1))
/-- What holds of a sum's digits at each round's head. -/
def PlusR (w wr : World) (xs ys zs : List Nat) (k q : Nat) (z : Value) : Prop :=
  (k = max xs.length ys.length + 1 → q = 0) ∧ wr.ownsRow w.heap.size 60 1 z k (cs .u64 zs) ∧ Dg zs ∧ zs.length = k ∧ dv zs + q * 65536 ^ k = dv (xs.take k) + dv (ys.take k) ∧ Below w.heap.size w wr
theorem PlusR.below {w wr : World} {xs ys zs : List Nat} {k q : Nat} {z : Value} (h : PlusR w wr xs ys zs k q z) : Below w.heap.size w wr := h.2.2.2.2.2
theorem PlusR.own {w wr : World} {xs ys zs : List Nat} {k q : Nat} {z : Value} (h : PlusR w wr xs ys zs k q z) : wr.ownsRow w.heap.size 60 1 z k (cs .u64 zs) := h.2.1
theorem PlusR.step {w wr w' : World} {xs ys zs : List Nat} {k q : Nat} {z z' : Value} (h : PlusR w wr xs ys zs k q z) (hown : w'.ownsRow w.heap.size 60 1 z' (k + 1) (cs .u64 (zs ++ [(dat xs k + dat ys k + q) % 65536])))
    (hb : Below w.heap.size wr w') (hq : q ≤ 1) (hgo : k < xs.length ∨ k < ys.length ∨ 0 < q) (hk : k ≤ max xs.length ys.length + 1) (hx : Dg xs) (hy : Dg ys) :
    ∃ (k' q' : Nat) (zs' : List Nat), Value.int .i64 ((k : Int) + 1) = .int .i64 (k' : Int) ∧ Value.int .u64 (((dat xs k : Int) + (dat ys k : Int) + (q : Int)) / 65536) = .int .u64 (q' : Int) ∧ q' ≤ 1 ∧ k' ≤ max xs.length ys.length + 1 ∧ PlusR w w' xs ys zs' k' q' z' := by
  obtain ⟨h1, _, h3, h4, h5, h6⟩ := h
  have hXk : dat xs k < 65536 := hx k
  have hYk : dat ys k < 65536 := hy k
  refine ⟨k + 1, (dat xs k + dat ys k + q) / 65536, zs ++ [(dat xs k + dat ys k + q) % 65536], by simp, by simp, by omega, ?_, ?_, hown, dg_snoc h3 (Nat.mod_lt _ (by decide)), by simp [h4], plus_step h4 h5, h6.trans hb⟩
  · rcases Nat.lt_or_ge k (max xs.length ys.length + 1) with h | h
    · omega
    · have := h1 (by omega)
      omega
  · intro he
    have e1 : dat xs k = 0 := dat_beyond (by omega)
    have e2 : dat ys k = 0 := dat_beyond (by omega)
    omega
/-- What a sum, a difference of digits answers: digits of that value. -/
def DvE (x l : Nat) (w : World) (e : Ending) (w' : World) : Prop := ∃ z zs, e = .returned z ∧ Arr w' .u64 z zs ∧ Dg zs ∧ dv zs = x ∧ zs.length ≤ l ∧ Below w.heap.size w w'
theorem PlusR.fin {w wr : World} {xs ys zs : List Nat} {k q m n : Nat} {z : Value} (h : PlusR w wr xs ys zs k q z) (hx : xs.length ≤ k) (hy : ys.length ≤ k) (hq : q = 0) (hk : k ≤ max m n + 1) :
    DvE (dv xs + dv ys) (max m n + 1) w (.returned z) wr := by
  obtain ⟨_, h2, h3, h4, h5, h6⟩ := h
  subst hq
  rw [dv_take_all hx, dv_take_all hy] at h5
  exact ⟨z, zs, rfl, Arr.of_own h2, h3, by omega, by omega, h6⟩
theorem plus_cast (a b c : Nat) : ((a : Int) + b + c) % 65536 = (((a + b + c) % 65536 : Nat) : Int) := by simp
set_option maxHeartbeats 1000000 in
set_option maxRecDepth 100000 in
theorem plus16_any (v u : Value) (xs ys : List Nat) (w : World) (hv : Arr w .u64 v xs) (hu : Arr w .u64 u ys) (hx : Dg xs) (hy : Dg ys) (hxl : xs.length ≤ 100000) (hyl : ys.length ≤ 100000) :
    Calls Tryd.prog 43 #[v, u] w (DvE (dv xs + dv ys) (max xs.length ys.length + 1) w) := by
  obtain ⟨Av, cv, rfl⟩ := hv.slice
  obtain ⟨Au, cu, rfl⟩ := hu.slice
  obtain ⟨m, hm⟩ : ∃ m, m = xs.length := ⟨_, rfl⟩
  obtain ⟨n, hn⟩ : ∃ n, n = ys.length := ⟨_, rfl⟩
  rw [← hm] at hv hxl
  rw [← hn] at hu hyl
  have HV := Lib.hid hv
  have HU := Lib.hid hu
  have HX := Lib.hid hx
  have HY := Lib.hid hy
  have HM := Lib.hid hm
  have HN := Lib.hid hn
  rw [← hm, ← hn]
  clear hm hn hv hu hx hy
  go_enter Tryd.func43, Tryd.ntmps43
  go_wp2_with fail
  go_loopw [5, 6, 7] (fun z c i wr => ∃ (k q : Nat) (zs : List Nat), i = .int .i64 (k : Int) ∧ c = .int .u64 (q : Int) ∧ q ≤ 1 ∧ k ≤ max m n + 1 ∧ PlusR w wr xs ys zs k q z)
    (fun _ c i _ => 2 * (max m n + 1 - (intOf i).toNat) + (intOf c).toNat)
  case atStart => exact ⟨0, 0, [], rfl, rfl, by omega, by omega, by omega, World.ownsRow_nil _ _ _ _, dg_nil, rfl, by simp [dv], Below.refl _ _⟩
  case round =>
    obtain ⟨k, q, zs, rfl, rfl, hq, hk, hr⟩ := hrel
    have hXk : dat xs k < 65536 := HX.out k
    have hYk : dat ys k < 65536 := HY.out k
    have HVr := Lib.hid (HV.out.bel hr.below)
    have HUr := Lib.hid (HU.out.bel hr.below)
    have hown := Lib.hid hr.own
    have hbas := hr.below.size
    have HR := Lib.hid hr
    clear hr
    by_cases hgo : k < m ∨ k < n ∨ 0 < q
    · go_wp2_with fail
      all_goals
        go_wp2_with (first | (go_at_call 42; (with_reducible refine (at16_any (.slice Av m cv) xs k wr HVr.out).mono ?_); rintro e w' ⟨rfl, rfl⟩) | (go_at_call 42; (with_reducible refine (at16_any (.slice Au n cu) ys k wr HUr.out).mono ?_); rintro e w' ⟨rfl, rfl⟩) | (at_builtin; go_must (refine push_own rfl (.tmp 34) (.tmp 37) rfl w.heap.size u5 k zs ((dat xs k + dat ys k + q) % 65536) rfl hown.out _ ?_ hbas ?_ rfl ?_); rotate_left 2; intro z' w' hown' hb'))
      all_goals first
        | exact plus_cast _ _ _
        | (go_roundw
           case rel => rw [HM.out, HN.out]; exact HR.out.step hown' hb' hq (by rw [← HM.out, ← HN.out]; omega) (by rw [← HM.out, ← HN.out]; exact hk) HX.out HY.out
           case measure =>
             have e1 : k < m ∨ dat xs k = 0 := by rw [HM.out]; exact dat_or _ _
             have e2 : k < n ∨ dat ys k = 0 := by rw [HN.out]; exact dat_or _ _
             simp [intOf]
             omega)
        | omega
    · go_wp2_with fail
      go_ret
      exact HR.out.fin (by rw [← HM.out]; omega) (by rw [← HN.out]; omega) (by omega) hk
/-- What holds of a difference's digits at each round's head. -/
def MinusR (w wr : World) (xs ys zs : List Nat) (k q : Nat) (z : Value) : Prop :=
  wr.ownsRow w.heap.size 60 1 z k (cs .u64 zs) ∧ Dg zs ∧ zs.length = k ∧ dv zs + dv (ys.take k) = dv (xs.take k) + q * 65536 ^ k ∧ Below w.heap.size w wr
theorem MinusR.below {w wr : World} {xs ys zs : List Nat} {k q : Nat} {z : Value} (h : MinusR w wr xs ys zs k q z) : Below w.heap.size w wr := h.2.2.2.2
theorem MinusR.own {w wr : World} {xs ys zs : List Nat} {k q : Nat} {z : Value} (h : MinusR w wr xs ys zs k q z) : wr.ownsRow w.heap.size 60 1 z k (cs .u64 zs) := h.1
theorem MinusR.drewN {w wr : World} {xs ys zs : List Nat} {k q : Nat} {z : Value} (h : MinusR w wr xs ys zs k q z) (n : Nat) : MinusR w (wr.drewN n) xs ys zs k q z :=
  ⟨h.1, h.2.1, h.2.2.1, h.2.2.2.1, ⟨h.below.os, h.below.tape, h.below.output, h.below.size, h.below.block⟩⟩
theorem MinusR.step {w wr w' : World} {xs ys zs : List Nat} {k q : Nat} {z z' : Value} (h : MinusR w wr xs ys zs k q z) (hown : w'.ownsRow w.heap.size 60 1 z' (k + 1) (cs .u64 (zs ++ [(65536 + dat xs k - dat ys k - q) % 65536])))
    (hb : Below w.heap.size wr w') (hq : q ≤ 1) (hx : Dg xs) (hy : Dg ys) :
    MinusR w w' xs ys (zs ++ [(65536 + dat xs k - dat ys k - q) % 65536]) (k + 1) (1 - (65536 + dat xs k - dat ys k - q) / 65536) z' := by
  obtain ⟨_, h2, h3, h4, h5⟩ := h
  exact ⟨hown, dg_snoc h2 (Nat.mod_lt _ (by decide)), by simp [h3], minus_step h3 hq (hy k) (hx k) h4, h5.trans hb⟩
theorem minus_cast {a b q : Nat} (ha : a < 65536) (hb : b < 65536) (hq : q ≤ 1) : Value.int .u64 (1 - (65536 + (a : Int) - (b : Int) - (q : Int)) / 65536) = .int .u64 ((1 - (65536 + a - b - q) / 65536 : Nat) : Int) := by
  congr 1
  omega
set_option maxHeartbeats 1000000 in
set_option maxRecDepth 100000 in
theorem minus16_any (v u : Value) (xs ys : List Nat) (w : World) (hv : Arr w .u64 v xs) (hu : Arr w .u64 u ys) (hx : Dg xs) (hy : Dg ys) (hxl : xs.length ≤ 100000) (hle : dv ys ≤ dv xs) :
    Calls Tryd.prog 45 #[v, u] w (DvE (dv xs - dv ys) xs.length w) := by
  obtain ⟨Av, cv, rfl⟩ := hv.slice
  obtain ⟨Au, cu, rfl⟩ := hu.slice
  obtain ⟨m, hm⟩ : ∃ m, m = xs.length := ⟨_, rfl⟩
  obtain ⟨n, hn⟩ : ∃ n, n = ys.length := ⟨_, rfl⟩
  rw [← hm] at hv hxl
  rw [← hn] at hu
  have HV := Lib.hid hv
  have HU := Lib.hid hu
  have HX := Lib.hid hx
  have HY := Lib.hid hy
  have HL := Lib.hid hle
  have HM := Lib.hid hm
  have HN := Lib.hid hn
  rw [← hm, ← hn]
  clear hv hu hx hy hle hm hn
  go_enter Tryd.func45, Tryd.ntmps45
  go_wp2_with fail
  go_loopw [5, 6, 7] (fun z c i wr => ∃ (k q : Nat) (zs : List Nat), i = .int .i64 (k : Int) ∧ c = .int .u64 (q : Int) ∧ q ≤ 1 ∧ k ≤ m ∧ MinusR w wr xs ys zs k q z)
    (fun _ _ i _ => m - (intOf i).toNat)
  case atStart => exact ⟨0, 0, [], rfl, rfl, by omega, by omega, World.ownsRow_nil _ _ _ _, dg_nil, rfl, by simp [dv], Below.refl _ _⟩
  case round =>
    obtain ⟨k, q, zs, rfl, rfl, hq, hk, hr⟩ := hrel
    have hXk : dat xs k < 65536 := HX.out k
    have hYk : dat ys k < 65536 := HY.out k
    have HVr := Lib.hid (HV.out.bel hr.below)
    have HUr := Lib.hid (HU.out.bel hr.below)
    have hown := Lib.hid hr.own
    have hbas := hr.below.size
    have HR := Lib.hid hr
    clear hr
    by_cases hgo : k < m
    · obtain ⟨g, rfl, _, hcell⟩ := HVr.out.get k (by rw [← HM.out]; exact hgo)
      go_wp2_with fail
      go_quiet ((go_at_call 42; exact Calls.quiet_of_same (at16_q (.slice Au n cu) ys k _ HUr.out)))
      obtain ⟨W, hW⟩ : ∃ W, W = wr.drewN nq := ⟨_, rfl⟩
      have HRW := Lib.hid (HR.out.drewN nq)
      rw [← hW] at HRW ⊢
      clear hW HR hown HUr hcell hbas
      have hown := Lib.hid HRW.out.own
      have hbas := HRW.out.below.size
      go_wp2_with (at_builtin; go_must (refine push_own rfl (.tmp 26) (.tmp 29) rfl w.heap.size u5 k zs ((65536 + dat xs k - dat ys k - q) % 65536) rfl hown.out _ ?_ hbas ?_ rfl ?_); rotate_left 2; intro z' w' hown' hb')
      case roundEnd =>
        refine ⟨⟨k + 1, 1 - (65536 + dat xs k - dat ys k - q) / 65536, _, by simp, minus_cast hXk hYk hq, by omega, by omega, HRW.out.step hown' hb' hq HX.out HY.out⟩, ?_⟩
        simp [intOf]
        omega
      · omega
      · omega
    · go_wp2_with fail
      go_ret
      obtain ⟨h1, h2, h3, h4, h5⟩ := HR.out
      have e : k = xs.length := by rw [← HM.out]; omega
      subst e
      exact ⟨u5, zs, rfl, Arr.of_own h1, h2, minus_end h2 HX.out HY.out h3 hq HL.out h4, by rw [h3, HM.out]; exact Nat.le_refl _, h5⟩
end Go.Proofs.YthmpkejdficmgaaDoor
