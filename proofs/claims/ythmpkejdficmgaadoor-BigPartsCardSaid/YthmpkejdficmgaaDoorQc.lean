/- Proved here: what the reference package's From answers and leaves in memory. Condition: a number in any form, of at most 50000 digits, that lies in memory. -/
import Derived.Test.YthmpkejdficmgaaDoorQb
namespace Go.Proofs.YthmpkejdficmgaaDoor
open Go.RowKit

/-- Two digits are appended to a row of the call's own, at a step of a region that draws its order. -/
theorem step_two0 {ops : Array Oper} {o : Oper} {a : Act} {K : Act → World → Prop} {Q : Exit → Act → World → Prop} {E0 : Prop} {wr : World} (hgd : o.guard = none) (s x : Operand)
    (ho : o.op = .call { callee := .builtin .append, args := #[s, x], argTypes := #[26, 26] }) (base : Nat) (v : Value) (n : Nat) (zs : List Nat) (d e : Nat) (hs : a.eval s = v)
    (hown : wr.ownsRow base 60 1 v n (cs .u64 zs)) (D E : Int) (hD : D = (d : Int)) (hE : E = (e : Int)) (hbase : base ≤ wr.heap.size) (hn : n ≤ 1000000) (hx : a.eval x = .slice (some ⟨wr.heap.size, 0, none⟩) 2 2)
    (h : ∀ v' w', w'.ownsRow base 60 1 v' (n + 2) (cs .u64 (zs ++ [d, e])) → Below base wr w' → K (a.put o.dst v') w') :
    if Region.wanted o (yielded ops a.tmps) = true then Oper.wp Tryd.prog o a (wr.alloc (.cells #[.int .u64 D, .int .u64 E] 60)) K Q else E0 := by
  have hw : Region.wanted o (yielded ops a.tmps) = true := by simp [Region.wanted, hgd]
  rw [if_pos hw]
  subst hD hE
  obtain ⟨i0, hi0, hz0, hz1, hz2⟩ := info_parts Tryd.info60
  have ha : Arr (wr.alloc (.cells #[.int .u64 (d : Int), .int .u64 (e : Int)] 60)) .u64 (.slice (some ⟨wr.heap.size, 0, none⟩) 2 2) [d, e] := (DB.new .u64 60 wr [d, e]).arr (by simp)
  refine wp_append_own _ s x 26 ho base 60 i0 _ 1 8 Tryd.underlying26 hi0 hz0 hz1 hz2 rfl (by decide) v n (cs .u64 zs) hs (hown.alloc _) ⟨wr.heap.size, 0, none⟩ 2 2 (cs .u64 [d, e]) hx (arr_cells ha).1 (arr_cells ha).2 (cs_one .u64 _) ?_ ?_ ?_ ?_
  · unfold maxLen; omega
  · omega
  · simp; omega
  · intro v' w' h1 h2 _
    have e1 : cs .u64 zs ++ cs .u64 [d, e] = cs .u64 (zs ++ [d, e]) := by simp [cs]
    rw [e1] at h1
    exact h v' w' h1 (((Below.refl _ _).alloc hbase _).grown h2 (by simp; omega) (fun k hk => (hown.lt k hk).1))
theorem step_two {ops : Array Oper} {o : Oper} {a : Act} {K : Act → World → Prop} {Q : Exit → Act → World → Prop} {E0 : Prop} {wr : World} (hgd : o.guard = none) (s x : Operand)
    (ho : o.op = .call { callee := .builtin .append, args := #[s, x], argTypes := #[26, 26] }) (base : Nat) (v : Value) (n : Nat) (zs : List Nat) (d e : Nat) (hs : a.eval s = v)
    (hown : wr.ownsRow base 60 1 v n (cs .u64 zs)) (D E : Int) (hD : D = (d : Int)) (hE : E = (e : Int)) (hbase : base ≤ wr.heap.size) (hn : n ≤ 1000000) (hx : a.eval x = .slice (some ⟨wr.heap.size, 0, none⟩) 2 2)
    (h : ∀ v' w', w'.ownsRow base 60 1 v' (n + 2) (cs .u64 (zs ++ [d, e])) → Below base wr w' → K (a.put o.dst v') w') :
    if Region.wanted o (yielded ops a.tmps) = true then Oper.wp Tryd.prog o a (wr.alloc (.cells #[.int .u64 D, .int .u64 E] 60)).drew K Q else E0 :=
  step_two0 (wr := wr.drew) hgd s x ho base v n zs d e hs hown D E hD hE hbase hn hx fun v' w' h1 h2 => h v' w' h1 (((Below.refl base wr).drew).trans h2)
theorem lo_val {d : Nat} (h : d < 4294967296) : (IntKind.u64.wrap (d : Int)).tmod 65536 = ((d % 65536 : Nat) : Int) := by
  rw [wrapN rfl (Nat.lt_trans h (by decide)), Int.tmod_eq_emod_of_nonneg (Int.natCast_nonneg _)]
  simp
theorem hi_val {d : Nat} (h : d < 4294967296) : IntKind.u64.wrap ((IntKind.u64.wrap (d : Int)).tdiv 65536) = ((d / 65536 : Nat) : Int) := by
  rw [wrapN (x := (d : Int)) rfl (Nat.lt_trans h (by decide))]
  exact wrapN (by simp) (by omega)
/-- What holds at each round's head of From. -/
structure FromR (w wr : World) (b : Bool) (A : Option Addr) (p c : Nat) (xs : List Nat) (k : Nat) (z : Value) : Prop where
  own : wr.ownsRow (w.heap.size + 1 + 1) 60 1 z (2 * k) (cs .u64 (halves (xs.take k)))
  bx : B2' 24 28 w wr b (.slice A p c)
  size : w.heap.size + 1 + 1 ≤ wr.heap.size
theorem halves_take (xs : List Nat) (k : Nat) (h : k < xs.length) : halves (xs.take (k + 1)) = halves (xs.take k) ++ [dat xs k % 65536, dat xs k / 65536] := by
  rw [List.take_succ_eq_append_getElem h, halves_snoc]
  simp [dat, h]
theorem FromR.step {w wr w' : World} {b : Bool} {A : Option Addr} {p c k : Nat} {xs : List Nat} {z z' : Value} (h : FromR w wr b A p c xs k z) (hk : k < xs.length)
    (hown : w'.ownsRow (w.heap.size + 1 + 1) 60 1 z' (2 * k + 2) (cs .u64 (halves (xs.take k) ++ [dat xs k % 65536, dat xs k / 65536]))) (hb : Below (w.heap.size + 1 + 1) wr w') : FromR w w' b A p c xs (k + 1) z' := by
  refine ⟨by rw [halves_take xs k hk]; exact hown, ⟨h.bx.a.below hb (by omega), h.bx.c.below hb (by omega), h.bx.bel.trans (hb.mono (by omega))⟩, Nat.le_trans h.size hb.size⟩
theorem FromR.drewN {w wr : World} {b : Bool} {A : Option Addr} {p c k : Nat} {xs : List Nat} {z : Value} (h : FromR w wr b A p c xs k z) (n : Nat) : FromR w (wr.drewN n) b A p c xs k z :=
  ⟨h.own, h.bx.drewN n, h.size⟩
set_option maxHeartbeats 2000000 in
set_option maxRecDepth 100000 in
theorem from_any (X : Value) (x : Int) (l : Nat) (w : World) (hX : BigA w X x l) (hl : l ≤ 100000) : Calls Tryd.prog 9 #[X] w (NumE x (2 * l) w) := by
  obtain ⟨b, v, xs, rfl, hv, hx, hxl, rfl⟩ := hX
  obtain ⟨A, c, rfl⟩ := hv.slice
  have HX := Lib.hid (And.intro hx hxl)
  obtain ⟨p, hp⟩ : ∃ p, p = xs.length := ⟨_, rfl⟩
  have hpl : p ≤ 100000 := by omega
  rw [← hp] at hv ⊢
  have HV := Lib.hid hv
  have HP := Lib.hid hp
  have HS := Lib.hid (show FromR w ((w.alloc (.cells #[.bool b, .slice A p c] 24)).alloc (.cells #[.bool false, .slice none 0 0] 28)) b A p c xs 0 (.slice none 0 0) from
    ⟨World.ownsRow_nil _ _ _ _, B2'.start 24 28 w b (.slice A p c), by simp⟩)
  clear hv hx hxl hp hl
  go_enter Tryd.func9, Tryd.ntmps9
  go_wp2_with fail
  go_loopw [3, 4] (fun z i wr => ∃ k : Nat, i = .int .i64 (k : Int) ∧ k ≤ p ∧ FromR w wr b A p c xs k z) (fun _ i _ => p - (intOf i).toNat)
  case atStart => exact ⟨0, rfl, Nat.zero_le _, HS.out⟩
  case round =>
    obtain ⟨k, rfl, hk, hr⟩ := hrel
    have f1 := hr.bx.a.c1
    have f0 := hr.bx.a.c0
    by_cases hgo : k < p
    · obtain ⟨ad, rfl, hadl, hca⟩ := HV.out.get k (by rw [← HP.out]; exact hgo)
      have hcr : wr.cell? (ad.add k) = some (.int .u32 (dat xs k : Int)) := by rw [hr.bx.bel.cell (by rw [block_of_add]; exact hadl)]; exact hca
      have hd : dat xs k < 4294967296 := HX.out.1 k
      have hown := Lib.hid (hr.own)
      have hbas := hr.size
      have HR := Lib.hid hr
      have hlk : (ad.add k).block < w.heap.size := by rw [block_of_add]; exact hadl
      clear hr f0 hca
      go_wp2_with fail
      go_region_held3 (fun w' => w'.cell? ⟨w.heap.size, 1, none⟩ = some (.slice (some ad) p c) ∧ w'.cell? (ad.add k) = some (.int .u32 (dat xs k : Int)))
        (first | (go_split_ands; refine ⟨?_, ?_⟩ <;> first | (rw [hb'.cell (by show w.heap.size < w.heap.size + 1 + 1; omega)]; assumption) | (rw [hb'.cell (by omega)]; assumption)) | go_keep)
        (first | (refine step_two rfl (.tmp 12) (.tmp 27) rfl (w.heap.size + 1 + 1) u3 (2 * k) (halves (xs.take k)) (dat xs k % 65536) (dat xs k / 65536) rfl hown.out _ _ (lo_val hd) (hi_val hd) hbas (by omega) rfl ?_; intro z' w' hown' hb'))
      all_goals
        go_wp2_with fail
        exact ⟨⟨k + 1, by simp, by omega, HR.out.step (by rw [← HP.out]; exact hgo) hown' hb'⟩, by simp [intOf]; omega⟩
    · obtain rfl : k = p := by omega
      have hA : Arr wr .u64 u3 (halves xs) := by
        have h := hr.own
        rw [HP.out, List.take_length] at h
        exact Arr.of_own h
      have HA := Lib.hid (And.intro hA (halves_dg HX.out.1))
      have HR := Lib.hid hr
      clear hr hA
      go_wp2_with (go_at_call 36; (with_reducible refine (norm_parts b u3 (halves xs) wr HA.out.1 HA.out.2).mono ?_); rintro e w3 ⟨b', C, p', q', ss, rfl, hs, hb⟩; have HX3 := Lib.hid (HR.out.bx.next hb); have HS := Lib.hid hs; clear hs hb f0 f1; obtain ⟨f1, f2, f3, f4, f5, f6⟩ := HX3.out.facts)
      exact bodyPost_ret (ret_bx28 rfl rfl (HX3.out.fin b' _)) rfl (num_fin2 HX3.out HS.out (by rw [halves_val]) (by rw [halves_len]; have := HX.out.2; omega))
end Go.Proofs.YthmpkejdficmgaaDoor
