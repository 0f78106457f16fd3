/- Proved here: what Parse answers, in the program. Condition: a list of tables that lies in memory, of bytes of at most a million each. -/
import Derived.Test.YtphnapnmeidgkaaHe
namespace Go.Proofs.Ytphnapnmeidgkaa
open Go.RowKit

theorem h2_gl {k h : Hd} {d : List UInt8} (hk : k = h2 d h) : k.gl = (n2 d 4 : Int) := by subst hk; rfl
theorem fd_not {L : List (List UInt8 × List UInt8)} {t : List UInt8} {z : Nat} (h : fdE L t z ≠ 0) (f : List UInt8 → Nat) (hf : ∀ d, d.length < z → f d = 3) : (if (findL L t).2 then f (findL L t).1 else 7) = fdE L t z := by
  unfold fdE at h ⊢
  split
  · rename_i h3
    rw [if_pos h3] at h
    split
    · rename_i h4
      exact hf _ h4
    · rename_i h4
      rw [if_neg h4] at h
      omega
  · rfl

theorem rdHead_any (A : Option Addr) (m c : Nat) (L : List (List UInt8 × List UInt8)) (g : Nat) (h : Hd) (w : World) (hT : Tl w A m L) (hm : m ≤ 1000000) (hd : ∀ i, i < m → (dt L i).length ≤ 1000000) (hX : HB w g h) :
    Calls Try.prog 20 #[.slice A m c, .pointer (some ⟨g, 0, none⟩)] w fun e w' => e = .returned (.int .i64 (e1 L : Int)) ∧ Onl g w w' ∧ ∃ k, HB w' g k ∧ (e1 L = 0 → k = h1 (findL L tHead).1 h) := by
  by_cases hE : fdE L tHead 54 = 0
  · have q := (fd_zero hE).1
    have e0 : e1 L = headE (findL L tHead).1 := by unfold e1; rw [if_pos q]
    rw [e0]
    exact rdHead_ok A m c L g h w hT hm hd hX hE
  · have e0 : e1 L = fdE L tHead 54 := fd_not hE (fun d => headE d) (fun d hd => by unfold headE; rw [if_pos hd])
    rw [e0]
    exact (rdHead_no A m c L g h w hT hm hd hX hE).mono fun _ _ ⟨h1, h2, h3⟩ => ⟨h1, h2, h, h3, fun h4 => absurd h4 hE⟩
theorem rdMaxp_any (A : Option Addr) (m c : Nat) (L : List (List UInt8 × List UInt8)) (g : Nat) (h : Hd) (w : World) (hT : Tl w A m L) (hm : m ≤ 1000000) (hd : ∀ i, i < m → (dt L i).length ≤ 1000000) (hX : HB w g h) :
    Calls Try.prog 21 #[.slice A m c, .pointer (some ⟨g, 0, none⟩)] w fun e w' => e = .returned (.int .i64 (e2 L : Int)) ∧ Onl g w w' ∧ ∃ k, HB w' g k ∧ (e2 L = 0 → k = h2 (findL L tMaxp).1 h) := by
  by_cases hE : fdE L tMaxp 32 = 0
  · have q := (fd_zero hE).1
    have e0 : e2 L = maxpE (findL L tMaxp).1 := by unfold e2; rw [if_pos q]
    rw [e0]
    exact rdMaxp_ok A m c L g h w hT hm hd hX hE
  · have e0 : e2 L = fdE L tMaxp 32 := fd_not hE (fun d => maxpE d) (fun d hd => by unfold maxpE; rw [if_pos hd])
    rw [e0]
    exact (rdMaxp_no A m c L g h w hT hm hd hX hE).mono fun _ _ ⟨h1, h2, h3⟩ => ⟨h1, h2, h, h3, fun h4 => absurd h4 hE⟩
theorem rdHhea_any (A : Option Addr) (m c : Nat) (L : List (List UInt8 × List UInt8)) (g : Nat) (h : Hd) (w : World) (hT : Tl w A m L) (hm : m ≤ 1000000) (hd : ∀ i, i < m → (dt L i).length ≤ 1000000) (hX : HB w g h) (hg : h.gl = (n2 (findL L tMaxp).1 4 : Int)) :
    Calls Try.prog 22 #[.slice A m c, .pointer (some ⟨g, 0, none⟩)] w fun e w' => e = .returned (.int .i64 (e3 L : Int)) ∧ Onl g w w' ∧ ∃ k, HB w' g k ∧ (e3 L = 0 → k = h3 (findL L tHhea).1 h) := by
  by_cases hE : fdE L tHhea 36 = 0
  · have q := (fd_zero hE).1
    have e0 : e3 L = hheaE (findL L tHhea).1 (n2 (findL L tMaxp).1 4) := by unfold e3; rw [if_pos q]
    rw [e0]
    exact rdHhea_ok A m c L g h w hT hm hd hX _ hg hE
  · have e0 : e3 L = fdE L tHhea 36 := fd_not hE (fun d => hheaE d (n2 (findL L tMaxp).1 4)) (fun d hd => by unfold hheaE; rw [if_pos hd])
    rw [e0]
    exact (rdHhea_no A m c L g h w hT hm hd hX hE).mono fun _ _ ⟨h1, h2, h3⟩ => ⟨h1, h2, h, h3, fun h4 => absurd h4 hE⟩
theorem ret_hd {fn : Func} {p q : Tmp} {tmps : Array Value} {W : World} {g : Nat} {k : Hd} {v : Value} (h : fn.results = #[.cell p 23, .tmp q]) (hp : tmps.getD p undef = .pointer (some ⟨g, 0, none⟩)) (hq : tmps.getD q undef = v) (b : HB W g k) :
    (results fn tmps).run Try.prog W = .ok (.tuple #[k.val, v]) W := by
  obtain ⟨c0, c1, c2, c3, c4, c5, c6⟩ := b.cells
  rw [Array.getD_eq_getD_getElem?] at hp hq
  simp [results, h, hp, hq, go_sem, c0, c1, c2, c3, c4, c5, c6, Hd.val, Hd.cs]
/-- The result's box, and the box that is filled. -/
structure PS (w W : World) (b g : Nat) (r k : Hd) : Prop where
  bel : Below w.heap.size w W
  ob : w.heap.size ≤ b
  og : w.heap.size ≤ g
  ne : b ≠ g
  res : HB W b r
  box : HB W g k
theorem PS.start (w : World) : PS w ((w.alloc (.cells #[.int .i64 0, .bool false, .int .i64 0, .int .i64 0, .int .i64 0, .int .i64 0, .int .i64 0] 23)).alloc (.cells #[.int .i64 0, .bool false, .int .i64 0, .int .i64 0, .int .i64 0, .int .i64 0, .int .i64 0] 23)) w.heap.size (w.heap.size + 1) Hd.zero Hd.zero := by
  refine ⟨((Below.refl _ _).alloc (Nat.le_refl _) _).alloc (by simp) _, Nat.le_refl _, by omega, by omega, ?_, ?_⟩
  · exact (HB.new w).bel ((Below.refl _ _).alloc (Nat.le_refl _) _)
  · have h := HB.new (w.alloc (.cells #[.int .i64 0, .bool false, .int .i64 0, .int .i64 0, .int .i64 0, .int .i64 0, .int .i64 0] 23))
    simpa using h
theorem PS.step {w W W' : World} {b g : Nat} {r k k' : Hd} (h : PS w W b g r k) (ho : Onl g W W') (hk : HB W' g k') : PS w W' b g r k' :=
  ⟨h.bel.trans (ho.below h.og h.bel.size), h.ob, h.og, h.ne, h.res.onl ho h.ne, hk⟩
theorem PS.out {w W : World} {b g : Nat} {r k : Hd} (h : PS w W b g r k) (x : Hd) : Below w.heap.size w (((((((W.setCell ⟨b, 0, none⟩ (.int .i64 x.em)).setCell ⟨b, 1, none⟩ (.bool x.lg)).setCell ⟨b, 2, none⟩ (.int .i64 x.gl)).setCell ⟨b, 3, none⟩ (.int .i64 x.me)).setCell ⟨b, 4, none⟩ (.int .i64 x.a1)).setCell ⟨b, 5, none⟩ (.int .i64 x.a2)).setCell ⟨b, 6, none⟩ (.int .i64 x.a3)) :=
  ((((((h.bel.setCell h.ob _).setCell h.ob _).setCell h.ob _).setCell h.ob _).setCell h.ob _).setCell h.ob _).setCell h.ob _
set_option maxHeartbeats 4000000 in
theorem parse_any (A : Option Addr) (m c : Nat) (L : List (List UInt8 × List UInt8)) (w : World) (hT : Tl w A m L) (hm : m ≤ 1000000) (hd : ∀ i, i < m → (dt L i).length ≤ 1000000) :
    Calls Try.prog 9 #[.slice A m c] w fun e w' => e = .returned (.tuple #[(PH L).val, .int .i64 (PE L : Int)]) ∧ Below w.heap.size w w' := by
  have HT := Lib.hid hT
  have c1 := fun g h W (hT : Tl W A m L) (hX : HB W g h) => rdHead_any A m c L g h W hT hm hd hX
  have c2 := fun g h W (hT : Tl W A m L) (hX : HB W g h) => rdMaxp_any A m c L g h W hT hm hd hX
  have c3 := fun g h W (hT : Tl W A m L) (hX : HB W g h) (hg : h.gl = (n2 (findL L tMaxp).1 4 : Int)) => rdHhea_any A m c L g h W hT hm hd hX hg
  clear hT hm hd
  by_cases z1 : e1 L = 0
  · rw [z1] at c1
    by_cases z2 : e2 L = 0
    · rw [z2] at c2
      have p0 : PE L = e3 L := by unfold PE; rw [if_neg (by omega), if_neg (by omega)]
      have H1 := Lib.hid c1
      have H2 := Lib.hid c2
      by_cases z3 : e3 L = 0
      · have p1 : PH L = full L := by unfold PH; rw [if_pos (by omega)]
        rw [p1, p0, z3]
        rw [z3] at c3
        have H3 := Lib.hid c3
        clear c1 c2 c3 z1 z2 z3 p0 p1
        go_enter Try.func9, Try.ntmps9
        go_upto_region 2 with fail
        have S0 := Lib.hid (PS.start w)
        obtain ⟨b, hb⟩ : ∃ b, b = w.heap.size := ⟨_, rfl⟩
        obtain ⟨g, hg⟩ : ∃ g, g = w.heap.size + 1 := ⟨_, rfl⟩
        obtain ⟨W0, hW0⟩ : ∃ W, W = ((w.alloc (.cells #[.int .i64 0, .bool false, .int .i64 0, .int .i64 0, .int .i64 0, .int .i64 0, .int .i64 0] 23)).alloc (.cells #[.int .i64 0, .bool false, .int .i64 0, .int .i64 0, .int .i64 0, .int .i64 0, .int .i64 0] 23)) := ⟨_, rfl⟩
        have S0 := Lib.hid (show PS w W0 b g Hd.zero Hd.zero by rw [hW0, hb, hg]; exact S0.out)
        rw [← hg, ← hb, ← hW0]
        clear hb hg hW0
        go_wp2_with (first
            | (go_at_call 20; (with_reducible refine (H1.out _ _ _ (HT.out.bel S0.out.bel) S0.out.box).mono ?_); rintro e w1 ⟨rfl, ho, k1, hk, he⟩; have S1 := Lib.hid (S0.out.step ho hk); have E1 := Lib.hid he; obtain ⟨x0, x1, x2, x3, x4, x5, x6⟩ := S1.out.box.cells; clear ho hk he)
            | (go_at_call 21; (with_reducible refine (H2.out _ _ _ (HT.out.bel S1.out.bel) S1.out.box).mono ?_); rintro e w2 ⟨rfl, ho, k2, hk, he⟩; have S2 := Lib.hid (S1.out.step ho hk); have E2 := Lib.hid he; obtain ⟨x0, x1, x2, x3, x4, x5, x6⟩ := S2.out.box.cells; clear ho hk he)
            | (go_at_call 22; (with_reducible refine (H3.out _ _ _ (HT.out.bel S2.out.bel) S2.out.box (h2_gl (E2.out (by trivial)))).mono ?_); rintro e w3 ⟨rfl, ho, k3, hk, he⟩; have S3 := Lib.hid (S2.out.step ho hk); have E3 := Lib.hid he; obtain ⟨r0, r1, r2, r3, r4, r5, r6⟩ := S3.out.res.frs; obtain ⟨c0, c1, c2, c3, c4, c5, c6⟩ := S3.out.res.cells; obtain ⟨x0, x1, x2, x3, x4, x5, x6⟩ := S3.out.box.cells; clear ho hk he))
        have ek : k3 = full L := by rw [E3.out (by trivial), E2.out (by trivial), E1.out (by trivial)]; rfl
        rw [← ek]
        exact bodyPost_ret (ret_hd rfl rfl rfl (S3.out.res.put k3)) rfl ⟨rfl, S3.out.out k3⟩
      · have p1 : PH L = Hd.zero := by unfold PH; rw [if_neg (by omega)]
        rw [p1, p0]
        obtain ⟨E, hE⟩ : ∃ E, E = e3 L := ⟨_, rfl⟩
        rw [← hE] at c3 z3 ⊢
        have H3 := Lib.hid c3
        have ez : ((E : Int) != 0) = true := by simp; omega
        clear c1 c2 c3 z1 z2 z3 p0 p1 hE
        go_enter Try.func9, Try.ntmps9
        go_upto_region 2 with fail
        have S0 := Lib.hid (PS.start w)
        obtain ⟨b, hb⟩ : ∃ b, b = w.heap.size := ⟨_, rfl⟩
        obtain ⟨g, hg⟩ : ∃ g, g = w.heap.size + 1 := ⟨_, rfl⟩
        obtain ⟨W0, hW0⟩ : ∃ W, W = ((w.alloc (.cells #[.int .i64 0, .bool false, .int .i64 0, .int .i64 0, .int .i64 0, .int .i64 0, .int .i64 0] 23)).alloc (.cells #[.int .i64 0, .bool false, .int .i64 0, .int .i64 0, .int .i64 0, .int .i64 0, .int .i64 0] 23)) := ⟨_, rfl⟩
        have S0 := Lib.hid (show PS w W0 b g Hd.zero Hd.zero by rw [hW0, hb, hg]; exact S0.out)
        rw [← hg, ← hb, ← hW0]
        clear hb hg hW0
        go_wp2_with (first
            | (go_at_call 20; (with_reducible refine (H1.out _ _ _ (HT.out.bel S0.out.bel) S0.out.box).mono ?_); rintro e w1 ⟨rfl, ho, k1, hk, he⟩; have S1 := Lib.hid (S0.out.step ho hk); have E1 := Lib.hid he; clear ho hk he)
            | (go_at_call 21; (with_reducible refine (H2.out _ _ _ (HT.out.bel S1.out.bel) S1.out.box).mono ?_); rintro e w2 ⟨rfl, ho, k2, hk, he⟩; have S2 := Lib.hid (S1.out.step ho hk); have E2 := Lib.hid he; clear ho hk he)
            | (go_at_call 22; (with_reducible refine (H3.out _ _ _ (HT.out.bel S2.out.bel) S2.out.box (h2_gl (E2.out (by trivial)))).mono ?_); rintro e w3 ⟨rfl, ho, k3, hk, he⟩; have S3 := Lib.hid (S2.out.step ho hk); have E3 := Lib.hid he; obtain ⟨r0, r1, r2, r3, r4, r5, r6⟩ := S3.out.res.frs; obtain ⟨c0, c1, c2, c3, c4, c5, c6⟩ := S3.out.res.cells; clear ho hk he))
        exact bodyPost_ret (ret_hd rfl rfl rfl (S3.out.res.put Hd.zero)) rfl ⟨rfl, S3.out.out Hd.zero⟩
    · have p0 : PE L = e2 L := by unfold PE; rw [if_neg (by omega), if_pos z2]
      have p1 : PH L = Hd.zero := by unfold PH; rw [if_neg (by omega)]
      rw [p1, p0]
      obtain ⟨E, hE⟩ : ∃ E, E = e2 L := ⟨_, rfl⟩
      rw [← hE] at c2 z2 ⊢
      have H1 := Lib.hid c1
      have H2 := Lib.hid c2
      have ez : ((E : Int) != 0) = true := by simp; omega
      clear c1 c2 c3 z1 z2 p0 p1 hE
      go_enter Try.func9, Try.ntmps9
      go_upto_region 2 with fail
      have S0 := Lib.hid (PS.start w)
      obtain ⟨b, hb⟩ : ∃ b, b = w.heap.size := ⟨_, rfl⟩
      obtain ⟨g, hg⟩ : ∃ g, g = w.heap.size + 1 := ⟨_, rfl⟩
      obtain ⟨W0, hW0⟩ : ∃ W, W = ((w.alloc (.cells #[.int .i64 0, .bool false, .int .i64 0, .int .i64 0, .int .i64 0, .int .i64 0, .int .i64 0] 23)).alloc (.cells #[.int .i64 0, .bool false, .int .i64 0, .int .i64 0, .int .i64 0, .int .i64 0, .int .i64 0] 23)) := ⟨_, rfl⟩
      have S0 := Lib.hid (show PS w W0 b g Hd.zero Hd.zero by rw [hW0, hb, hg]; exact S0.out)
      rw [← hg, ← hb, ← hW0]
      clear hb hg hW0
      go_wp2_with (first
          | (go_at_call 20; (with_reducible refine (H1.out _ _ _ (HT.out.bel S0.out.bel) S0.out.box).mono ?_); rintro e w1 ⟨rfl, ho, k1, hk, he⟩; have S1 := Lib.hid (S0.out.step ho hk); have E1 := Lib.hid he; clear ho hk he)
          | (go_at_call 21; (with_reducible refine (H2.out _ _ _ (HT.out.bel S1.out.bel) S1.out.box).mono ?_); rintro e w2 ⟨rfl, ho, k2, hk, he⟩; have S2 := Lib.hid (S1.out.step ho hk); have E2 := Lib.hid he; obtain ⟨r0, r1, r2, r3, r4, r5, r6⟩ := S2.out.res.frs; obtain ⟨c0, c1, c2, c3, c4, c5, c6⟩ := S2.out.res.cells; clear ho hk he))
      exact bodyPost_ret (ret_hd rfl rfl rfl (S2.out.res.put Hd.zero)) rfl ⟨rfl, S2.out.out Hd.zero⟩
  · have p0 : PE L = e1 L := by unfold PE; rw [if_pos z1]
    have p1 : PH L = Hd.zero := by unfold PH; rw [if_neg (by omega)]
    rw [p1, p0]
    obtain ⟨E, hE⟩ : ∃ E, E = e1 L := ⟨_, rfl⟩
    rw [← hE] at c1 z1 ⊢
    have H1 := Lib.hid c1
    have ez : ((E : Int) != 0) = true := by simp; omega
    clear c1 c2 c3 z1 p0 p1 hE
    go_enter Try.func9, Try.ntmps9
    go_upto_region 2 with fail
    have S0 := Lib.hid (PS.start w)
    obtain ⟨b, hb⟩ : ∃ b, b = w.heap.size := ⟨_, rfl⟩
    obtain ⟨g, hg⟩ : ∃ g, g = w.heap.size + 1 := ⟨_, rfl⟩
    obtain ⟨W0, hW0⟩ : ∃ W, W = ((w.alloc (.cells #[.int .i64 0, .bool false, .int .i64 0, .int .i64 0, .int .i64 0, .int .i64 0, .int .i64 0] 23)).alloc (.cells #[.int .i64 0, .bool false, .int .i64 0, .int .i64 0, .int .i64 0, .int .i64 0, .int .i64 0] 23)) := ⟨_, rfl⟩
    have S0 := Lib.hid (show PS w W0 b g Hd.zero Hd.zero by rw [hW0, hb, hg]; exact S0.out)
    rw [← hg, ← hb, ← hW0]
    clear hb hg hW0
    go_wp2_with (first
        | (go_at_call 20; (with_reducible refine (H1.out _ _ _ (HT.out.bel S0.out.bel) S0.out.box).mono ?_); rintro e w1 ⟨rfl, ho, k1, hk, he⟩; have S1 := Lib.hid (S0.out.step ho hk); have E1 := Lib.hid he; obtain ⟨r0, r1, r2, r3, r4, r5, r6⟩ := S1.out.res.frs; obtain ⟨c0, c1, c2, c3, c4, c5, c6⟩ := S1.out.res.cells; clear ho hk he))
    exact bodyPost_ret (ret_hd rfl rfl rfl (S1.out.res.put Hd.zero)) rfl ⟨rfl, S1.out.out Hd.zero⟩
end Go.Proofs.Ytphnapnmeidgkaa
