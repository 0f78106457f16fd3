/- Proved here: what the document's Parse answers. Condition: a list of tables that lies in memory, of bytes of at most a million each. -/
import Derived.Test.YtphnapnmeidgkaaHi
namespace Go.Proofs.Ytphnapnmeidgkaa
open Go.RowKit

/-- The two boxes, and the list of tags. -/
structure QS (w W : World) (b g a : Nat) (k : Hd) : Prop where
  ps : PS w W b g Hd.zero k
  oa : W.heap[a]? = some (.cells #[.string ⟨#[104, 101, 97, 100]⟩, .string ⟨#[109, 97, 120, 112]⟩, .string ⟨#[104, 104, 101, 97]⟩] 9 (0, 0))
  na : g ≠ a
theorem PS.fill {w W : World} {b g : Nat} {r k : Hd} (h : PS w W b g r k) (x : Hd) : PS w (((((((W.setCell ⟨g, 0, none⟩ (.int .i64 x.em)).setCell ⟨g, 1, none⟩ (.bool x.lg)).setCell ⟨g, 2, none⟩ (.int .i64 x.gl)).setCell ⟨g, 3, none⟩ (.int .i64 x.me)).setCell ⟨g, 4, none⟩ (.int .i64 x.a1)).setCell ⟨g, 5, none⟩ (.int .i64 x.a2)).setCell ⟨g, 6, none⟩ (.int .i64 x.a3)) b g r x :=
  ((((((h.set0 x.em).set1 x.lg).set2 x.gl).set3 x.me).set4 x.a1).set5 x.a2).set6 x.a3
theorem QS.fill {w W : World} {b g a : Nat} {k : Hd} (h : QS w W b g a k) (x : Hd) : QS w (((((((W.setCell ⟨g, 0, none⟩ (.int .i64 x.em)).setCell ⟨g, 1, none⟩ (.bool x.lg)).setCell ⟨g, 2, none⟩ (.int .i64 x.gl)).setCell ⟨g, 3, none⟩ (.int .i64 x.me)).setCell ⟨g, 4, none⟩ (.int .i64 x.a1)).setCell ⟨g, 5, none⟩ (.int .i64 x.a2)).setCell ⟨g, 6, none⟩ (.int .i64 x.a3)) b g a x := by
  refine ⟨h.ps.fill x, ?_, h.na⟩
  have e : ∀ (V : World) (j : Nat) (u : Value), (V.setCell ⟨g, j, none⟩ u).heap[a]? = V.heap[a]? := fun V j u => Below.heap_setCell V _ u a h.na.symm
  rw [e, e, e, e, e, e, e]
  exact h.oa
theorem QS.as_ {w W : World} {b g a : Nat} {k k' : Hd} (h : QS w W b g a k) (e : k = k') : QS w W b g a k' := e ▸ h
theorem QS.next {w W W' : World} {b g a : Nat} {k : Hd} (h : QS w W b g a k) (hb : Below W.heap.size W W') : QS w W' b g a k :=
  ⟨h.ps.next hb, (hb.block a (heap_lt h.oa)).trans h.oa, h.na⟩
theorem QS.tags {w W : World} {b g a : Nat} {k : Hd} (h : QS w W b g a k) : W.cell? ⟨a, 0, none⟩ = some (.string ⟨#[104, 101, 97, 100]⟩) ∧ W.cell? ⟨a, 1, none⟩ = some (.string ⟨#[109, 97, 120, 112]⟩) ∧ W.cell? ⟨a, 2, none⟩ = some (.string ⟨#[104, 104, 101, 97]⟩) :=
  ⟨cell_of_row W a 0 _ 9 (0, 0) h.oa, cell_of_row W a 1 _ 9 (0, 0) h.oa, cell_of_row W a 2 _ 9 (0, 0) h.oa⟩
theorem QS.start (w : World) : QS w (((w.alloc (.cells #[.int .i64 0, .bool false, .int .i64 0, .int .i64 0, .int .i64 0, .int .i64 0, .int .i64 0] 23)).alloc (.cells #[.int .i64 0, .bool false, .int .i64 0, .int .i64 0, .int .i64 0, .int .i64 0, .int .i64 0] 23)).alloc (.cells #[.string ⟨#[104, 101, 97, 100]⟩, .string ⟨#[109, 97, 120, 112]⟩, .string ⟨#[104, 104, 101, 97]⟩] 9)) w.heap.size (w.heap.size + 1) (w.heap.size + 2) Hd.zero := by
  refine ⟨(PS.start w).next ((Below.refl _ _).alloc (Nat.le_refl _) _), ?_, by omega⟩
  have h := heap_alloc_new ((w.alloc (.cells #[.int .i64 0, .bool false, .int .i64 0, .int .i64 0, .int .i64 0, .int .i64 0, .int .i64 0] 23)).alloc (.cells #[.int .i64 0, .bool false, .int .i64 0, .int .i64 0, .int .i64 0, .int .i64 0, .int .i64 0] 23)) (.cells #[.string ⟨#[104, 101, 97, 100]⟩, .string ⟨#[109, 97, 120, 112]⟩, .string ⟨#[104, 104, 101, 97]⟩] 9)
  simpa using h
/-- What is read, as far as the k-th table, and that there was no error. -/
def hK (L : List (List UInt8 × List UInt8)) : Nat → Hd
  | 0 => Hd.zero
  | 1 => h1 (findL L tHead).1 Hd.zero
  | 2 => h2 (findL L tMaxp).1 (h1 (findL L tHead).1 Hd.zero)
  | _ => full L
def okK (L : List (List UInt8 × List UInt8)) (k : Nat) : Prop := (0 < k → e1 L = 0) ∧ (1 < k → e2 L = 0) ∧ (2 < k → e3 L = 0)

theorem pe_1 {L : List (List UInt8 × List UInt8)} (h : e1 L ≠ 0) : PE L = e1 L ∧ PH L = Hd.zero := by
  have p0 : PE L = e1 L := by unfold PE; rw [if_pos h]
  exact ⟨p0, by unfold PH; rw [if_neg (by omega)]⟩
theorem pe_2 {L : List (List UInt8 × List UInt8)} (h1 : e1 L = 0) (h : e2 L ≠ 0) : PE L = e2 L ∧ PH L = Hd.zero := by
  have p0 : PE L = e2 L := by unfold PE; rw [if_neg (by omega), if_pos h]
  exact ⟨p0, by unfold PH; rw [if_neg (by omega)]⟩
theorem pe_3 {L : List (List UInt8 × List UInt8)} (h1 : e1 L = 0) (h2 : e2 L = 0) (h : e3 L ≠ 0) : PE L = e3 L ∧ PH L = Hd.zero := by
  have p0 : PE L = e3 L := by unfold PE; rw [if_neg (by omega), if_neg (by omega)]
  exact ⟨p0, by unfold PH; rw [if_neg (by omega)]⟩
theorem pe_4 {L : List (List UInt8 × List UInt8)} (h1 : e1 L = 0) (h2 : e2 L = 0) (h : e3 L = 0) : PE L = 0 ∧ PH L = full L := by
  have p0 : PE L = 0 := by unfold PE; rw [if_neg (by omega), if_neg (by omega)]; exact h
  exact ⟨p0, by unfold PH; rw [if_pos p0]⟩
set_option maxHeartbeats 8000000 in
theorem rparse_any (A : Option Addr) (m c : Nat) (L : List (List UInt8 × List UInt8)) (w : World) (hT : Tl w A m L) (hm : m ≤ 1000000) (hd : ∀ i, i < m → (dt L i).length ≤ 1000000) :
    Calls Try.prog 12 #[.slice A m c] w fun e w' => e = .returned (.tuple #[(PH L).val, .int .i64 (PE L : Int)]) ∧ Below w.heap.size w w' := by
  have HT := Lib.hid hT
  have HM := Lib.hid hm
  have HD := Lib.hid hd
  clear hT hm hd
  go_enter Try.func12, Try.ntmps12
  go_upto_region 5 with fail
  have S0 := Lib.hid (QS.start w)
  obtain ⟨W0, hW0⟩ : ∃ W, W = (((w.alloc (.cells #[.int .i64 0, .bool false, .int .i64 0, .int .i64 0, .int .i64 0, .int .i64 0, .int .i64 0] 23)).alloc (.cells #[.int .i64 0, .bool false, .int .i64 0, .int .i64 0, .int .i64 0, .int .i64 0, .int .i64 0] 23)).alloc (.cells #[.string ⟨#[104, 101, 97, 100]⟩, .string ⟨#[109, 97, 120, 112]⟩, .string ⟨#[104, 104, 101, 97]⟩] 9)) := ⟨_, rfl⟩
  obtain ⟨a, ha⟩ : ∃ g, g = w.heap.size + 1 + 1 := ⟨_, rfl⟩
  obtain ⟨b, hb⟩ : ∃ b, b = w.heap.size := ⟨_, rfl⟩
  obtain ⟨g, hg⟩ : ∃ g, g = w.heap.size + 1 := ⟨_, rfl⟩
  have S0 := Lib.hid (show QS w W0 b g a Hd.zero by rw [hW0, hb, hg, ha]; exact S0.out)
  rw [← ha, ← hg, ← hb, ← hW0]
  clear hb hg ha hW0
  go_loopw [5, 7] (fun v i wr => ∃ k : Nat, i = .int .i64 (k : Int) ∧ k ≤ 3 ∧ v = .int .i64 0 ∧ okK L k ∧ QS w wr b g a (hK L k)) (fun _ i _ => 3 - (intOf i).toNat)
  case atStart => exact ⟨0, rfl, by omega, rfl, ⟨by omega, by omega, by omega⟩, S0.out⟩
  case round =>
    obtain ⟨k, rfl, hk, rfl, hok, hq⟩ := hrel
    have HQ := Lib.hid hq
    have HO := Lib.hid hok
    clear hq hok S0
    obtain rfl | rfl | rfl | rfl : k = 0 ∨ k = 1 ∨ k = 2 ∨ k = 3 := by omega
    · obtain ⟨h0, hh0⟩ : ∃ h, h = hK L 0 := ⟨_, rfl⟩
      rw [← hh0] at HQ
      have S := Lib.hid HQ.out
      obtain ⟨c0, c1, c2, c3, c4, c5, c6⟩ := S.out.ps.box.cells
      obtain ⟨r0, r1, r2, r3, r4, r5, r6⟩ := S.out.ps.box.frs
      obtain ⟨d0, d1, d2, d3, d4, d5, d6⟩ := S.out.ps.res.cells
      obtain ⟨s0, s1, s2, s3, s4, s5, s6⟩ := S.out.ps.res.frs
      obtain ⟨t0, t1, t2⟩ := S.out.tags
      have nbg : ¬ b = g := S.out.ps.ne
      have ngb : ¬ g = b := ne_symm S.out.ps.ne
      have hf := fun W (h : Tl W A m L) => rfind_any A m c L tHead W h HM.out
      have hlen : (findL L tHead).1.length ≤ 1000000 := findL_len (fun i hi => HD.out i (by have := HT.out.len; omega))
      obtain ⟨D, hD⟩ : ∃ D : ByteArray, D = ⟨(findL L tHead).1.toArray⟩ := ⟨_, rfl⟩
      have hz : D.size ≤ 1000000000 := by
        have : D.size = (findL L tHead).1.length := by rw [hD]; exact List.size_toArray
        omega
      have hDl : D.data.toList = (findL L tHead).1 := by rw [hD]
      rw [← hD] at hf
      by_cases hb : (findL L tHead).2 = true
      · have ee : e1 L = headE (findL L tHead).1 := by unfold e1; rw [if_pos hb]
        have hc := fun W => (rhead_any D h0 _ W hz hDl).mono fun e w' h => show ∃ k : Hd, e = .returned (.tuple #[.agg #[.int .i64 k.em, .bool k.lg, .int .i64 k.gl, .int .i64 k.me, .int .i64 k.a1, .int .i64 k.a2, .int .i64 k.a3], .int .i64 (headE (findL L tHead).1 : Int)]) ∧ Below W.heap.size W w' ∧ Ok0 (headE (findL L tHead).1) k (h1 (findL L tHead).1 h0) from h
        rw [← ee] at hc
        rw [hb] at hf
        have HF := Lib.hid hf
        by_cases hE : e1 L = 0
        · rw [hE] at hc
          have HC := Lib.hid hc
          have HE := Lib.hid hE
          have HH := Lib.hid hh0
          clear hf hlen hD hz hDl hb ee hc hE hh0
          go_wp2_with (first
            | (go_at_call 26; (with_reducible refine (HF.out _ (HT.out.bel S.out.ps.bel)).mono ?_); rintro e w' ⟨rfl, rfl⟩)
            | (go_at_call 27; (with_reducible refine (HC.out _).mono ?_); rintro e w2 ⟨k2, rfl, hb2, hk2⟩; have S2 := Lib.hid (S.out.next hb2); obtain ⟨c0, c1, c2, c3, c4, c5, c6⟩ := S2.out.ps.box.cells; obtain ⟨r0, r1, r2, r3, r4, r5, r6⟩ := S2.out.ps.box.frs; obtain ⟨d0, d1, d2, d3, d4, d5, d6⟩ := S2.out.ps.res.cells; obtain ⟨s0, s1, s2, s3, s4, s5, s6⟩ := S2.out.ps.res.frs; obtain ⟨t0, t1, t2⟩ := S2.out.tags; have HK := Lib.hid hk2; clear hb2 hk2))
          have ek : k2 = hK L 1 := by rw [HK.out rfl, HH.out]; rfl
          have S3 := Lib.hid ((S2.out.fill k2).as_ ek)
          exact ⟨⟨1, rfl, by omega, rfl, ⟨fun _ => HE.out, by omega, by omega⟩, S3.out⟩, by simp [intOf]⟩
        · obtain ⟨E, hE1⟩ : ∃ E, E = e1 L := ⟨_, rfl⟩
          have HP := Lib.hid (show PE L = E ∧ PH L = Hd.zero from by rw [hE1]; exact pe_1 hE)
          rw [← hE1] at hc hE
          have HC := Lib.hid hc
          have ez : ((E : Int) != 0) = true := by simp; omega
          clear hf hlen hD hz hDl hb ee hc hE hh0 hE1
          go_wp2_with (first
            | (go_at_call 26; (with_reducible refine (HF.out _ (HT.out.bel S.out.ps.bel)).mono ?_); rintro e w' ⟨rfl, rfl⟩)
            | (go_at_call 27; (with_reducible refine (HC.out _).mono ?_); rintro e w2 ⟨k2, rfl, hb2, hk2⟩; have S2 := Lib.hid (S.out.next hb2); obtain ⟨c0, c1, c2, c3, c4, c5, c6⟩ := S2.out.ps.box.cells; obtain ⟨r0, r1, r2, r3, r4, r5, r6⟩ := S2.out.ps.box.frs; obtain ⟨d0, d1, d2, d3, d4, d5, d6⟩ := S2.out.ps.res.cells; obtain ⟨s0, s1, s2, s3, s4, s5, s6⟩ := S2.out.ps.res.frs; obtain ⟨t0, t1, t2⟩ := S2.out.tags; have HK := Lib.hid hk2; clear hb2 hk2))
          rw [HP.out.1, HP.out.2]
          exact bodyPost_ret (ret_hd rfl rfl rfl ((S2.out.fill k2).ps.res.put Hd.zero)) rfl ⟨rfl, (S2.out.fill k2).ps.out Hd.zero⟩
      · have hb2 : (findL L tHead).2 = false := by simpa using hb
        have ee : e1 L = 7 := by unfold e1; rw [if_neg hb]
        have HP := Lib.hid (show PE L = 7 ∧ PH L = Hd.zero from by rw [← ee]; exact pe_1 (by omega))
        rw [hb2] at hf
        have HF := Lib.hid hf
        clear hf hlen hD hz hDl hb hb2 ee hh0
        go_wp2_with (go_at_call 26; (with_reducible refine (HF.out _ (HT.out.bel S.out.ps.bel)).mono ?_); rintro e w' ⟨rfl, rfl⟩)
        rw [HP.out.1, HP.out.2]
        exact bodyPost_ret (ret_hd rfl rfl rfl (S.out.ps.res.put Hd.zero)) rfl ⟨rfl, S.out.ps.out Hd.zero⟩
    · obtain ⟨h0, hh0⟩ : ∃ h, h = hK L 1 := ⟨_, rfl⟩
      rw [← hh0] at HQ
      have S := Lib.hid HQ.out
      obtain ⟨c0, c1, c2, c3, c4, c5, c6⟩ := S.out.ps.box.cells
      obtain ⟨r0, r1, r2, r3, r4, r5, r6⟩ := S.out.ps.box.frs
      obtain ⟨d0, d1, d2, d3, d4, d5, d6⟩ := S.out.ps.res.cells
      obtain ⟨s0, s1, s2, s3, s4, s5, s6⟩ := S.out.ps.res.frs
      obtain ⟨t0, t1, t2⟩ := S.out.tags
      have nbg : ¬ b = g := S.out.ps.ne
      have ngb : ¬ g = b := ne_symm S.out.ps.ne
      have hf := fun W (h : Tl W A m L) => rfind_any A m c L tMaxp W h HM.out
      have hlen : (findL L tMaxp).1.length ≤ 1000000 := findL_len (fun i hi => HD.out i (by have := HT.out.len; omega))
      obtain ⟨D, hD⟩ : ∃ D : ByteArray, D = ⟨(findL L tMaxp).1.toArray⟩ := ⟨_, rfl⟩
      have hz : D.size ≤ 1000000000 := by
        have : D.size = (findL L tMaxp).1.length := by rw [hD]; exact List.size_toArray
        omega
      have hDl : D.data.toList = (findL L tMaxp).1 := by rw [hD]
      rw [← hD] at hf
      by_cases hb : (findL L tMaxp).2 = true
      · have ee : e2 L = maxpE (findL L tMaxp).1 := by unfold e2; rw [if_pos hb]
        have hc := fun W => (rmaxp_any D h0 _ W hz hDl).mono fun e w' h => show ∃ k : Hd, e = .returned (.tuple #[.agg #[.int .i64 k.em, .bool k.lg, .int .i64 k.gl, .int .i64 k.me, .int .i64 k.a1, .int .i64 k.a2, .int .i64 k.a3], .int .i64 (maxpE (findL L tMaxp).1 : Int)]) ∧ Below W.heap.size W w' ∧ Ok0 (maxpE (findL L tMaxp).1) k (h2 (findL L tMaxp).1 h0) from h
        rw [← ee] at hc
        rw [hb] at hf
        have HF := Lib.hid hf
        by_cases hE : e2 L = 0
        · rw [hE] at hc
          have HC := Lib.hid hc
          have HE := Lib.hid hE
          have HH := Lib.hid hh0
          clear hf hlen hD hz hDl hb ee hc hE hh0
          go_wp2_with (first
            | (go_at_call 26; (with_reducible refine (HF.out _ (HT.out.bel S.out.ps.bel)).mono ?_); rintro e w' ⟨rfl, rfl⟩)
            | (go_at_call 28; (with_reducible refine (HC.out _).mono ?_); rintro e w2 ⟨k2, rfl, hb2, hk2⟩; have S2 := Lib.hid (S.out.next hb2); obtain ⟨c0, c1, c2, c3, c4, c5, c6⟩ := S2.out.ps.box.cells; obtain ⟨r0, r1, r2, r3, r4, r5, r6⟩ := S2.out.ps.box.frs; obtain ⟨d0, d1, d2, d3, d4, d5, d6⟩ := S2.out.ps.res.cells; obtain ⟨s0, s1, s2, s3, s4, s5, s6⟩ := S2.out.ps.res.frs; obtain ⟨t0, t1, t2⟩ := S2.out.tags; have HK := Lib.hid hk2; clear hb2 hk2))
          have ek : k2 = hK L 2 := by rw [HK.out rfl, HH.out]; rfl
          have S3 := Lib.hid ((S2.out.fill k2).as_ ek)
          exact ⟨⟨2, rfl, by omega, rfl, ⟨fun _ => HO.out.1 (by decide), fun _ => HE.out, by omega⟩, S3.out⟩, by simp [intOf]⟩
        · obtain ⟨E, hE1⟩ : ∃ E, E = e2 L := ⟨_, rfl⟩
          have HP := Lib.hid (show PE L = E ∧ PH L = Hd.zero from by rw [hE1]; exact pe_2 (HO.out.1 (by decide)) hE)
          rw [← hE1] at hc hE
          have HC := Lib.hid hc
          have ez : ((E : Int) != 0) = true := by simp; omega
          clear hf hlen hD hz hDl hb ee hc hE hh0 hE1
          go_wp2_with (first
            | (go_at_call 26; (with_reducible refine (HF.out _ (HT.out.bel S.out.ps.bel)).mono ?_); rintro e w' ⟨rfl, rfl⟩)
            | (go_at_call 28; (with_reducible refine (HC.out _).mono ?_); rintro e w2 ⟨k2, rfl, hb2, hk2⟩; have S2 := Lib.hid (S.out.next hb2); obtain ⟨c0, c1, c2, c3, c4, c5, c6⟩ := S2.out.ps.box.cells; obtain ⟨r0, r1, r2, r3, r4, r5, r6⟩ := S2.out.ps.box.frs; obtain ⟨d0, d1, d2, d3, d4, d5, d6⟩ := S2.out.ps.res.cells; obtain ⟨s0, s1, s2, s3, s4, s5, s6⟩ := S2.out.ps.res.frs; obtain ⟨t0, t1, t2⟩ := S2.out.tags; have HK := Lib.hid hk2; clear hb2 hk2))
          rw [HP.out.1, HP.out.2]
          exact bodyPost_ret (ret_hd rfl rfl rfl ((S2.out.fill k2).ps.res.put Hd.zero)) rfl ⟨rfl, (S2.out.fill k2).ps.out Hd.zero⟩
      · have hb2 : (findL L tMaxp).2 = false := by simpa using hb
        have ee : e2 L = 7 := by unfold e2; rw [if_neg hb]
        have HP := Lib.hid (show PE L = 7 ∧ PH L = Hd.zero from by rw [← ee]; exact pe_2 (HO.out.1 (by decide)) (by omega))
        rw [hb2] at hf
        have HF := Lib.hid hf
        clear hf hlen hD hz hDl hb hb2 ee hh0
        go_wp2_with (go_at_call 26; (with_reducible refine (HF.out _ (HT.out.bel S.out.ps.bel)).mono ?_); rintro e w' ⟨rfl, rfl⟩)
        rw [HP.out.1, HP.out.2]
        exact bodyPost_ret (ret_hd rfl rfl rfl (S.out.ps.res.put Hd.zero)) rfl ⟨rfl, S.out.ps.out Hd.zero⟩
    · obtain ⟨h0, hh0⟩ : ∃ h, h = hK L 2 := ⟨_, rfl⟩
      rw [← hh0] at HQ
      have S := Lib.hid HQ.out
      obtain ⟨c0, c1, c2, c3, c4, c5, c6⟩ := S.out.ps.box.cells
      obtain ⟨r0, r1, r2, r3, r4, r5, r6⟩ := S.out.ps.box.frs
      obtain ⟨d0, d1, d2, d3, d4, d5, d6⟩ := S.out.ps.res.cells
      obtain ⟨s0, s1, s2, s3, s4, s5, s6⟩ := S.out.ps.res.frs
      obtain ⟨t0, t1, t2⟩ := S.out.tags
      have nbg : ¬ b = g := S.out.ps.ne
      have ngb : ¬ g = b := ne_symm S.out.ps.ne
      have hf := fun W (h : Tl W A m L) => rfind_any A m c L tHhea W h HM.out
      have hlen : (findL L tHhea).1.length ≤ 1000000 := findL_len (fun i hi => HD.out i (by have := HT.out.len; omega))
      obtain ⟨D, hD⟩ : ∃ D : ByteArray, D = ⟨(findL L tHhea).1.toArray⟩ := ⟨_, rfl⟩
      have hz : D.size ≤ 1000000000 := by
        have : D.size = (findL L tHhea).1.length := by rw [hD]; exact List.size_toArray
        omega
      have hDl : D.data.toList = (findL L tHhea).1 := by rw [hD]
      rw [← hD] at hf
      by_cases hb : (findL L tHhea).2 = true
      · have ee : e3 L = hheaE (findL L tHhea).1 (n2 (findL L tMaxp).1 4) := by unfold e3; rw [if_pos hb]
        have hc := fun W => (rhhea_any D h0 _ W hz hDl (n2 (findL L tMaxp).1 4) (by rw [hh0]; rfl)).mono fun e w' h => show ∃ k : Hd, e = .returned (.tuple #[.agg #[.int .i64 k.em, .bool k.lg, .int .i64 k.gl, .int .i64 k.me, .int .i64 k.a1, .int .i64 k.a2, .int .i64 k.a3], .int .i64 (hheaE (findL L tHhea).1 (n2 (findL L tMaxp).1 4) : Int)]) ∧ Below W.heap.size W w' ∧ Ok0 (hheaE (findL L tHhea).1 (n2 (findL L tMaxp).1 4)) k (h3 (findL L tHhea).1 h0) from h
        rw [← ee] at hc
        rw [hb] at hf
        have HF := Lib.hid hf
        by_cases hE : e3 L = 0
        · rw [hE] at hc
          have HC := Lib.hid hc
          have HE := Lib.hid hE
          have HH := Lib.hid hh0
          clear hf hlen hD hz hDl hb ee hc hE hh0
          go_wp2_with (first
            | (go_at_call 26; (with_reducible refine (HF.out _ (HT.out.bel S.out.ps.bel)).mono ?_); rintro e w' ⟨rfl, rfl⟩)
            | (go_at_call 29; (with_reducible refine (HC.out _).mono ?_); rintro e w2 ⟨k2, rfl, hb2, hk2⟩; have S2 := Lib.hid (S.out.next hb2); obtain ⟨c0, c1, c2, c3, c4, c5, c6⟩ := S2.out.ps.box.cells; obtain ⟨r0, r1, r2, r3, r4, r5, r6⟩ := S2.out.ps.box.frs; obtain ⟨d0, d1, d2, d3, d4, d5, d6⟩ := S2.out.ps.res.cells; obtain ⟨s0, s1, s2, s3, s4, s5, s6⟩ := S2.out.ps.res.frs; obtain ⟨t0, t1, t2⟩ := S2.out.tags; have HK := Lib.hid hk2; clear hb2 hk2))
          have ek : k2 = hK L 3 := by rw [HK.out rfl, HH.out]; rfl
          have S3 := Lib.hid ((S2.out.fill k2).as_ ek)
          exact ⟨⟨3, rfl, by omega, rfl, ⟨fun _ => HO.out.1 (by decide), fun _ => HO.out.2.1 (by decide), fun _ => HE.out⟩, S3.out⟩, by simp [intOf]⟩
        · obtain ⟨E, hE1⟩ : ∃ E, E = e3 L := ⟨_, rfl⟩
          have HP := Lib.hid (show PE L = E ∧ PH L = Hd.zero from by rw [hE1]; exact pe_3 (HO.out.1 (by decide)) (HO.out.2.1 (by decide)) hE)
          rw [← hE1] at hc hE
          have HC := Lib.hid hc
          have ez : ((E : Int) != 0) = true := by simp; omega
          clear hf hlen hD hz hDl hb ee hc hE hh0 hE1
          go_wp2_with (first
            | (go_at_call 26; (with_reducible refine (HF.out _ (HT.out.bel S.out.ps.bel)).mono ?_); rintro e w' ⟨rfl, rfl⟩)
            | (go_at_call 29; (with_reducible refine (HC.out _).mono ?_); rintro e w2 ⟨k2, rfl, hb2, hk2⟩; have S2 := Lib.hid (S.out.next hb2); obtain ⟨c0, c1, c2, c3, c4, c5, c6⟩ := S2.out.ps.box.cells; obtain ⟨r0, r1, r2, r3, r4, r5, r6⟩ := S2.out.ps.box.frs; obtain ⟨d0, d1, d2, d3, d4, d5, d6⟩ := S2.out.ps.res.cells; obtain ⟨s0, s1, s2, s3, s4, s5, s6⟩ := S2.out.ps.res.frs; obtain ⟨t0, t1, t2⟩ := S2.out.tags; have HK := Lib.hid hk2; clear hb2 hk2))
          rw [HP.out.1, HP.out.2]
          exact bodyPost_ret (ret_hd rfl rfl rfl ((S2.out.fill k2).ps.res.put Hd.zero)) rfl ⟨rfl, (S2.out.fill k2).ps.out Hd.zero⟩
      · have hb2 : (findL L tHhea).2 = false := by simpa using hb
        have ee : e3 L = 7 := by unfold e3; rw [if_neg hb]
        have HP := Lib.hid (show PE L = 7 ∧ PH L = Hd.zero from by rw [← ee]; exact pe_3 (HO.out.1 (by decide)) (HO.out.2.1 (by decide)) (by omega))
        rw [hb2] at hf
        have HF := Lib.hid hf
        clear hf hlen hD hz hDl hb hb2 ee hh0
        go_wp2_with (go_at_call 26; (with_reducible refine (HF.out _ (HT.out.bel S.out.ps.bel)).mono ?_); rintro e w' ⟨rfl, rfl⟩)
        rw [HP.out.1, HP.out.2]
        exact bodyPost_ret (ret_hd rfl rfl rfl (S.out.ps.res.put Hd.zero)) rfl ⟨rfl, S.out.ps.out Hd.zero⟩
    · have hf4 := pe_4 (HO.out.1 (by decide)) (HO.out.2.1 (by decide)) (HO.out.2.2 (by decide))
      have HP := Lib.hid hf4
      have S := Lib.hid (show QS w wr b g a (full L) from HQ.out)
      obtain ⟨h0, hh0⟩ : ∃ h, h = full L := ⟨_, rfl⟩
      rw [← hh0] at S HP
      clear hf4 hh0 HQ
      obtain ⟨c0, c1, c2, c3, c4, c5, c6⟩ := S.out.ps.box.cells
      obtain ⟨r0, r1, r2, r3, r4, r5, r6⟩ := S.out.ps.box.frs
      obtain ⟨d0, d1, d2, d3, d4, d5, d6⟩ := S.out.ps.res.cells
      obtain ⟨s0, s1, s2, s3, s4, s5, s6⟩ := S.out.ps.res.frs
      obtain ⟨t0, t1, t2⟩ := S.out.tags
      have nbg : ¬ b = g := S.out.ps.ne
      have ngb : ¬ g = b := ne_symm S.out.ps.ne
      go_wp2_with fail
      rw [HP.out.1, HP.out.2]
      exact bodyPost_ret (ret_hd rfl rfl rfl (S.out.ps.res.put h0)) rfl ⟨rfl, S.out.ps.out h0⟩
end Go.Proofs.Ytphnapnmeidgkaa
