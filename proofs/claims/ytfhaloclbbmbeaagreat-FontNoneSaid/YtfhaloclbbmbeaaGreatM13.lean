/- Proved here: what Hmtx answers, in the program. No condition · what Hmtx answers, in the document. Condition: a list of at most 10^6 numbers. -/
import Derived.Test.YtfhaloclbbmbeaaGreatM12
namespace Go.Proofs.YtfhaloclbbmbeaaGreat
open Go.RowKit
def hmB (M : Nat) (xs : List Int) : Nat → List UInt8
  | 0 => []
  | k + 1 => hmB M xs k ++ ((if k < M then byt 2 (co xs k).toNat else []) ++ [0, 0])
theorem hmB_len (M : Nat) (xs : List Int) : ∀ k, (hmB M xs k).length = 2 * k + 2 * min k M
  | 0 => by simp [hmB]
  | k + 1 => by
    simp only [hmB, List.length_append, hmB_len M xs k]
    split
    · rw [byt_len]; simp; omega
    · simp; omega
def HmE (h : Hd) (xs : List Int) : Int := if MayP h ∧ mayW h xs then 0 else 1
def HmS (h : Hd) (xs : List Int) : List UInt8 := if MayP h ∧ mayW h xs then hmB h.me.toNat xs xs.length else []
def StE (x : Int) (l : List UInt8) (w : World) (e : Ending) (w' : World) : Prop := e = .returned (.tuple #[.string ⟨l.toArray⟩, .int .i64 x]) ∧ Below w.heap.size w w'
theorem stE_err {x : Int} {l : List UInt8} {w w' : World} (h : x = 1) (hx : l = []) (hb : Below w.heap.size w w') : StE x l w (.returned (.tuple #[.string ⟨#[]⟩, .int .i64 1])) w' := by
  subst h hx
  exact ⟨rfl, hb⟩
theorem stE_ok {x : Int} {l : List UInt8} {w w' : World} (h : x = 0) {l' : List UInt8} (hx : l = l') (hb : Below w.heap.size w w') : StE x l w (.returned (.tuple #[.string ⟨l'.toArray⟩, .int .i64 0])) w' := by
  subst h hx
  exact ⟨rfl, hb⟩
namespace N11
structure BS (w W : World) (b g : Nat) (h : Hd) (l : List UInt8) : Prop where
  ms : MS w W b h
  bld : Bld g g l W
  far : w.heap.size ≤ g
  ne : b < g
section
variable {w W W' : World} {b g : Nat} {h : Hd} {l l' : List UInt8}
theorem BS.next (s : BS w W b g h l) (hb : Below W.heap.size W W') : BS w W' b g h l := ⟨s.ms.next hb, s.bld.bel hb, s.far, s.ne⟩
theorem BS.wrote (s : BS w W b g h l) (h1 : Bld g g l' W') (h2 : Below g W W') : BS w W' b g h l' := ⟨⟨s.ms.bel.trans (h2.mono s.far), s.ms.box.of (h2.block b s.ne), s.ms.far⟩, h1, s.far, s.ne⟩
theorem BS.start (s : MS w W b h) : BS w (W.alloc (.cells #[.pointer none, .slice none 0 0] 173)) b W.heap.size h [] := ⟨s.box1 _, Bld.new W, s.bel.size, s.box.lt⟩
theorem BS.le (s : BS w W b g h l) : g ≤ W.heap.size := Nat.le_of_lt s.bld.lt
theorem BS.fin (s : BS w W b g h l) (h2 : Below g W W') : Below w.heap.size w W' := s.ms.bel.trans (h2.mono s.far)
end
theorem hmtx_no (h : Hd) (A : Option Addr) (m c : Nat) (xs : List Int) (w : World) (hm : ¬ MayP h) : Calls Tryz.prog 47 #[.agg #[.int .i64 h.em, .bool h.lg, .int .i64 h.gl, .int .i64 h.me, .int .i64 h.a1, .int .i64 h.a2, .int .i64 h.a3], .slice A m c] w (StE (HmE h xs) (HmS h xs) w) := by
  have cm := fun W => may_any h W
  rw [decide_eq_false hm] at cm
  have CM := Lib.hid cm
  have S := Lib.hid (MS.start w h)
  have HP := Lib.hid (fun w' (hb : Below w.heap.size w w') => stE_err (show HmE h xs = 1 from if_neg (fun h => hm h.1)) (show HmS h xs = [] from if_neg (fun h => hm h.1)) hb)
  obtain ⟨f0, f1, f2, f3, f4, f5, f6⟩ := S.out.cells
  clear cm hm
  go_enter Tryz.func47, Tryz.ntmps47
  go_wp2_with (go_at_call 90; (with_reducible refine (CM.out _).mono ?_); rintro e w1 ⟨rfl, hb⟩; have S := Lib.hid (S.out.next hb); clear hb)
  go_ret2
  exact HP.out _ S.out.bel
theorem hmtx_bad (h : Hd) (A : Option Addr) (m c : Nat) (xs : List Int) (w : World) (hI : Il w A m xs) (hm : MayP h) (hx : ¬ mayW h xs) : Calls Tryz.prog 47 #[.agg #[.int .i64 h.em, .bool h.lg, .int .i64 h.gl, .int .i64 h.me, .int .i64 h.a1, .int .i64 h.a2, .int .i64 h.a3], .slice A m c] w (StE (HmE h xs) (HmS h xs) w) := by
  have cm := fun W => may_any h W
  rw [decide_eq_true hm] at cm
  have CM := Lib.hid cm
  have cw := fun W (hI : Il W A m xs) => mayW_any h A m c xs W hm hI
  rw [decide_eq_false hx] at cw
  have CW := Lib.hid cw
  have HI := Lib.hid hI
  have S := Lib.hid (MS.start w h)
  have HP := Lib.hid (fun w' (hb : Below w.heap.size w w') => stE_err (show HmE h xs = 1 from if_neg (fun h => hx h.2)) (show HmS h xs = [] from if_neg (fun h => hx h.2)) hb)
  obtain ⟨f0, f1, f2, f3, f4, f5, f6⟩ := S.out.cells
  clear cm cw hm hx hI
  go_enter Tryz.func47, Tryz.ntmps47
  go_wp2_with (first
    | (go_at_call 90; (with_reducible refine (CM.out _).mono ?_); rintro e w1 ⟨rfl, hb⟩; have S := Lib.hid (S.out.next hb); clear hb f0 f1 f2 f3 f4 f5 f6; obtain ⟨f0, f1, f2, f3, f4, f5, f6⟩ := S.out.cells)
    | (go_at_call 101; (with_reducible refine (CW.out _ (HI.out.bel S.out.bel)).mono ?_); rintro e w1 ⟨rfl, hb⟩; have S := Lib.hid (S.out.next hb); clear hb))
  go_ret2
  exact HP.out _ S.out.bel
set_option maxRecDepth 100000 in
set_option maxHeartbeats 2000000 in
theorem hmtx_ok (em : Int) (lg : Bool) (G M : Nat) (a1 a2 a3 : Int) (A : Option Addr) (c : Nat) (xs : List Int) (w : World) (hI : Il w A G xs) (hm : MayP ⟨em, lg, G, M, a1, a2, a3⟩) (hx : mayW ⟨em, lg, G, M, a1, a2, a3⟩ xs) :
    Calls Tryz.prog 47 #[.agg #[.int .i64 em, .bool lg, .int .i64 (G : Int), .int .i64 (M : Int), .int .i64 a1, .int .i64 a2, .int .i64 a3], .slice A G c] w (StE (HmE ⟨em, lg, G, M, a1, a2, a3⟩ xs) (HmS ⟨em, lg, G, M, a1, a2, a3⟩ xs) w) := by
  have cm := fun W => may_any ⟨em, lg, G, M, a1, a2, a3⟩ W
  rw [decide_eq_true hm] at cm
  have CM := Lib.hid cm
  have cw := fun W (hI : Il W A G xs) => mayW_any ⟨em, lg, G, M, a1, a2, a3⟩ A G c xs W hm hI
  rw [decide_eq_true hx] at cw
  have CW := Lib.hid cw
  simp only at CM CW
  obtain ⟨_, ⟨b1, b2⟩, ⟨b3, b4⟩, _⟩ := id hm
  simp only at b1 b2 b3 b4
  have hG : G ≤ 1024 := by omega
  have HP := Lib.hid (fun w' (hb : Below w.heap.size w w') => stE_ok (l' := hmB M xs G) (show HmE ⟨em, lg, G, M, a1, a2, a3⟩ xs = 0 from if_pos ⟨hm, hx⟩) (show HmS ⟨em, lg, G, M, a1, a2, a3⟩ xs = hmB M xs G by unfold HmS; rw [if_pos ⟨hm, hx⟩, hI.len]; rfl) hb)
  have HI := Lib.hid hI
  have S := Lib.hid (MS.start w ⟨em, lg, G, M, a1, a2, a3⟩)
  obtain ⟨Z, hZ⟩ : ∃ X : ByteArray, X = ⟨([0, 0] : List UInt8).toArray⟩ := ⟨_, rfl⟩
  have CZ := Lib.hid (show ∀ W, Calls Tryz.prog 102 #[.int .u16 0] W fun e w' => e = .returned (.string Z) ∧ Below W.heap.size W w' from fun W => by rw [hZ]; exact p16_any 0 W (by decide))
  have HZ := Lib.hid (show Z.size = 2 ∧ Z.data.toList = [0, 0] from ⟨by rw [hZ]; rfl, by rw [hZ]⟩)
  have HX := Lib.hid (show ∀ k, k < G → ∃ n : Nat, ∃ D : ByteArray, co xs k = (n : Int) ∧ IntKind.u16.wrap (n : Int) = (n : Int) ∧ (∀ W, Calls Tryz.prog 102 #[.int .u16 (n : Int)] W fun e w' => e = .returned (.string D) ∧ Below W.heap.size W w') ∧ D.size = 2 ∧ D.data.toList = byt 2 (co xs k).toNat by
    intro k hk
    obtain ⟨h1, h2, _⟩ := hx.2 k (by rw [hI.len]; exact hk)
    refine ⟨(co xs k).toNat, ⟨(byt 2 (co xs k).toNat).toArray⟩, by omega, wrap_u16n _ (by omega), fun W => p16_any _ W (by omega), ?_, rfl⟩
    show (byt 2 (co xs k).toNat).toArray.size = 2
    rw [List.size_toArray]; exact byt_len 2 _)
  clear cm cw hm hx hI hZ b1 b2 b3 b4
  go_enter Tryz.func47, Tryz.ntmps47
  go_upto_region 1 with fail
  obtain ⟨b, hb⟩ : ∃ b, b = w.heap.size := ⟨_, rfl⟩
  obtain ⟨W0, hW0⟩ : ∃ W, W = w.alloc (.cells #[.int .i64 em, .bool lg, .int .i64 (G : Int), .int .i64 (M : Int), .int .i64 a1, .int .i64 a2, .int .i64 a3] 39) := ⟨_, rfl⟩
  rw [← hW0] at S ⊢
  rw [← hb] at S ⊢
  obtain ⟨f0, f1, f2, f3, f4, f5, f6⟩ := S.out.cells
  clear hb hW0
  go_upto_region 3 with (first
    | (go_at_call 90; (with_reducible refine (CM.out _).mono ?_); rintro e w1 ⟨rfl, hb⟩; have S := Lib.hid (S.out.next hb); clear hb f0 f1 f2 f3 f4 f5 f6; obtain ⟨f0, f1, f2, f3, f4, f5, f6⟩ := S.out.cells)
    | (go_at_call 101; (with_reducible refine (CW.out _ (HI.out.bel S.out.bel)).mono ?_); rintro e w2 ⟨rfl, hb⟩; have S := Lib.hid (S.out.next hb); clear hb))
  go_upto_region 4 with fail
  have HS := Lib.hid (BS.start S.out)
  obtain ⟨g, hg⟩ : ∃ g, g = w2.heap.size := ⟨_, rfl⟩
  obtain ⟨W3, hW3⟩ : ∃ W, W = w2.alloc (.cells #[.pointer none, .slice none 0 0] 173) := ⟨_, rfl⟩
  rw [← hW3] at HS ⊢
  rw [← hg] at HS ⊢
  clear hg hW3 f0 f1 f2 f3 f4 f5 f6 S CM CW
  go_wp2_with fail
  go_loopw [20] (fun i wr => ∃ k : Nat, i = .int .i64 (k : Int) ∧ k ≤ G ∧ BS w wr b g ⟨em, lg, G, M, a1, a2, a3⟩ (hmB M xs k)) (fun i _ => G - (intOf i).toNat)
  case atStart => exact ⟨0, rfl, Nat.zero_le _, HS.out⟩
  case round =>
    obtain ⟨k, rfl, hk, hS⟩ := hrel
    have HS := Lib.hid hS
    by_cases hgo : k < G
    · obtain ⟨f0, f1, f2, f3, f4, f5, f6⟩ := hS.ms.cells
      obtain ⟨a, rfl, c0⟩ := HI.out.at_ hS.ms.bel hgo
      obtain ⟨n, D, hn, hw, hc, hd1, hd2⟩ := HX.out k hgo
      have HC := Lib.hid hc
      have HD := Lib.hid (And.intro hd1 hd2)
      have HL := Lib.hid (show (hmB M xs k).length ≤ 4096 by rw [hmB_len]; omega)
      have HNX := Lib.hid (show hmB M xs (k + 1) = hmB M xs k ++ ((if k < M then byt 2 (co xs k).toNat else []) ++ [0, 0]) from rfl)
      rw [← HD.out.2] at HNX
      obtain ⟨l, hl⟩ : ∃ l, l = hmB M xs k := ⟨_, rfl⟩
      rw [← hl] at HL HNX HS
      rw [hn] at c0
      clear hS hc hd1 hd2 hl hn
      by_cases hkM : k < M
      · rw [if_pos hkM] at HNX
        go_wp2_with (first
          | (go_at_call 102; (with_reducible refine (HC.out _).mono ?_); rintro e w4 ⟨rfl, hb⟩; have HS := Lib.hid (HS.out.next hb); clear hb)
          | (go_at_call 97; (with_reducible refine (ws_any _ _ _ D _ HS.out.bld (by rw [HD.out.1]; have := HL.out; omega) HS.out.le).mono ?_); rintro e w5 ⟨rfl, h1, h2, _⟩; have HS5 := Lib.hid (HS.out.wrote h1 h2); clear h1 h2)
          | (go_at_call 102; (with_reducible refine (CZ.out _).mono ?_); rintro e w6 ⟨rfl, hb⟩; have HS6 := Lib.hid (HS5.out.next hb); clear hb)
          | (go_at_call 97; (with_reducible refine (ws_any _ _ _ Z _ HS6.out.bld (by rw [HZ.out.1]; have := HL.out; have := HD.out.1; simp; omega) HS6.out.le).mono ?_); rintro e w7 ⟨rfl, h1, h2, _⟩; have HS7 := Lib.hid (HS6.out.wrote h1 h2); clear h1 h2))
        exact ⟨⟨k + 1, by simp, by omega, by rw [HNX.out, ← List.append_assoc, ← HZ.out.2]; exact HS7.out⟩, by simp [intOf]; omega⟩
      · rw [if_neg hkM] at HNX
        go_wp2_with (first
          | (go_at_call 102; (with_reducible refine (CZ.out _).mono ?_); rintro e w6 ⟨rfl, hb⟩; have HS6 := Lib.hid (HS.out.next hb); clear hb)
          | (go_at_call 97; (with_reducible refine (ws_any _ _ _ Z _ HS6.out.bld (by rw [HZ.out.1]; have := HL.out; omega) HS6.out.le).mono ?_); rintro e w7 ⟨rfl, h1, h2, _⟩; have HS7 := Lib.hid (HS6.out.wrote h1 h2); clear h1 h2))
        exact ⟨⟨k + 1, by simp, by omega, by rw [HNX.out, List.nil_append, ← HZ.out.2]; exact HS7.out⟩, by simp [intOf]; omega⟩
    · obtain rfl : k = G := by omega
      clear hS
      go_wp2_with (go_at_call 100; (with_reducible refine (str_any _ _ _ _ HS.out.bld HS.out.le).mono ?_); rintro e w8 ⟨rfl, hb⟩; have HB8 := Lib.hid (HS.out.fin hb); clear hb)
      go_ret2
      exact HP.out _ HB8.out
theorem hmtx_any (h : Hd) (A : Option Addr) (m c : Nat) (xs : List Int) (w : World) (hI : Il w A m xs) : Calls Tryz.prog 47 #[.agg #[.int .i64 h.em, .bool h.lg, .int .i64 h.gl, .int .i64 h.me, .int .i64 h.a1, .int .i64 h.a2, .int .i64 h.a3], .slice A m c] w (StE (HmE h xs) (HmS h xs) w) := by
  by_cases hm : MayP h
  · by_cases hx : mayW h xs
    · obtain ⟨G, M, h1, h2, h3, h4, h5, h6⟩ := hm.nat
      have hmG : m = G := by have := hx.1; have := hI.len; omega
      obtain ⟨em, lg, gl, me, a1, a2, a3⟩ := h
      simp only at h1 h2
      subst h1 h2 hmG
      exact hmtx_ok em lg m M a1 a2 a3 A c xs w hI hm hx
    · exact hmtx_bad h A m c xs w hI hm hx
  · exact hmtx_no h A m c xs w hm
end N11
end Go.Proofs.YtfhaloclbbmbeaaGreat
namespace Go.Proofs.YtfhaloclbbmbeaaGreat
open Go.RowKit
theorem wrap_u32n (n : Nat) (h : n < 4294967296) : IntKind.u32.wrap (n : Int) = (n : Int) := by rw [IntKind.wrap_u32]; omega
end Go.Proofs.YtfhaloclbbmbeaaGreat
