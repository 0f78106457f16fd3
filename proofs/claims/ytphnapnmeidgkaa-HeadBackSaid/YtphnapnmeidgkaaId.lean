/- Proved here: what the document's Make answers. No condition. -/
import Derived.Test.YtphnapnmeidgkaaIc
namespace Go.Proofs.Ytphnapnmeidgkaa
open Go.RowKit

theorem put4 (n : Nat) (w : World) (hn : n < 4294967296) : Calls Try.prog 25 #[.int .u32 (n : Int), .int .i64 4] w fun e w' => e = .returned (.string ⟨(byt 4 n).toArray⟩) ∧ Below w.heap.size w w' := put_any n 4 w hn (by decide)
theorem one_ten : byt 2 1 ++ zs 10 = byt 4 65536 ++ zs 8 := by decide +kernel
set_option maxRecDepth 100000 in
set_option maxHeartbeats 8000000 in
theorem rmake_ok (h : Hd) (w : World) (gi : Int) (hgi : gi = (lgN h.lg : Int)) (hlg : (h.lg = true ∧ gi = 1) ∨ (h.lg = false ∧ gi = 0)) :
    Calls Try.prog 11 #[.agg #[.int .i64 h.em, .bool h.lg, .int .i64 h.gl, .int .i64 h.me, .int .i64 h.a1, .int .i64 h.a2, .int .i64 h.a3]] w fun e w' => ∃ A c, e = .returned (.slice A 3 c) ∧ Tl w' A 3 (mkL h) ∧ Below w.heap.size w w' := by
  obtain ⟨P1, hP1⟩ : ∃ X : ByteArray, X = ⟨(byt 2 1).toArray⟩ := ⟨_, rfl⟩
  have zP1 : P1.size = 2 := by rw [hP1]; show (byt 2 1).toArray.size = 2; rw [List.size_toArray]; exact byt_len 2 _
  have cP1 : ∀ W, Calls Try.prog 23 #[.int .i64 1] W fun e w' => e = .returned (.string P1) ∧ Below W.heap.size W w' := fun W => by rw [hP1]; exact rp16_any 1 W
  have CP1 := Lib.hid cP1
  obtain ⟨Z10, hZ10⟩ : ∃ X : ByteArray, X = ⟨(zs 10).toArray⟩ := ⟨_, rfl⟩
  have zZ10 : Z10.size = 10 := by rw [hZ10]; show (zs 10).toArray.size = 10; rw [List.size_toArray]; exact zs_len 10
  have cZ10 : ∀ W, Calls Try.prog 24 #[.int .i64 10] W fun e w' => e = .returned (.string Z10) ∧ Below W.heap.size W w' := fun W => by rw [hZ10]; exact rzeros_any 10 10 rfl W (by decide)
  have CZ10 := Lib.hid cZ10
  obtain ⟨V, hV⟩ : ∃ X : ByteArray, X = ⟨(byt 4 65536).toArray⟩ := ⟨_, rfl⟩
  have zV : V.size = 4 := by rw [hV]; show (byt 4 65536).toArray.size = 4; rw [List.size_toArray]; exact byt_len 4 _
  have cV : ∀ W, Calls Try.prog 25 #[.int .u32 65536, .int .i64 4] W fun e w' => e = .returned (.string V) ∧ Below W.heap.size W w' := fun W => by rw [hV]; exact put4 65536 W (by decide)
  have CV := Lib.hid cV
  obtain ⟨M, hM⟩ : ∃ X : ByteArray, X = ⟨(byt 4 1594834165).toArray⟩ := ⟨_, rfl⟩
  have zM : M.size = 4 := by rw [hM]; show (byt 4 1594834165).toArray.size = 4; rw [List.size_toArray]; exact byt_len 4 _
  have cM : ∀ W, Calls Try.prog 25 #[.int .u32 1594834165, .int .i64 4] W fun e w' => e = .returned (.string M) ∧ Below W.heap.size W w' := fun W => by rw [hM]; exact put4 1594834165 W (by decide)
  have CM := Lib.hid cM
  obtain ⟨Z2, hZ2⟩ : ∃ X : ByteArray, X = ⟨(zs 2).toArray⟩ := ⟨_, rfl⟩
  have zZ2 : Z2.size = 2 := by rw [hZ2]; show (zs 2).toArray.size = 2; rw [List.size_toArray]; exact zs_len 2
  have cZ2 : ∀ W, Calls Try.prog 24 #[.int .i64 2] W fun e w' => e = .returned (.string Z2) ∧ Below W.heap.size W w' := fun W => by rw [hZ2]; exact rzeros_any 2 2 rfl W (by decide)
  have CZ2 := Lib.hid cZ2
  obtain ⟨E, hE⟩ : ∃ X : ByteArray, X = ⟨(byt 2 (w16 h.em)).toArray⟩ := ⟨_, rfl⟩
  have zE : E.size = 2 := by rw [hE]; show (byt 2 (w16 h.em)).toArray.size = 2; rw [List.size_toArray]; exact byt_len 2 _
  have cE : ∀ W, Calls Try.prog 23 #[.int .i64 h.em] W fun e w' => e = .returned (.string E) ∧ Below W.heap.size W w' := fun W => by rw [hE]; exact rp16_any h.em W
  have CE := Lib.hid cE
  obtain ⟨Z30, hZ30⟩ : ∃ X : ByteArray, X = ⟨(zs 30).toArray⟩ := ⟨_, rfl⟩
  have zZ30 : Z30.size = 30 := by rw [hZ30]; show (zs 30).toArray.size = 30; rw [List.size_toArray]; exact zs_len 30
  have cZ30 : ∀ W, Calls Try.prog 24 #[.int .i64 30] W fun e w' => e = .returned (.string Z30) ∧ Below W.heap.size W w' := fun W => by rw [hZ30]; exact rzeros_any 30 30 rfl W (by decide)
  have CZ30 := Lib.hid cZ30
  obtain ⟨G, hG⟩ : ∃ X : ByteArray, X = ⟨(byt 2 (w16 (lgN h.lg : Int))).toArray⟩ := ⟨_, rfl⟩
  have zG : G.size = 2 := by rw [hG]; show (byt 2 (w16 (lgN h.lg : Int))).toArray.size = 2; rw [List.size_toArray]; exact byt_len 2 _
  have cG : ∀ W, Calls Try.prog 23 #[.int .i64 gi] W fun e w' => e = .returned (.string G) ∧ Below W.heap.size W w' := fun W => by rw [hG]; rw [hgi]; exact rp16_any (lgN h.lg : Int) W
  have CG := Lib.hid cG
  obtain ⟨A1, hA1⟩ : ∃ X : ByteArray, X = ⟨(byt 2 (w16 h.a1)).toArray⟩ := ⟨_, rfl⟩
  have zA1 : A1.size = 2 := by rw [hA1]; show (byt 2 (w16 h.a1)).toArray.size = 2; rw [List.size_toArray]; exact byt_len 2 _
  have cA1 : ∀ W, Calls Try.prog 23 #[.int .i64 h.a1] W fun e w' => e = .returned (.string A1) ∧ Below W.heap.size W w' := fun W => by rw [hA1]; exact rp16_any h.a1 W
  have CA1 := Lib.hid cA1
  obtain ⟨A2, hA2⟩ : ∃ X : ByteArray, X = ⟨(byt 2 (w16 h.a2)).toArray⟩ := ⟨_, rfl⟩
  have zA2 : A2.size = 2 := by rw [hA2]; show (byt 2 (w16 h.a2)).toArray.size = 2; rw [List.size_toArray]; exact byt_len 2 _
  have cA2 : ∀ W, Calls Try.prog 23 #[.int .i64 h.a2] W fun e w' => e = .returned (.string A2) ∧ Below W.heap.size W w' := fun W => by rw [hA2]; exact rp16_any h.a2 W
  have CA2 := Lib.hid cA2
  obtain ⟨A3, hA3⟩ : ∃ X : ByteArray, X = ⟨(byt 2 (w16 h.a3)).toArray⟩ := ⟨_, rfl⟩
  have zA3 : A3.size = 2 := by rw [hA3]; show (byt 2 (w16 h.a3)).toArray.size = 2; rw [List.size_toArray]; exact byt_len 2 _
  have cA3 : ∀ W, Calls Try.prog 23 #[.int .i64 h.a3] W fun e w' => e = .returned (.string A3) ∧ Below W.heap.size W w' := fun W => by rw [hA3]; exact rp16_any h.a3 W
  have CA3 := Lib.hid cA3
  obtain ⟨Z24, hZ24⟩ : ∃ X : ByteArray, X = ⟨(zs 24).toArray⟩ := ⟨_, rfl⟩
  have zZ24 : Z24.size = 24 := by rw [hZ24]; show (zs 24).toArray.size = 24; rw [List.size_toArray]; exact zs_len 24
  have cZ24 : ∀ W, Calls Try.prog 24 #[.int .i64 24] W fun e w' => e = .returned (.string Z24) ∧ Below W.heap.size W w' := fun W => by rw [hZ24]; exact rzeros_any 24 24 rfl W (by decide)
  have CZ24 := Lib.hid cZ24
  obtain ⟨ME, hME⟩ : ∃ X : ByteArray, X = ⟨(byt 2 (w16 h.me)).toArray⟩ := ⟨_, rfl⟩
  have zME : ME.size = 2 := by rw [hME]; show (byt 2 (w16 h.me)).toArray.size = 2; rw [List.size_toArray]; exact byt_len 2 _
  have cME : ∀ W, Calls Try.prog 23 #[.int .i64 h.me] W fun e w' => e = .returned (.string ME) ∧ Below W.heap.size W w' := fun W => by rw [hME]; exact rp16_any h.me W
  have CME := Lib.hid cME
  obtain ⟨GL, hGL⟩ : ∃ X : ByteArray, X = ⟨(byt 2 (w16 h.gl)).toArray⟩ := ⟨_, rfl⟩
  have zGL : GL.size = 2 := by rw [hGL]; show (byt 2 (w16 h.gl)).toArray.size = 2; rw [List.size_toArray]; exact byt_len 2 _
  have cGL : ∀ W, Calls Try.prog 23 #[.int .i64 h.gl] W fun e w' => e = .returned (.string GL) ∧ Below W.heap.size W w' := fun W => by rw [hGL]; exact rp16_any h.gl W
  have CGL := Lib.hid cGL
  obtain ⟨Z26, hZ26⟩ : ∃ X : ByteArray, X = ⟨(zs 26).toArray⟩ := ⟨_, rfl⟩
  have zZ26 : Z26.size = 26 := by rw [hZ26]; show (zs 26).toArray.size = 26; rw [List.size_toArray]; exact zs_len 26
  have cZ26 : ∀ W, Calls Try.prog 24 #[.int .i64 26] W fun e w' => e = .returned (.string Z26) ∧ Below W.heap.size W w' := fun W => by rw [hZ26]; exact rzeros_any 26 26 rfl W (by decide)
  have CZ26 := Lib.hid cZ26
  have HD1 := Lib.hid (show (⟨(dHead h).toArray⟩ : ByteArray) = P1 ++ Z10 ++ M ++ Z2 ++ E ++ Z30 ++ G ++ Z2 by
    rw [hP1, hZ10, hM, hZ2, hE, hZ30, hG, show w16 (lgN h.lg : Int) = lgN h.lg from by unfold lgN; split <;> rfl]; simp only [app_txt]; rw [one_ten]; rfl)
  have HD2 := Lib.hid (show (⟨(dHhea h).toArray⟩ : ByteArray) = V ++ A1 ++ A2 ++ A3 ++ Z24 ++ ME by
    rw [hV, hA1, hA2, hA3, hZ24, hME]; simp only [app_txt]; rfl)
  have HD3 := Lib.hid (show (⟨(dMaxp h).toArray⟩ : ByteArray) = V ++ GL ++ Z26 by
    rw [hV, hGL, hZ26]; simp only [app_txt]; rfl)
  have HGP := Lib.hid (show gi = 1 → G = P1 from fun h1 => by rw [hG, hP1, ← hgi, h1]; rfl)
  clear hgi hP1 cP1 hZ10 cZ10 hV cV hM cM hZ2 cZ2 hE cE hZ30 cZ30 hG cG hA1 cA1 hA2 cA2 hA3 cA3 hZ24 cZ24 hME cME hGL cGL hZ26 cZ26
  have S0 := Lib.hid (show MS w (w.alloc (.cells #[.int .i64 h.em, .bool h.lg, .int .i64 h.gl, .int .i64 h.me, .int .i64 h.a1, .int .i64 h.a2, .int .i64 h.a3] 23)) w.heap.size h from ⟨(Below.refl _ _).alloc (Nat.le_refl _) _, heap_alloc_new w _⟩)
  go_enter Try.func11, Try.ntmps11
  go_upto_region 1 with fail
  obtain ⟨b, hb⟩ : ∃ b, b = w.heap.size := ⟨_, rfl⟩
  obtain ⟨W0, hW0⟩ : ∃ W, W = w.alloc (.cells #[.int .i64 h.em, .bool h.lg, .int .i64 h.gl, .int .i64 h.me, .int .i64 h.a1, .int .i64 h.a2, .int .i64 h.a3] 23) := ⟨_, rfl⟩
  rw [← hb, ← hW0] at S0 ⊢
  have H := Lib.hid (show MS w W0 b h from ⟨by rw [hb] at S0; exact S0.out.bel, S0.out.box⟩)
  clear hb hW0 S0
  obtain ⟨f0, f1, f2, f3, f4, f5, f6⟩ := H.out.cells
  rcases hlg with ⟨hlb, rfl⟩ | ⟨hlb, rfl⟩
  all_goals
    rw [hlb] at f1
    clear hlb
    go_upto_region 4 with fail
    go_region_held3 (fun w' => w'.cell? ⟨b, 0, none⟩ = some (.int .i64 h.em) ∧ w'.cell? ⟨b, 2, none⟩ = some (.int .i64 h.gl) ∧ w'.cell? ⟨b, 3, none⟩ = some (.int .i64 h.me) ∧ w'.cell? ⟨b, 4, none⟩ = some (.int .i64 h.a1) ∧ w'.cell? ⟨b, 5, none⟩ = some (.int .i64 h.a2) ∧ w'.cell? ⟨b, 6, none⟩ = some (.int .i64 h.a3))
      (first | with_reducible exact H.out.six | go_keep)
      (first
        | (go_at_call 23; (with_reducible refine (CP1.out _).mono ?_); rintro e wx ⟨rfl, hb⟩; (first | have H := Lib.hid (H.out.next hb) | have H := Lib.hid (H.out.drew.next hb)); clear hb)
        | (go_at_call 24; (with_reducible refine (CZ10.out _).mono ?_); rintro e wx ⟨rfl, hb⟩; (first | have H := Lib.hid (H.out.next hb) | have H := Lib.hid (H.out.drew.next hb)); clear hb)
        | (go_at_call 25; (with_reducible refine (CM.out _).mono ?_); rintro e wx ⟨rfl, hb⟩; (first | have H := Lib.hid (H.out.next hb) | have H := Lib.hid (H.out.drew.next hb)); clear hb)
        | (go_at_call 24; (with_reducible refine (CZ2.out _).mono ?_); rintro e wx ⟨rfl, hb⟩; (first | have H := Lib.hid (H.out.next hb) | have H := Lib.hid (H.out.drew.next hb)); clear hb)
        | (go_at_call 23; (with_reducible refine (CE.out _).mono ?_); rintro e wx ⟨rfl, hb⟩; (first | have H := Lib.hid (H.out.next hb) | have H := Lib.hid (H.out.drew.next hb)); clear hb)
        | (go_at_call 24; (with_reducible refine (CZ30.out _).mono ?_); rintro e wx ⟨rfl, hb⟩; (first | have H := Lib.hid (H.out.next hb) | have H := Lib.hid (H.out.drew.next hb)); clear hb)
        | (go_at_call 23; (with_reducible refine (CG.out _).mono ?_); rintro e wx ⟨rfl, hb⟩; (first | have H := Lib.hid (H.out.next hb) | have H := Lib.hid (H.out.drew.next hb)); clear hb))
    obtain ⟨f0, f2, f3, f4, f5, f6⟩ := H.out.six
    go_upto_region 5 with fail
    go_region_held3 (fun w' => w'.cell? ⟨b, 0, none⟩ = some (.int .i64 h.em) ∧ w'.cell? ⟨b, 2, none⟩ = some (.int .i64 h.gl) ∧ w'.cell? ⟨b, 3, none⟩ = some (.int .i64 h.me) ∧ w'.cell? ⟨b, 4, none⟩ = some (.int .i64 h.a1) ∧ w'.cell? ⟨b, 5, none⟩ = some (.int .i64 h.a2) ∧ w'.cell? ⟨b, 6, none⟩ = some (.int .i64 h.a3))
      (first | with_reducible exact H.out.six | go_keep)
      (first
        | (go_at_call 25; (with_reducible refine (CV.out _).mono ?_); rintro e wx ⟨rfl, hb⟩; (first | have H := Lib.hid (H.out.next hb) | have H := Lib.hid (H.out.drew.next hb)); clear hb)
        | (go_at_call 23; (with_reducible refine (CA1.out _).mono ?_); rintro e wx ⟨rfl, hb⟩; (first | have H := Lib.hid (H.out.next hb) | have H := Lib.hid (H.out.drew.next hb)); clear hb)
        | (go_at_call 23; (with_reducible refine (CA2.out _).mono ?_); rintro e wx ⟨rfl, hb⟩; (first | have H := Lib.hid (H.out.next hb) | have H := Lib.hid (H.out.drew.next hb)); clear hb)
        | (go_at_call 23; (with_reducible refine (CA3.out _).mono ?_); rintro e wx ⟨rfl, hb⟩; (first | have H := Lib.hid (H.out.next hb) | have H := Lib.hid (H.out.drew.next hb)); clear hb)
        | (go_at_call 24; (with_reducible refine (CZ24.out _).mono ?_); rintro e wx ⟨rfl, hb⟩; (first | have H := Lib.hid (H.out.next hb) | have H := Lib.hid (H.out.drew.next hb)); clear hb)
        | (go_at_call 23; (with_reducible refine (CME.out _).mono ?_); rintro e wx ⟨rfl, hb⟩; (first | have H := Lib.hid (H.out.next hb) | have H := Lib.hid (H.out.drew.next hb)); clear hb))
    obtain ⟨f0, f2, f3, f4, f5, f6⟩ := H.out.six
    go_upto_region 6 with fail
    go_region_held3 (fun w' => w'.cell? ⟨b, 0, none⟩ = some (.int .i64 h.em) ∧ w'.cell? ⟨b, 2, none⟩ = some (.int .i64 h.gl) ∧ w'.cell? ⟨b, 3, none⟩ = some (.int .i64 h.me) ∧ w'.cell? ⟨b, 4, none⟩ = some (.int .i64 h.a1) ∧ w'.cell? ⟨b, 5, none⟩ = some (.int .i64 h.a2) ∧ w'.cell? ⟨b, 6, none⟩ = some (.int .i64 h.a3))
      (first | with_reducible exact H.out.six | go_keep)
      (first
        | (go_at_call 25; (with_reducible refine (CV.out _).mono ?_); rintro e wx ⟨rfl, hb⟩; (first | have H := Lib.hid (H.out.next hb) | have H := Lib.hid (H.out.drew.next hb)); clear hb)
        | (go_at_call 23; (with_reducible refine (CGL.out _).mono ?_); rintro e wx ⟨rfl, hb⟩; (first | have H := Lib.hid (H.out.next hb) | have H := Lib.hid (H.out.drew.next hb)); clear hb)
        | (go_at_call 24; (with_reducible refine (CZ26.out _).mono ?_); rintro e wx ⟨rfl, hb⟩; (first | have H := Lib.hid (H.out.next hb) | have H := Lib.hid (H.out.drew.next hb)); clear hb))
    obtain ⟨f0, f2, f3, f4, f5, f6⟩ := H.out.six
    go_wp2_with fail
    go_ret
    first
      | exact ⟨_, _, rfl, tl3 _ _ _ _ h HD1.out HD2.out HD3.out, H.out.bel.alloc H.out.bel.size _⟩
      | exact ⟨_, _, rfl, tl3 _ _ _ _ h (HD1.out.trans (by rw [HGP.out (by trivial)])) HD2.out HD3.out, H.out.bel.alloc H.out.bel.size _⟩
theorem lg_cases (b : Bool) : (b = true ∧ (lgN b : Int) = 1) ∨ (b = false ∧ (lgN b : Int) = 0) := by cases b <;> simp [lgN]
theorem rmake_any (h : Hd) (w : World) : Calls Try.prog 11 #[.agg #[.int .i64 h.em, .bool h.lg, .int .i64 h.gl, .int .i64 h.me, .int .i64 h.a1, .int .i64 h.a2, .int .i64 h.a3]] w fun e w' => ∃ A c, e = .returned (.slice A 3 c) ∧ Tl w' A 3 (mkL h) ∧ Below w.heap.size w w' := rmake_ok h w _ rfl (lg_cases h.lg)
theorem make_any (h : Hd) (w : World) (hm : MayP h) : Calls Try.prog 6 #[.agg #[.int .i64 h.em, .bool h.lg, .int .i64 h.gl, .int .i64 h.me, .int .i64 h.a1, .int .i64 h.a2, .int .i64 h.a3]] w fun e w' => ∃ A c, e = .returned (.tuple #[.slice A 3 c, .int .i64 0]) ∧ Tl w' A 3 (mkL h) ∧ Below w.heap.size w w' := make_ok h w hm _ rfl (lg_cases h.lg)
end Go.Proofs.Ytphnapnmeidgkaa
