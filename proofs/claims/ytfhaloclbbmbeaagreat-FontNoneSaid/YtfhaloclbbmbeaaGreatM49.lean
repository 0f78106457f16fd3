/- Proved here: that the tables that head's Make makes lie in a row of their own. Condition: what is said may be · what the font's Make answers where all is right. Condition: that each call that it makes answers as is said. -/
import Derived.Test.YtfhaloclbbmbeaaGreatM48
import Derived.Test.YtfhaloclbbmbeaaGreatM47
namespace Go.Proofs.YtfhaloclbbmbeaaGreat
open Go.RowKit
theorem own3 {W : World} {B : Nat} (hB : B ≤ W.heap.size) {x y z : ByteArray} (h : Hd) (h1 : (⟨(dHead h).toArray⟩ : ByteArray) = x) (h2 : (⟨(dHhea h).toArray⟩ : ByteArray) = y) (h3 : (⟨(dMaxp h).toArray⟩ : ByteArray) = z) :
    (W.alloc (.cells #[.string ⟨#[104, 101, 97, 100]⟩, .string x, .string ⟨#[104, 104, 101, 97]⟩, .string y, .string ⟨#[109, 97, 120, 112]⟩, .string z] 34)).ownsRow B 34 2 (.slice (some ⟨W.heap.size, 0, none⟩) 3 3) 3 (tabC (mkL h)) := by
  subst h1 h2 h3
  exact own_base (World.ownsRow_lit W #[.string ⟨#[104, 101, 97, 100]⟩, .string ⟨(dHead h).toArray⟩, .string ⟨#[104, 104, 101, 97]⟩, .string ⟨(dHhea h).toArray⟩, .string ⟨#[109, 97, 120, 112]⟩, .string ⟨(dMaxp h).toArray⟩] 3 (e := 34) (size := 2) (Nat.le_refl _) (by unfold maxLen; omega) rfl) hB
namespace N10
set_option maxRecDepth 100000 in
set_option maxHeartbeats 8000000 in
theorem makeK_ok (h : Hd) (w : World) (hm : MayP h) (gi : Int) (hgi : gi = (lgN h.lg : Int)) (hlg : (h.lg = true ∧ gi = 1) ∨ (h.lg = false ∧ gi = 0)) :
    Calls Tryz.prog 43 #[.agg #[.int .i64 h.em, .bool h.lg, .int .i64 h.gl, .int .i64 h.me, .int .i64 h.a1, .int .i64 h.a2, .int .i64 h.a3]] w fun e w' => ∃ A c, e = .returned (.tuple #[.slice A 3 c, .int .i64 0]) ∧ w'.ownsRow w.heap.size 34 2 (.slice A 3 c) 3 (tabC (mkL h)) ∧ Below w.heap.size w w' := by
  have cm := fun W => may_any h W
  rw [decide_eq_true hm] at cm
  obtain ⟨V, hV⟩ : ∃ X : ByteArray, X = ⟨(byt 4 65536).toArray⟩ := ⟨_, rfl⟩
  have zV : V.size = 4 := by rw [hV]; show (byt 4 65536).toArray.size = 4; rw [List.size_toArray]; exact byt_len 4 _
  have cV : ∀ W, Calls Tryz.prog 91 #[.int .u32 65536] W fun e w' => e = .returned (.string V) ∧ Below W.heap.size W w' := fun W => by rw [hV]; exact p32_any 65536 W (by decide)
  have CV := Lib.hid cV
  obtain ⟨Z8, hZ8⟩ : ∃ X : ByteArray, X = ⟨(zs 8).toArray⟩ := ⟨_, rfl⟩
  have zZ8 : Z8.size = 8 := by rw [hZ8]; show (zs 8).toArray.size = 8; rw [List.size_toArray]; exact zs_len 8
  have cZ8 : ∀ W, Calls Tryz.prog 92 #[.int .i64 8] W fun e w' => e = .returned (.string Z8) ∧ Below W.heap.size W w' := fun W => by rw [hZ8]; exact zeros_any 8 8 rfl W (by decide)
  have CZ8 := Lib.hid cZ8
  obtain ⟨M, hM⟩ : ∃ X : ByteArray, X = ⟨(byt 4 1594834165).toArray⟩ := ⟨_, rfl⟩
  have zM : M.size = 4 := by rw [hM]; show (byt 4 1594834165).toArray.size = 4; rw [List.size_toArray]; exact byt_len 4 _
  have cM : ∀ W, Calls Tryz.prog 91 #[.int .u32 1594834165] W fun e w' => e = .returned (.string M) ∧ Below W.heap.size W w' := fun W => by rw [hM]; exact p32_any 1594834165 W (by decide)
  have CM := Lib.hid cM
  obtain ⟨Z2, hZ2⟩ : ∃ X : ByteArray, X = ⟨(zs 2).toArray⟩ := ⟨_, rfl⟩
  have zZ2 : Z2.size = 2 := by rw [hZ2]; show (zs 2).toArray.size = 2; rw [List.size_toArray]; exact zs_len 2
  have cZ2 : ∀ W, Calls Tryz.prog 92 #[.int .i64 2] W fun e w' => e = .returned (.string Z2) ∧ Below W.heap.size W w' := fun W => by rw [hZ2]; exact zeros_any 2 2 rfl W (by decide)
  have CZ2 := Lib.hid cZ2
  obtain ⟨E, hE⟩ : ∃ X : ByteArray, X = ⟨(byt 2 (w16 h.em)).toArray⟩ := ⟨_, rfl⟩
  have zE : E.size = 2 := by rw [hE]; show (byt 2 (w16 h.em)).toArray.size = 2; rw [List.size_toArray]; exact byt_len 2 _
  have cE : ∀ W, Calls Tryz.prog 93 #[.int .i64 h.em] W fun e w' => e = .returned (.string E) ∧ Below W.heap.size W w' := fun W => by rw [hE]; exact sh_any h.em W
  have CE := Lib.hid cE
  obtain ⟨Z30, hZ30⟩ : ∃ X : ByteArray, X = ⟨(zs 30).toArray⟩ := ⟨_, rfl⟩
  have zZ30 : Z30.size = 30 := by rw [hZ30]; show (zs 30).toArray.size = 30; rw [List.size_toArray]; exact zs_len 30
  have cZ30 : ∀ W, Calls Tryz.prog 92 #[.int .i64 30] W fun e w' => e = .returned (.string Z30) ∧ Below W.heap.size W w' := fun W => by rw [hZ30]; exact zeros_any 30 30 rfl W (by decide)
  have CZ30 := Lib.hid cZ30
  obtain ⟨G, hG⟩ : ∃ X : ByteArray, X = ⟨(byt 2 (w16 (lgN h.lg : Int))).toArray⟩ := ⟨_, rfl⟩
  have zG : G.size = 2 := by rw [hG]; show (byt 2 (w16 (lgN h.lg : Int))).toArray.size = 2; rw [List.size_toArray]; exact byt_len 2 _
  have cG : ∀ W, Calls Tryz.prog 93 #[.int .i64 gi] W fun e w' => e = .returned (.string G) ∧ Below W.heap.size W w' := fun W => by rw [hG]; rw [hgi]; exact sh_any (lgN h.lg : Int) W
  have CG := Lib.hid cG
  obtain ⟨A1, hA1⟩ : ∃ X : ByteArray, X = ⟨(byt 2 (w16 h.a1)).toArray⟩ := ⟨_, rfl⟩
  have zA1 : A1.size = 2 := by rw [hA1]; show (byt 2 (w16 h.a1)).toArray.size = 2; rw [List.size_toArray]; exact byt_len 2 _
  have cA1 : ∀ W, Calls Tryz.prog 93 #[.int .i64 h.a1] W fun e w' => e = .returned (.string A1) ∧ Below W.heap.size W w' := fun W => by rw [hA1]; exact sh_any h.a1 W
  have CA1 := Lib.hid cA1
  obtain ⟨A2, hA2⟩ : ∃ X : ByteArray, X = ⟨(byt 2 (w16 h.a2)).toArray⟩ := ⟨_, rfl⟩
  have zA2 : A2.size = 2 := by rw [hA2]; show (byt 2 (w16 h.a2)).toArray.size = 2; rw [List.size_toArray]; exact byt_len 2 _
  have cA2 : ∀ W, Calls Tryz.prog 93 #[.int .i64 h.a2] W fun e w' => e = .returned (.string A2) ∧ Below W.heap.size W w' := fun W => by rw [hA2]; exact sh_any h.a2 W
  have CA2 := Lib.hid cA2
  obtain ⟨A3, hA3⟩ : ∃ X : ByteArray, X = ⟨(byt 2 (w16 h.a3)).toArray⟩ := ⟨_, rfl⟩
  have zA3 : A3.size = 2 := by rw [hA3]; show (byt 2 (w16 h.a3)).toArray.size = 2; rw [List.size_toArray]; exact byt_len 2 _
  have cA3 : ∀ W, Calls Tryz.prog 93 #[.int .i64 h.a3] W fun e w' => e = .returned (.string A3) ∧ Below W.heap.size W w' := fun W => by rw [hA3]; exact sh_any h.a3 W
  have CA3 := Lib.hid cA3
  obtain ⟨Z24, hZ24⟩ : ∃ X : ByteArray, X = ⟨(zs 24).toArray⟩ := ⟨_, rfl⟩
  have zZ24 : Z24.size = 24 := by rw [hZ24]; show (zs 24).toArray.size = 24; rw [List.size_toArray]; exact zs_len 24
  have cZ24 : ∀ W, Calls Tryz.prog 92 #[.int .i64 24] W fun e w' => e = .returned (.string Z24) ∧ Below W.heap.size W w' := fun W => by rw [hZ24]; exact zeros_any 24 24 rfl W (by decide)
  have CZ24 := Lib.hid cZ24
  obtain ⟨ME, hME⟩ : ∃ X : ByteArray, X = ⟨(byt 2 (w16 h.me)).toArray⟩ := ⟨_, rfl⟩
  have zME : ME.size = 2 := by rw [hME]; show (byt 2 (w16 h.me)).toArray.size = 2; rw [List.size_toArray]; exact byt_len 2 _
  have cME : ∀ W, Calls Tryz.prog 93 #[.int .i64 h.me] W fun e w' => e = .returned (.string ME) ∧ Below W.heap.size W w' := fun W => by rw [hME]; exact sh_any h.me W
  have CME := Lib.hid cME
  obtain ⟨GL, hGL⟩ : ∃ X : ByteArray, X = ⟨(byt 2 (w16 h.gl)).toArray⟩ := ⟨_, rfl⟩
  have zGL : GL.size = 2 := by rw [hGL]; show (byt 2 (w16 h.gl)).toArray.size = 2; rw [List.size_toArray]; exact byt_len 2 _
  have cGL : ∀ W, Calls Tryz.prog 93 #[.int .i64 h.gl] W fun e w' => e = .returned (.string GL) ∧ Below W.heap.size W w' := fun W => by rw [hGL]; exact sh_any h.gl W
  have CGL := Lib.hid cGL
  obtain ⟨Z26, hZ26⟩ : ∃ X : ByteArray, X = ⟨(zs 26).toArray⟩ := ⟨_, rfl⟩
  have zZ26 : Z26.size = 26 := by rw [hZ26]; show (zs 26).toArray.size = 26; rw [List.size_toArray]; exact zs_len 26
  have cZ26 : ∀ W, Calls Tryz.prog 92 #[.int .i64 26] W fun e w' => e = .returned (.string Z26) ∧ Below W.heap.size W w' := fun W => by rw [hZ26]; exact zeros_any 26 26 rfl W (by decide)
  have CZ26 := Lib.hid cZ26
  have HD1 := Lib.hid (show (⟨(dHead h).toArray⟩ : ByteArray) = V ++ Z8 ++ M ++ Z2 ++ E ++ Z30 ++ G ++ Z2 by
    rw [hV, hZ8, hM, hZ2, hE, hZ30, hG, show w16 (lgN h.lg : Int) = lgN h.lg from by unfold lgN; split <;> rfl]; simp only [app_txt]; rfl)
  have HD2 := Lib.hid (show (⟨(dHhea h).toArray⟩ : ByteArray) = V ++ A1 ++ A2 ++ A3 ++ Z24 ++ ME by
    rw [hV, hA1, hA2, hA3, hZ24, hME]; simp only [app_txt]; rfl)
  have HD3 := Lib.hid (show (⟨(dMaxp h).toArray⟩ : ByteArray) = V ++ GL ++ Z26 by
    rw [hV, hGL, hZ26]; simp only [app_txt]; rfl)
  have CMY := Lib.hid cm
  clear cm hm hgi hV cV hZ8 cZ8 hM cM hZ2 cZ2 hE cE hZ30 cZ30 hG cG hA1 cA1 hA2 cA2 hA3 cA3 hZ24 cZ24 hME cME hGL cGL hZ26 cZ26
  have S0 := Lib.hid (show MS w (w.alloc (.cells #[.int .i64 h.em, .bool h.lg, .int .i64 h.gl, .int .i64 h.me, .int .i64 h.a1, .int .i64 h.a2, .int .i64 h.a3] 39)) w.heap.size h from ⟨(Below.refl _ _).alloc (Nat.le_refl _) _, heap_alloc_new w _⟩)
  go_enter Tryz.func43, Tryz.ntmps43
  go_upto_region 1 with fail
  obtain ⟨b, hb⟩ : ∃ b, b = w.heap.size := ⟨_, rfl⟩
  obtain ⟨W0, hW0⟩ : ∃ W, W = w.alloc (.cells #[.int .i64 h.em, .bool h.lg, .int .i64 h.gl, .int .i64 h.me, .int .i64 h.a1, .int .i64 h.a2, .int .i64 h.a3] 39) := ⟨_, rfl⟩
  rw [← hb, ← hW0] at S0 ⊢
  have S0 := Lib.hid (show MS w W0 b h from ⟨by rw [hb] at S0; exact S0.out.bel, S0.out.box⟩)
  clear hb hW0
  obtain ⟨f0, f1, f2, f3, f4, f5, f6⟩ := S0.out.cells
  rcases hlg with ⟨hlb, rfl⟩ | ⟨hlb, rfl⟩
  all_goals
    have HLB := Lib.hid hlb
    rw [hlb] at f1 CMY
    clear hlb
    go_upto_region 6 with (go_at_call 90; (with_reducible refine (CMY.out _).mono ?_); rintro e w1 ⟨rfl, hb⟩; have H := Lib.hid (S0.out.next hb); clear hb f0 f1 f2 f3 f4 f5 f6; obtain ⟨f0, f1, f2, f3, f4, f5, f6⟩ := H.out.cells; rw [HLB.out] at f1)
    go_region_held3 (fun w' => w'.cell? ⟨b, 0, none⟩ = some (.int .i64 h.em) ∧ w'.cell? ⟨b, 2, none⟩ = some (.int .i64 h.gl) ∧ w'.cell? ⟨b, 3, none⟩ = some (.int .i64 h.me) ∧ w'.cell? ⟨b, 4, none⟩ = some (.int .i64 h.a1) ∧ w'.cell? ⟨b, 5, none⟩ = some (.int .i64 h.a2) ∧ w'.cell? ⟨b, 6, none⟩ = some (.int .i64 h.a3))
      (first | with_reducible exact H.out.six | go_keep)
      (first
        | (go_at_call 91; (with_reducible refine (CV.out _).mono ?_); rintro e wx ⟨rfl, hb⟩; (first | have H := Lib.hid (H.out.next hb) | have H := Lib.hid (H.out.drew.next hb)); clear hb)
        | (go_at_call 92; (with_reducible refine (CZ8.out _).mono ?_); rintro e wx ⟨rfl, hb⟩; (first | have H := Lib.hid (H.out.next hb) | have H := Lib.hid (H.out.drew.next hb)); clear hb)
        | (go_at_call 91; (with_reducible refine (CM.out _).mono ?_); rintro e wx ⟨rfl, hb⟩; (first | have H := Lib.hid (H.out.next hb) | have H := Lib.hid (H.out.drew.next hb)); clear hb)
        | (go_at_call 92; (with_reducible refine (CZ2.out _).mono ?_); rintro e wx ⟨rfl, hb⟩; (first | have H := Lib.hid (H.out.next hb) | have H := Lib.hid (H.out.drew.next hb)); clear hb)
        | (go_at_call 93; (with_reducible refine (CE.out _).mono ?_); rintro e wx ⟨rfl, hb⟩; (first | have H := Lib.hid (H.out.next hb) | have H := Lib.hid (H.out.drew.next hb)); clear hb)
        | (go_at_call 92; (with_reducible refine (CZ30.out _).mono ?_); rintro e wx ⟨rfl, hb⟩; (first | have H := Lib.hid (H.out.next hb) | have H := Lib.hid (H.out.drew.next hb)); clear hb)
        | (go_at_call 93; (with_reducible refine (CG.out _).mono ?_); rintro e wx ⟨rfl, hb⟩; (first | have H := Lib.hid (H.out.next hb) | have H := Lib.hid (H.out.drew.next hb)); clear hb)
        | (go_at_call 93; (with_reducible refine (CA1.out _).mono ?_); rintro e wx ⟨rfl, hb⟩; (first | have H := Lib.hid (H.out.next hb) | have H := Lib.hid (H.out.drew.next hb)); clear hb)
        | (go_at_call 93; (with_reducible refine (CA2.out _).mono ?_); rintro e wx ⟨rfl, hb⟩; (first | have H := Lib.hid (H.out.next hb) | have H := Lib.hid (H.out.drew.next hb)); clear hb)
        | (go_at_call 93; (with_reducible refine (CA3.out _).mono ?_); rintro e wx ⟨rfl, hb⟩; (first | have H := Lib.hid (H.out.next hb) | have H := Lib.hid (H.out.drew.next hb)); clear hb)
        | (go_at_call 92; (with_reducible refine (CZ24.out _).mono ?_); rintro e wx ⟨rfl, hb⟩; (first | have H := Lib.hid (H.out.next hb) | have H := Lib.hid (H.out.drew.next hb)); clear hb)
        | (go_at_call 93; (with_reducible refine (CME.out _).mono ?_); rintro e wx ⟨rfl, hb⟩; (first | have H := Lib.hid (H.out.next hb) | have H := Lib.hid (H.out.drew.next hb)); clear hb)
        | (go_at_call 93; (with_reducible refine (CGL.out _).mono ?_); rintro e wx ⟨rfl, hb⟩; (first | have H := Lib.hid (H.out.next hb) | have H := Lib.hid (H.out.drew.next hb)); clear hb)
        | (go_at_call 92; (with_reducible refine (CZ26.out _).mono ?_); rintro e wx ⟨rfl, hb⟩; (first | have H := Lib.hid (H.out.next hb) | have H := Lib.hid (H.out.drew.next hb)); clear hb))
    go_wp2_with fail
    go_ret2
    exact ⟨_, _, rfl, own3 H.out.bel.size h HD1.out HD2.out HD3.out, H.out.bel.alloc H.out.bel.size _⟩
theorem makeK_any (h : Hd) (w : World) (hm : MayP h) : Calls Tryz.prog 43 #[.agg #[.int .i64 h.em, .bool h.lg, .int .i64 h.gl, .int .i64 h.me, .int .i64 h.a1, .int .i64 h.a2, .int .i64 h.a3]] w fun e w' => ∃ A c, e = .returned (.tuple #[.slice A 3 c, .int .i64 0]) ∧ w'.ownsRow w.heap.size 34 2 (.slice A 3 c) 3 (tabC (mkL h)) ∧ Below w.heap.size w w' := makeK_ok h w hm _ rfl (lg_cases h.lg)
end N10
end Go.Proofs.YtfhaloclbbmbeaaGreat
namespace Go.Proofs.YtfhaloclbbmbeaaGreat
open Go.RowKit
namespace Ft
def allT (h : Hd) (c d x l : List UInt8) : List (List UInt8 × List UInt8) := mkL h ++ [(tCmap, c), (tGlyf, d), (tHmtx, x), (tLoca, l)]
def sorT (h : Hd) (c d x l : List UInt8) : List (List UInt8 × List UInt8) := [(tCmap, c), (tGlyf, d), (tHead, dHead h), (tHhea, dHhea h), (tHmtx, x), (tLoca, l), (tMaxp, dMaxp h)]
theorem tabC_app (L R : List (List UInt8 × List UInt8)) : tabC (L ++ R) = tabC L ++ tabC R := by simp [tabC]
set_option maxHeartbeats 8000000 in
set_option maxRecDepth 100000 in
theorem make_ok (h : Hd) (hm : MayP h) (Aw As : Option Addr) (Ap : Addr) (mw cw ms cs mp cp : Nat) (w : World) (n : Nat) (ps : List Int) (c d x l F : List UInt8) (hn : (ms : Int) = h.gl)
    (HM : Hid (∀ W, Below w.heap.size w W → Calls Tryz.prog 44 #[.slice As ms cs] W fun e w' => e = .returned (.bool true) ∧ Below W.heap.size W w'))
    (HC : Hid (∀ W, Below w.heap.size w W → Calls Tryz.prog 45 #[.slice (some Ap) mp cp, .int .i64 h.gl] W fun e w' => e = .returned (.bool true) ∧ Below W.heap.size W w'))
    (HT : Hid (∀ W, Below w.heap.size w W → Calls Tryz.prog 46 #[.slice As ms cs] W fun e w' => ∃ A c', e = .returned (.tuple #[.string ⟨d.toArray⟩, .slice A n c', .int .i64 0]) ∧ Il w' A n ps ∧ Below W.heap.size W w'))
    (HX : Hid (∀ W, Below w.heap.size w W → Calls Tryz.prog 47 #[.agg #[.int .i64 h.em, .bool h.lg, .int .i64 h.gl, .int .i64 h.me, .int .i64 h.a1, .int .i64 h.a2, .int .i64 h.a3], .slice Aw mw cw] W fun e w' => e = .returned (.tuple #[.string ⟨x.toArray⟩, .int .i64 0]) ∧ Below W.heap.size W w'))
    (HL : Hid (∀ W A c', Il W A n ps → Calls Tryz.prog 48 #[.agg #[.int .i64 h.em, .bool h.lg, .int .i64 h.gl, .int .i64 h.me, .int .i64 h.a1, .int .i64 h.a2, .int .i64 h.a3], .slice A n c'] W fun e w' => e = .returned (.tuple #[.string ⟨l.toArray⟩, .int .i64 0]) ∧ Below W.heap.size W w'))
    (HP : Hid (∀ W, Below w.heap.size w W → Calls Tryz.prog 49 #[.slice (some Ap) mp cp] W fun e w' => e = .returned (.tuple #[.string ⟨c.toArray⟩, .int .i64 0]) ∧ Below W.heap.size W w'))
    (HS : Sort.insertionSort (Go.Proofs.ltOf cmpT) (allT h c d x l).toArray 0 7 = (sorT h c d x l).toArray)
    (HF : Hid (∀ W A c', Tl W A 7 (sorT h c d x l) → Calls Tryz.prog 51 #[.slice A 7 c'] W fun e w' => e = .returned (.tuple #[.string ⟨F.toArray⟩, .int .i64 0]) ∧ Below W.heap.size W w')) :
    Calls Tryz.prog 13 #[.agg #[.int .i64 h.em, .bool h.lg, .int .i64 h.gl, .int .i64 h.me, .int .i64 h.a1, .int .i64 h.a2, .int .i64 h.a3], .slice Aw mw cw, .slice As ms cs, .slice (some Ap) mp cp] w fun e w' => e = .returned (.tuple #[.string ⟨F.toArray⟩, .int .i64 0]) ∧ Below w.heap.size w w' := by
  have S := Lib.hid (N11.MS.start w h)
  have HK := Lib.hid (fun W => N10.makeK_any h W hm)
  obtain ⟨C, hC⟩ : ∃ D : ByteArray, D = ⟨c.toArray⟩ := ⟨_, rfl⟩
  obtain ⟨D, hD⟩ : ∃ D : ByteArray, D = ⟨d.toArray⟩ := ⟨_, rfl⟩
  obtain ⟨X, hX⟩ : ∃ D : ByteArray, D = ⟨x.toArray⟩ := ⟨_, rfl⟩
  obtain ⟨LO, hL⟩ : ∃ D : ByteArray, D = ⟨l.toArray⟩ := ⟨_, rfl⟩
  obtain ⟨FF, hF⟩ : ∃ D : ByteArray, D = ⟨F.toArray⟩ := ⟨_, rfl⟩
  rw [← hC] at HP
  rw [← hD] at HT
  rw [← hX] at HX
  rw [← hL] at HL
  rw [← hF] at HF ⊢
  have HCC := Lib.hid hC
  have HDD := Lib.hid hD
  have HXX := Lib.hid hX
  have HLL := Lib.hid hL
  have HSo := Lib.hid HS
  have hms : (ms : Int) = h.gl := hn
  obtain ⟨i0, hi0, hz0, hz1, hz2⟩ := info_parts Tryz.info34
  have H34 := Lib.hid (And.intro hi0 (And.intro hz0 (And.intro hz1 hz2)))
  obtain ⟨f0, f1, f2, f3, f4, f5, f6⟩ := S.out.cells
  clear hC hD hX hL hF HS hi0 hz0 hz1 hz2 hm hn
  go_enter Tryz.func13, Tryz.ntmps13
  go_upto_region 2 with (go_at_call 43; (with_reducible refine (HK.out _).mono ?_); rintro e w1 ⟨A1, c1, rfl, ho, hb⟩; have HO := Lib.hid (own_base ho S.out.bel.size); have S := Lib.hid (S.out.next hb); clear hb ho; obtain ⟨f0, f1, f2, f3, f4, f5, f6⟩ := S.out.cells)
  go_upto_region 16 with (first
    | (go_at_call 44; (with_reducible refine (HM.out _ S.out.bel).mono ?_); rintro e w2 ⟨rfl, hb⟩; have HO := Lib.hid (own_bel HO.out hb); have S := Lib.hid (S.out.next hb); clear f0 f1 f2 f3 f4 f5 f6; obtain ⟨f0, f1, f2, f3, f4, f5, f6⟩ := S.out.cells; clear hb)
    | (go_at_call 45; (with_reducible refine (HC.out _ S.out.bel).mono ?_); rintro e w3 ⟨rfl, hb⟩; have HO := Lib.hid (own_bel HO.out hb); have S := Lib.hid (S.out.next hb); clear f0 f1 f2 f3 f4 f5 f6; obtain ⟨f0, f1, f2, f3, f4, f5, f6⟩ := S.out.cells; clear hb)
    | (go_at_call 46; (with_reducible refine (HT.out _ S.out.bel).mono ?_); rintro e w4 ⟨A4, c4, rfl, hI, hb⟩; have HI := Lib.hid hI; have HO := Lib.hid (own_bel HO.out hb); have S := Lib.hid (S.out.next hb); clear f0 f1 f2 f3 f4 f5 f6; obtain ⟨f0, f1, f2, f3, f4, f5, f6⟩ := S.out.cells; clear hb hI)
    | (go_at_call 47; (with_reducible refine (HX.out _ S.out.bel).mono ?_); rintro e w5 ⟨rfl, hb⟩; have HI := Lib.hid (HI.out.bel hb); have HO := Lib.hid (own_bel HO.out hb); have S := Lib.hid (S.out.next hb); clear f0 f1 f2 f3 f4 f5 f6; obtain ⟨f0, f1, f2, f3, f4, f5, f6⟩ := S.out.cells; clear hb)
    | (go_at_call 48; (with_reducible refine (HL.out _ _ _ HI.out).mono ?_); rintro e w6 ⟨rfl, hb⟩; have HO := Lib.hid (own_bel HO.out hb); have S := Lib.hid (S.out.next hb); clear f0 f1 f2 f3 f4 f5 f6; obtain ⟨f0, f1, f2, f3, f4, f5, f6⟩ := S.out.cells; clear hb)
    | (go_at_call 49; (with_reducible refine (HP.out _ S.out.bel).mono ?_); rintro e w7 ⟨rfl, hb⟩; have HO := Lib.hid (own_bel HO.out hb); have S := Lib.hid (S.out.next hb); clear f0 f1 f2 f3 f4 f5 f6; obtain ⟨f0, f1, f2, f3, f4, f5, f6⟩ := S.out.cells; clear hb))
  have hA := (Below.refl w7.heap.size w7).alloc (Nat.le_refl _) (.cells #[.string ⟨#[99, 109, 97, 112]⟩, .string C, .string ⟨#[103, 108, 121, 102]⟩, .string D, .string ⟨#[104, 109, 116, 120]⟩, .string X, .string ⟨#[108, 111, 99, 97]⟩, .string LO] 34)
  have HOx := Lib.hid (own_bel HO.out hA)
  have HBx := Lib.hid (S.out.next hA).bel
  clear hA
  go_upto_region 17 with (at_builtin; go_must (refine wpList_append_own _ rfl (.tmp 78) (.tmp 87) 32 rfl w.heap.size 34 i0 _ 2 32 Tryz.underlying32 H34.out.1 H34.out.2.1 H34.out.2.2.1 H34.out.2.2.2 rfl (by decide) (.slice A1 3 c1) 3 (tabC (mkL h)) rfl HOx.out ⟨w7.heap.size, 0, none⟩ 4 4 [.string ⟨#[99, 109, 97, 112]⟩, .string C, .string ⟨#[103, 108, 121, 102]⟩, .string D, .string ⟨#[104, 109, 116, 120]⟩, .string X, .string ⟨#[108, 111, 99, 97]⟩, .string LO] rfl rfl (cells_new _ _ _) (by intro u hu; simp at hu; rcases hu with rfl | rfl | rfl | rfl | rfl | rfl | rfl | rfl <;> rfl) (by unfold maxLen; omega) (by omega) HBx.out.size ?_); intro v' w8 hown' hg' _; obtain ⟨A8, c8, rfl⟩ := own_form hown'; have HO8 := Lib.hid hown'; have HB8 := Lib.hid (below_grown HBx.out HOx.out hg'); clear hown' hg')
  have h8 : w8.ownsRow w.heap.size 34 2 (.slice A8 7 c8) 7 (tabC (allT h c d x l)) := by
    have := HO8.out
    rw [HCC.out, HDD.out, HXX.out, HLL.out] at this
    unfold allT
    rw [tabC_app]
    exact this
  obtain ⟨g8, rfl⟩ := own_some h8 (by omega)
  have HS8 := Lib.hid (show Calls Tryz.prog 50 #[.slice (some ⟨g8, 0, none⟩) 7 c8] w8 fun e w' => e = .returned (.tuple #[]) ∧ Tl w' (some ⟨g8, 0, none⟩) 7 (sorT h c d x l) ∧ Below w.heap.size w8 w' from sort_tabs g8 c8 (allT h c d x l) (sorT h c d x l) w8 w.heap.size h8 (by show 7 ≤ 12; omega) HSo.out rfl)
  clear h8
  go_wp2_with (first
    | (go_at_call 50; (with_reducible refine HS8.out.mono ?_); rintro e w9 ⟨rfl, ht, hb⟩; have HT9 := Lib.hid ht; have HB9 := Lib.hid (HB8.out.trans hb); clear ht hb)
    | (go_at_call 51; (with_reducible refine (HF.out _ _ _ HT9.out).mono ?_); rintro e w10 ⟨rfl, hb⟩; have HB10 := Lib.hid (HB9.out.trans (hb.mono HB9.out.size)); clear hb))
  go_ret2
  exact ⟨rfl, HB10.out⟩
end Ft
end Go.Proofs.YtfhaloclbbmbeaaGreat
