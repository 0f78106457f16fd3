/- Proved here: what Make answers, in the program. No condition. -/
import Derived.Test.YtphnapnmeidgkaaIb
namespace Go.Proofs.Ytphnapnmeidgkaa
open Go.RowKit

def lgN (b : Bool) : Nat := if b then 1 else 0
/-- The bytes of the three tables. -/
def dHead (h : Hd) : List UInt8 := byt 4 65536 ++ zs 8 ++ byt 4 1594834165 ++ zs 2 ++ byt 2 (w16 h.em) ++ zs 30 ++ byt 2 (lgN h.lg) ++ zs 2
def dHhea (h : Hd) : List UInt8 := byt 4 65536 ++ byt 2 (w16 h.a1) ++ byt 2 (w16 h.a2) ++ byt 2 (w16 h.a3) ++ zs 24 ++ byt 2 (w16 h.me)
def dMaxp (h : Hd) : List UInt8 := byt 4 65536 ++ byt 2 (w16 h.gl) ++ zs 26
def mkL (h : Hd) : List (List UInt8 × List UInt8) := [(tHead, dHead h), (tHhea, dHhea h), (tMaxp, dMaxp h)]
/-- While it is made: the box of what is said. -/
structure MS (w W : World) (b : Nat) (h : Hd) : Prop where
  bel : Below w.heap.size w W
  box : HB W b h
theorem MS.next {w W W' : World} {b : Nat} {h : Hd} (s : MS w W b h) (hb : Below W.heap.size W W') : MS w W' b h := ⟨s.bel.trans (hb.mono s.bel.size), s.box.bel hb⟩
theorem MS.drew {w W : World} {b : Nat} {h : Hd} (s : MS w W b h) : MS w W.drew b h := ⟨below_drewN s.bel 1, s.box⟩
theorem MS.cells {w W : World} {b : Nat} {h : Hd} (s : MS w W b h) : W.cell? ⟨b, 0, none⟩ = some (.int .i64 h.em) ∧ W.cell? ⟨b, 1, none⟩ = some (.bool h.lg) ∧ W.cell? ⟨b, 2, none⟩ = some (.int .i64 h.gl) ∧ W.cell? ⟨b, 3, none⟩ = some (.int .i64 h.me) ∧ W.cell? ⟨b, 4, none⟩ = some (.int .i64 h.a1) ∧ W.cell? ⟨b, 5, none⟩ = some (.int .i64 h.a2) ∧ W.cell? ⟨b, 6, none⟩ = some (.int .i64 h.a3) := s.box.cells
theorem MS.six {w W : World} {b : Nat} {h : Hd} (s : MS w W b h) : W.cell? ⟨b, 0, none⟩ = some (.int .i64 h.em) ∧ W.cell? ⟨b, 2, none⟩ = some (.int .i64 h.gl) ∧ W.cell? ⟨b, 3, none⟩ = some (.int .i64 h.me) ∧ W.cell? ⟨b, 4, none⟩ = some (.int .i64 h.a1) ∧ W.cell? ⟨b, 5, none⟩ = some (.int .i64 h.a2) ∧ W.cell? ⟨b, 6, none⟩ = some (.int .i64 h.a3) :=
  have ⟨a0, _, a2, a3, a4, a5, a6⟩ := s.cells
  ⟨a0, a2, a3, a4, a5, a6⟩
theorem cells_new (w : World) (xs : List Value) (t : TypeId) : ∀ j u, xs[j]? = some u → (w.alloc (.cells xs.toArray t)).cell? ((⟨w.heap.size, 0, none⟩ : Addr).add j) = some u := by
  intro j u hu
  have e : (⟨w.heap.size, 0, none⟩ : Addr).add j = ⟨w.heap.size, j, none⟩ := by unfold Addr.add; split <;> simp_all
  rw [e, cell_of_row _ _ j _ t (0, 0) (heap_alloc_new w _)]
  simpa using hu
theorem tl3 (w : World) (x y z : ByteArray) (h : Hd) (h1 : (⟨(dHead h).toArray⟩ : ByteArray) = x) (h2 : (⟨(dHhea h).toArray⟩ : ByteArray) = y) (h3 : (⟨(dMaxp h).toArray⟩ : ByteArray) = z) :
    Tl (w.alloc (.cells #[.string ⟨#[104, 101, 97, 100]⟩, .string x, .string ⟨#[104, 104, 101, 97]⟩, .string y, .string ⟨#[109, 97, 120, 112]⟩, .string z] 35)) (some ⟨w.heap.size, 0, none⟩) 3 (mkL h) := by
  subst h1 h2 h3
  have hc := cells_new w [.string ⟨#[104, 101, 97, 100]⟩, .string ⟨(dHead h).toArray⟩, .string ⟨#[104, 104, 101, 97]⟩, .string ⟨(dHhea h).toArray⟩, .string ⟨#[109, 97, 120, 112]⟩, .string ⟨(dMaxp h).toArray⟩] 35
  refine ⟨rfl, fun i hi => ?_⟩
  obtain rfl | rfl | rfl : i = 0 ∨ i = 1 ∨ i = 2 := by omega
  · exact ⟨_, rfl, by simp, hc 0 _ rfl, hc 1 _ rfl⟩
  · exact ⟨_, rfl, by simp, hc 2 _ rfl, hc 3 _ rfl⟩
  · exact ⟨_, rfl, by simp, hc 4 _ rfl, hc 5 _ rfl⟩
theorem make_no (h : Hd) (w : World) (hm : ¬ MayP h) : Calls Try.prog 6 #[.agg #[.int .i64 h.em, .bool h.lg, .int .i64 h.gl, .int .i64 h.me, .int .i64 h.a1, .int .i64 h.a2, .int .i64 h.a3]] w fun e w' => e = .returned (.tuple #[.slice none 0 0, .int .i64 1]) ∧ Below w.heap.size w w' := by
  have cm := fun W => may_any h W
  rw [decide_eq_false hm] at cm
  have CM := Lib.hid cm
  have HB0 := Lib.hid (show Below w.heap.size w (w.alloc (.cells #[.int .i64 h.em, .bool h.lg, .int .i64 h.gl, .int .i64 h.me, .int .i64 h.a1, .int .i64 h.a2, .int .i64 h.a3] 23)) from (Below.refl _ _).alloc (Nat.le_refl _) _)
  clear cm hm
  go_enter Try.func6, Try.ntmps6
  go_wp2_with (go_at_call 7; (with_reducible refine (CM.out _).mono ?_); rintro e w1 ⟨rfl, hb⟩; have B := Lib.hid (HB0.out.trans (hb.mono HB0.out.size)); clear hb)
  go_ret2
  exact ⟨rfl, B.out⟩

set_option maxRecDepth 100000 in
set_option maxHeartbeats 8000000 in
theorem make_ok (h : Hd) (w : World) (hm : MayP h) (gi : Int) (hgi : gi = (lgN h.lg : Int)) (hlg : (h.lg = true ∧ gi = 1) ∨ (h.lg = false ∧ gi = 0)) :
    Calls Try.prog 6 #[.agg #[.int .i64 h.em, .bool h.lg, .int .i64 h.gl, .int .i64 h.me, .int .i64 h.a1, .int .i64 h.a2, .int .i64 h.a3]] w fun e w' => ∃ A c, e = .returned (.tuple #[.slice A 3 c, .int .i64 0]) ∧ Tl w' A 3 (mkL h) ∧ Below w.heap.size w w' := by
  have cm := fun W => may_any h W
  rw [decide_eq_true hm] at cm
  obtain ⟨V, hV⟩ : ∃ X : ByteArray, X = ⟨(byt 4 65536).toArray⟩ := ⟨_, rfl⟩
  have zV : V.size = 4 := by rw [hV]; show (byt 4 65536).toArray.size = 4; rw [List.size_toArray]; exact byt_len 4 _
  have cV : ∀ W, Calls Try.prog 13 #[.int .u32 65536] W fun e w' => e = .returned (.string V) ∧ Below W.heap.size W w' := fun W => by rw [hV]; exact p32_any 65536 W (by decide)
  have CV := Lib.hid cV
  obtain ⟨Z8, hZ8⟩ : ∃ X : ByteArray, X = ⟨(zs 8).toArray⟩ := ⟨_, rfl⟩
  have zZ8 : Z8.size = 8 := by rw [hZ8]; show (zs 8).toArray.size = 8; rw [List.size_toArray]; exact zs_len 8
  have cZ8 : ∀ W, Calls Try.prog 14 #[.int .i64 8] W fun e w' => e = .returned (.string Z8) ∧ Below W.heap.size W w' := fun W => by rw [hZ8]; exact zeros_any 8 8 rfl W (by decide)
  have CZ8 := Lib.hid cZ8
  obtain ⟨M, hM⟩ : ∃ X : ByteArray, X = ⟨(byt 4 1594834165).toArray⟩ := ⟨_, rfl⟩
  have zM : M.size = 4 := by rw [hM]; show (byt 4 1594834165).toArray.size = 4; rw [List.size_toArray]; exact byt_len 4 _
  have cM : ∀ W, Calls Try.prog 13 #[.int .u32 1594834165] W fun e w' => e = .returned (.string M) ∧ Below W.heap.size W w' := fun W => by rw [hM]; exact p32_any 1594834165 W (by decide)
  have CM := Lib.hid cM
  obtain ⟨Z2, hZ2⟩ : ∃ X : ByteArray, X = ⟨(zs 2).toArray⟩ := ⟨_, rfl⟩
  have zZ2 : Z2.size = 2 := by rw [hZ2]; show (zs 2).toArray.size = 2; rw [List.size_toArray]; exact zs_len 2
  have cZ2 : ∀ W, Calls Try.prog 14 #[.int .i64 2] W fun e w' => e = .returned (.string Z2) ∧ Below W.heap.size W w' := fun W => by rw [hZ2]; exact zeros_any 2 2 rfl W (by decide)
  have CZ2 := Lib.hid cZ2
  obtain ⟨E, hE⟩ : ∃ X : ByteArray, X = ⟨(byt 2 (w16 h.em)).toArray⟩ := ⟨_, rfl⟩
  have zE : E.size = 2 := by rw [hE]; show (byt 2 (w16 h.em)).toArray.size = 2; rw [List.size_toArray]; exact byt_len 2 _
  have cE : ∀ W, Calls Try.prog 15 #[.int .i64 h.em] W fun e w' => e = .returned (.string E) ∧ Below W.heap.size W w' := fun W => by rw [hE]; exact sh_any h.em W
  have CE := Lib.hid cE
  obtain ⟨Z30, hZ30⟩ : ∃ X : ByteArray, X = ⟨(zs 30).toArray⟩ := ⟨_, rfl⟩
  have zZ30 : Z30.size = 30 := by rw [hZ30]; show (zs 30).toArray.size = 30; rw [List.size_toArray]; exact zs_len 30
  have cZ30 : ∀ W, Calls Try.prog 14 #[.int .i64 30] W fun e w' => e = .returned (.string Z30) ∧ Below W.heap.size W w' := fun W => by rw [hZ30]; exact zeros_any 30 30 rfl W (by decide)
  have CZ30 := Lib.hid cZ30
  obtain ⟨G, hG⟩ : ∃ X : ByteArray, X = ⟨(byt 2 (w16 (lgN h.lg : Int))).toArray⟩ := ⟨_, rfl⟩
  have zG : G.size = 2 := by rw [hG]; show (byt 2 (w16 (lgN h.lg : Int))).toArray.size = 2; rw [List.size_toArray]; exact byt_len 2 _
  have cG : ∀ W, Calls Try.prog 15 #[.int .i64 gi] W fun e w' => e = .returned (.string G) ∧ Below W.heap.size W w' := fun W => by rw [hG]; rw [hgi]; exact sh_any (lgN h.lg : Int) W
  have CG := Lib.hid cG
  obtain ⟨A1, hA1⟩ : ∃ X : ByteArray, X = ⟨(byt 2 (w16 h.a1)).toArray⟩ := ⟨_, rfl⟩
  have zA1 : A1.size = 2 := by rw [hA1]; show (byt 2 (w16 h.a1)).toArray.size = 2; rw [List.size_toArray]; exact byt_len 2 _
  have cA1 : ∀ W, Calls Try.prog 15 #[.int .i64 h.a1] W fun e w' => e = .returned (.string A1) ∧ Below W.heap.size W w' := fun W => by rw [hA1]; exact sh_any h.a1 W
  have CA1 := Lib.hid cA1
  obtain ⟨A2, hA2⟩ : ∃ X : ByteArray, X = ⟨(byt 2 (w16 h.a2)).toArray⟩ := ⟨_, rfl⟩
  have zA2 : A2.size = 2 := by rw [hA2]; show (byt 2 (w16 h.a2)).toArray.size = 2; rw [List.size_toArray]; exact byt_len 2 _
  have cA2 : ∀ W, Calls Try.prog 15 #[.int .i64 h.a2] W fun e w' => e = .returned (.string A2) ∧ Below W.heap.size W w' := fun W => by rw [hA2]; exact sh_any h.a2 W
  have CA2 := Lib.hid cA2
  obtain ⟨A3, hA3⟩ : ∃ X : ByteArray, X = ⟨(byt 2 (w16 h.a3)).toArray⟩ := ⟨_, rfl⟩
  have zA3 : A3.size = 2 := by rw [hA3]; show (byt 2 (w16 h.a3)).toArray.size = 2; rw [List.size_toArray]; exact byt_len 2 _
  have cA3 : ∀ W, Calls Try.prog 15 #[.int .i64 h.a3] W fun e w' => e = .returned (.string A3) ∧ Below W.heap.size W w' := fun W => by rw [hA3]; exact sh_any h.a3 W
  have CA3 := Lib.hid cA3
  obtain ⟨Z24, hZ24⟩ : ∃ X : ByteArray, X = ⟨(zs 24).toArray⟩ := ⟨_, rfl⟩
  have zZ24 : Z24.size = 24 := by rw [hZ24]; show (zs 24).toArray.size = 24; rw [List.size_toArray]; exact zs_len 24
  have cZ24 : ∀ W, Calls Try.prog 14 #[.int .i64 24] W fun e w' => e = .returned (.string Z24) ∧ Below W.heap.size W w' := fun W => by rw [hZ24]; exact zeros_any 24 24 rfl W (by decide)
  have CZ24 := Lib.hid cZ24
  obtain ⟨ME, hME⟩ : ∃ X : ByteArray, X = ⟨(byt 2 (w16 h.me)).toArray⟩ := ⟨_, rfl⟩
  have zME : ME.size = 2 := by rw [hME]; show (byt 2 (w16 h.me)).toArray.size = 2; rw [List.size_toArray]; exact byt_len 2 _
  have cME : ∀ W, Calls Try.prog 15 #[.int .i64 h.me] W fun e w' => e = .returned (.string ME) ∧ Below W.heap.size W w' := fun W => by rw [hME]; exact sh_any h.me W
  have CME := Lib.hid cME
  obtain ⟨GL, hGL⟩ : ∃ X : ByteArray, X = ⟨(byt 2 (w16 h.gl)).toArray⟩ := ⟨_, rfl⟩
  have zGL : GL.size = 2 := by rw [hGL]; show (byt 2 (w16 h.gl)).toArray.size = 2; rw [List.size_toArray]; exact byt_len 2 _
  have cGL : ∀ W, Calls Try.prog 15 #[.int .i64 h.gl] W fun e w' => e = .returned (.string GL) ∧ Below W.heap.size W w' := fun W => by rw [hGL]; exact sh_any h.gl W
  have CGL := Lib.hid cGL
  obtain ⟨Z26, hZ26⟩ : ∃ X : ByteArray, X = ⟨(zs 26).toArray⟩ := ⟨_, rfl⟩
  have zZ26 : Z26.size = 26 := by rw [hZ26]; show (zs 26).toArray.size = 26; rw [List.size_toArray]; exact zs_len 26
  have cZ26 : ∀ W, Calls Try.prog 14 #[.int .i64 26] W fun e w' => e = .returned (.string Z26) ∧ Below W.heap.size W w' := fun W => by rw [hZ26]; exact zeros_any 26 26 rfl W (by decide)
  have CZ26 := Lib.hid cZ26
  have HD1 := Lib.hid (show (⟨(dHead h).toArray⟩ : ByteArray) = V ++ Z8 ++ M ++ Z2 ++ E ++ Z30 ++ G ++ Z2 by
    rw [hV, hZ8, hM, hZ2, hE, hZ30, hG, show w16 (lgN h.lg : Int) = lgN h.lg from by unfold lgN; split <;> rfl]; simp only [app_txt]; rfl)
  have HD2 := Lib.hid (show (⟨(dHhea h).toArray⟩ : ByteArray) = V ++ A1 ++ A2 ++ A3 ++ Z24 ++ ME by
    rw [hV, hA1, hA2, hA3, hZ24, hME]; simp only [app_txt]; rfl)
  have HD3 := Lib.hid (show (⟨(dMaxp h).toArray⟩ : ByteArray) = V ++ GL ++ Z26 by
    rw [hV, hGL, hZ26]; simp only [app_txt]; rfl)
  have CMY := Lib.hid cm
  clear cm hm hgi hV cV hZ8 cZ8 hM cM hZ2 cZ2 hE cE hZ30 cZ30 hG cG hA1 cA1 hA2 cA2 hA3 cA3 hZ24 cZ24 hME cME hGL cGL hZ26 cZ26
  have S0 := Lib.hid (show MS w (w.alloc (.cells #[.int .i64 h.em, .bool h.lg, .int .i64 h.gl, .int .i64 h.me, .int .i64 h.a1, .int .i64 h.a2, .int .i64 h.a3] 23)) w.heap.size h from ⟨(Below.refl _ _).alloc (Nat.le_refl _) _, heap_alloc_new w _⟩)
  go_enter Try.func6, Try.ntmps6
  go_upto_region 1 with fail
  obtain ⟨b, hb⟩ : ∃ b, b = w.heap.size := ⟨_, rfl⟩
  obtain ⟨W0, hW0⟩ : ∃ W, W = w.alloc (.cells #[.int .i64 h.em, .bool h.lg, .int .i64 h.gl, .int .i64 h.me, .int .i64 h.a1, .int .i64 h.a2, .int .i64 h.a3] 23) := ⟨_, rfl⟩
  rw [← hb, ← hW0] at S0 ⊢
  have S0 := Lib.hid (show MS w W0 b h from ⟨by rw [hb] at S0; exact S0.out.bel, S0.out.box⟩)
  clear hb hW0
  obtain ⟨f0, f1, f2, f3, f4, f5, f6⟩ := S0.out.cells
  rcases hlg with ⟨hlb, rfl⟩ | ⟨hlb, rfl⟩
  all_goals
    have HLB := Lib.hid hlb
    rw [hlb] at f1 CMY
    clear hlb
    go_upto_region 6 with (go_at_call 7; (with_reducible refine (CMY.out _).mono ?_); rintro e w1 ⟨rfl, hb⟩; have H := Lib.hid (S0.out.next hb); clear hb f0 f1 f2 f3 f4 f5 f6; obtain ⟨f0, f1, f2, f3, f4, f5, f6⟩ := H.out.cells; rw [HLB.out] at f1)
    go_region_held3 (fun w' => w'.cell? ⟨b, 0, none⟩ = some (.int .i64 h.em) ∧ w'.cell? ⟨b, 2, none⟩ = some (.int .i64 h.gl) ∧ w'.cell? ⟨b, 3, none⟩ = some (.int .i64 h.me) ∧ w'.cell? ⟨b, 4, none⟩ = some (.int .i64 h.a1) ∧ w'.cell? ⟨b, 5, none⟩ = some (.int .i64 h.a2) ∧ w'.cell? ⟨b, 6, none⟩ = some (.int .i64 h.a3))
      (first | with_reducible exact H.out.six | go_keep)
      (first
        | (go_at_call 13; (with_reducible refine (CV.out _).mono ?_); rintro e wx ⟨rfl, hb⟩; (first | have H := Lib.hid (H.out.next hb) | have H := Lib.hid (H.out.drew.next hb)); clear hb)
        | (go_at_call 14; (with_reducible refine (CZ8.out _).mono ?_); rintro e wx ⟨rfl, hb⟩; (first | have H := Lib.hid (H.out.next hb) | have H := Lib.hid (H.out.drew.next hb)); clear hb)
        | (go_at_call 13; (with_reducible refine (CM.out _).mono ?_); rintro e wx ⟨rfl, hb⟩; (first | have H := Lib.hid (H.out.next hb) | have H := Lib.hid (H.out.drew.next hb)); clear hb)
        | (go_at_call 14; (with_reducible refine (CZ2.out _).mono ?_); rintro e wx ⟨rfl, hb⟩; (first | have H := Lib.hid (H.out.next hb) | have H := Lib.hid (H.out.drew.next hb)); clear hb)
        | (go_at_call 15; (with_reducible refine (CE.out _).mono ?_); rintro e wx ⟨rfl, hb⟩; (first | have H := Lib.hid (H.out.next hb) | have H := Lib.hid (H.out.drew.next hb)); clear hb)
        | (go_at_call 14; (with_reducible refine (CZ30.out _).mono ?_); rintro e wx ⟨rfl, hb⟩; (first | have H := Lib.hid (H.out.next hb) | have H := Lib.hid (H.out.drew.next hb)); clear hb)
        | (go_at_call 15; (with_reducible refine (CG.out _).mono ?_); rintro e wx ⟨rfl, hb⟩; (first | have H := Lib.hid (H.out.next hb) | have H := Lib.hid (H.out.drew.next hb)); clear hb)
        | (go_at_call 15; (with_reducible refine (CA1.out _).mono ?_); rintro e wx ⟨rfl, hb⟩; (first | have H := Lib.hid (H.out.next hb) | have H := Lib.hid (H.out.drew.next hb)); clear hb)
        | (go_at_call 15; (with_reducible refine (CA2.out _).mono ?_); rintro e wx ⟨rfl, hb⟩; (first | have H := Lib.hid (H.out.next hb) | have H := Lib.hid (H.out.drew.next hb)); clear hb)
        | (go_at_call 15; (with_reducible refine (CA3.out _).mono ?_); rintro e wx ⟨rfl, hb⟩; (first | have H := Lib.hid (H.out.next hb) | have H := Lib.hid (H.out.drew.next hb)); clear hb)
        | (go_at_call 14; (with_reducible refine (CZ24.out _).mono ?_); rintro e wx ⟨rfl, hb⟩; (first | have H := Lib.hid (H.out.next hb) | have H := Lib.hid (H.out.drew.next hb)); clear hb)
        | (go_at_call 15; (with_reducible refine (CME.out _).mono ?_); rintro e wx ⟨rfl, hb⟩; (first | have H := Lib.hid (H.out.next hb) | have H := Lib.hid (H.out.drew.next hb)); clear hb)
        | (go_at_call 15; (with_reducible refine (CGL.out _).mono ?_); rintro e wx ⟨rfl, hb⟩; (first | have H := Lib.hid (H.out.next hb) | have H := Lib.hid (H.out.drew.next hb)); clear hb)
        | (go_at_call 14; (with_reducible refine (CZ26.out _).mono ?_); rintro e wx ⟨rfl, hb⟩; (first | have H := Lib.hid (H.out.next hb) | have H := Lib.hid (H.out.drew.next hb)); clear hb))
    go_wp2_with fail
    go_ret2
    exact ⟨_, _, rfl, tl3 _ _ _ _ h HD1.out HD2.out HD3.out, H.out.bel.alloc H.out.bel.size _⟩
end Go.Proofs.Ytphnapnmeidgkaa
