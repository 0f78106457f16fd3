/- Proved here: that the statements' first call, awake, answers true. No condition · that the statements' first call, awake, answers true. No condition · what the law FontNone answers. No condition · the statement FontNone: for all numbers, a font that is none tells nothing. No condition. -/
import Derived.Test.YtfhaloclbbmbeaaGreatM54
import Derived.Deep.RegionHeld3
import Derived.Test.YtfhaloclbbmbeaaGreatRows
import Derived.Test.YtfhaloclbbmbeaaGreatChecked
import Derived.ProofKit
import Derived.OpenShut
import Derived.ReadAgain
import Derived.ChangeSlices
import Derived.ChangeMaps5
import Derived.Lib.SmallJoins
import Derived.Deep.Slices
import Derived.Deep.Strs
import Derived.ChangeOld
import Derived.Carry
namespace Go.Proofs.YtfhaloclbbmbeaaGreat
open Go.RowKit
namespace Ft
set_option maxHeartbeats 1000000 in
theorem aw_make (w : World) : Calls Tryz.prog 13 #[.agg #[.int .i64 16, .bool false, .int .i64 2, .int .i64 1, .int .i64 0, .int .i64 0, .int .i64 0], .slice (some ⟨w.heap.size + 1, 0, none⟩) 2 2, .slice (some ⟨w.heap.size + 1 + 1 + 1 + 1, 0, none⟩) 2 2, .slice (some ⟨w.heap.size + 1 + 1 + 1 + 1 + 1, 0, none⟩) 1 1]
    ((((((w.alloc (.cells #[.int .i64 16, .bool false, .int .i64 2, .int .i64 1, .int .i64 0, .int .i64 0, .int .i64 0] 39)).alloc (.cells #[.int .i64 7, .int .i64 7] 3)).alloc (.cells #[.int .i64 0, .int .i64 0, .bool true, .int .i64 4, .int .i64 0, .bool true, .int .i64 0, .int .i64 4, .bool true] 75)).alloc (.cells #[.slice (some ⟨w.heap.size + 1 + 1, 0, none⟩) 3 3] 76)).alloc (.cells #[.slice none 0 0, .slice none 0 0, .slice (some ⟨w.heap.size + 1 + 1 + 1, 0, none⟩) 1 1, .slice none 0 0] 73)).alloc (.cells #[.int .i64 65, .int .i64 1] 78)) fun e w' => e = .returned (.tuple #[.string ⟨F0.toArray⟩, .int .i64 0]) ∧ Below w.heap.size w w' ∧ HB w' w.heap.size h0 := by
  obtain ⟨w1, h1⟩ : ∃ W, W = w.alloc (.cells #[.int .i64 16, .bool false, .int .i64 2, .int .i64 1, .int .i64 0, .int .i64 0, .int .i64 0] 39) := ⟨_, rfl⟩
  have s1 : w1.heap.size = w.heap.size + 1 := by rw [h1]; simp
  have b1 : Below w.heap.size w w1 := by rw [h1]; exact (Below.refl _ _).alloc (Nat.le_refl _) _
  rw [← h1]
  obtain ⟨w2, h2⟩ : ∃ W, W = w1.alloc (.cells #[.int .i64 7, .int .i64 7] 3) := ⟨_, rfl⟩
  have s2 : w2.heap.size = w.heap.size + 1 + 1 := by rw [h2]; simp [s1]
  have b2 : Below w1.heap.size w1 w2 := by rw [h2]; exact (Below.refl _ _).alloc (Nat.le_refl _) _
  rw [← h2]
  obtain ⟨w3, h3⟩ : ∃ W, W = w2.alloc (.cells #[.int .i64 0, .int .i64 0, .bool true, .int .i64 4, .int .i64 0, .bool true, .int .i64 0, .int .i64 4, .bool true] 75) := ⟨_, rfl⟩
  have s3 : w3.heap.size = w.heap.size + 1 + 1 + 1 := by rw [h3]; simp [s2]
  have b3 : Below w2.heap.size w2 w3 := by rw [h3]; exact (Below.refl _ _).alloc (Nat.le_refl _) _
  rw [← h3]
  obtain ⟨w4, h4⟩ : ∃ W, W = w3.alloc (.cells #[.slice (some ⟨w.heap.size + 1 + 1, 0, none⟩) 3 3] 76) := ⟨_, rfl⟩
  have s4 : w4.heap.size = w.heap.size + 1 + 1 + 1 + 1 := by rw [h4]; simp [s3]
  have b4 : Below w3.heap.size w3 w4 := by rw [h4]; exact (Below.refl _ _).alloc (Nat.le_refl _) _
  rw [← h4]
  obtain ⟨w5, h5⟩ : ∃ W, W = w4.alloc (.cells #[.slice none 0 0, .slice none 0 0, .slice (some ⟨w.heap.size + 1 + 1 + 1, 0, none⟩) 1 1, .slice none 0 0] 73) := ⟨_, rfl⟩
  have s5 : w5.heap.size = w.heap.size + 1 + 1 + 1 + 1 + 1 := by rw [h5]; simp [s4]
  have b5 : Below w4.heap.size w4 w5 := by rw [h5]; exact (Below.refl _ _).alloc (Nat.le_refl _) _
  rw [← h5]
  obtain ⟨w6, h6⟩ : ∃ W, W = w5.alloc (.cells #[.int .i64 65, .int .i64 1] 78) := ⟨_, rfl⟩
  have s6 : w6.heap.size = w.heap.size + 1 + 1 + 1 + 1 + 1 + 1 := by rw [h6]; simp [s5]
  have b6 : Below w5.heap.size w5 w6 := by rw [h6]; exact (Below.refl _ _).alloc (Nat.le_refl _) _
  rw [← h6]
  have k1 : HB w1 w.heap.size h0 := by rw [h1]; exact heap_alloc_new w _
  have k2 : Il w2 (some ⟨w.heap.size + 1, 0, none⟩) 2 [7, 7] := by
    have h := cells_new w1 [.int .i64 7, .int .i64 7] 3
    rw [← h2, s1] at h
    exact ⟨rfl, fun i hi => ⟨_, rfl, by show w.heap.size + 1 < _; omega, match i, hi with | 0, _ => h 0 _ rfl | 1, _ => h 1 _ rfl⟩⟩
  have k3 : N15.Ptl w3 (some ⟨w.heap.size + 1 + 1, 0, none⟩) 3 tri := by
    have h := cells_new w2 [.int .i64 0, .int .i64 0, .bool true, .int .i64 4, .int .i64 0, .bool true, .int .i64 0, .int .i64 4, .bool true] 75
    rw [← h3, s2] at h
    exact ⟨rfl, fun i hi => ⟨_, rfl, by show w.heap.size + 1 + 1 < _; omega, match i, hi with | 0, _ => ⟨h 0 _ rfl, h 1 _ rfl, h 2 _ rfl⟩ | 1, _ => ⟨h 3 _ rfl, h 4 _ rfl, h 5 _ rfl⟩ | 2, _ => ⟨h 6 _ rfl, h 7 _ rfl, h 8 _ rfl⟩⟩⟩
  have k4 : N15.Ctl w4 (some ⟨w.heap.size + 1 + 1 + 1, 0, none⟩) 1 [tri] := by
    have h := cells_new w3 [.slice (some ⟨w.heap.size + 1 + 1, 0, none⟩) 3 3] 76
    rw [← h4, s3] at h
    exact ⟨rfl, fun i hi => match i, hi with | 0, _ => ⟨_, _, 3, rfl, by show w.heap.size + 1 + 1 + 1 < _; omega, h 0 _ rfl, k3.bel b4⟩⟩
  have k5 : N15.Shl w5 (some ⟨w.heap.size + 1 + 1 + 1 + 1, 0, none⟩) 2 S0 := by
    have h := cells_new w4 [.slice none 0 0, .slice none 0 0, .slice (some ⟨w.heap.size + 1 + 1 + 1, 0, none⟩) 1 1, .slice none 0 0] 73
    rw [← h5, s4] at h
    exact ⟨rfl, fun i hi => match i, hi with
      | 0, _ => ⟨_, none, 0, none, 0, rfl, by show w.heap.size + 1 + 1 + 1 + 1 < _; omega, h 0 _ rfl, h 1 _ rfl, N15.Ctl.nil _, N15.C.Prl.nil _⟩
      | 1, _ => ⟨_, _, 1, none, 0, rfl, by show w.heap.size + 1 + 1 + 1 + 1 < _; omega, h 2 _ rfl, h 3 _ rfl, k4.bel b5, N15.C.Prl.nil _⟩⟩
  have k6 : Pl w6 (some ⟨w.heap.size + 1 + 1 + 1 + 1 + 1, 0, none⟩) 1 P0 := by
    have h := cells_new w5 [.int .i64 65, .int .i64 1] 78
    rw [← h6, s5] at h
    exact ⟨rfl, fun i hi => match i, hi with | 0, _ => ⟨_, rfl, by show w.heap.size + 1 + 1 + 1 + 1 + 1 < _; omega, h 0 _ rfl, h 1 _ rfl⟩⟩
  have hb : Below w.heap.size w w6 := (((((b1.trans (b2.mono b1.size)).trans (b3.mono (by omega))).trans (b4.mono (by omega))).trans (b5.mono (by omega))).trans (b6.mono (by omega)))
  have hk : HB w6 w.heap.size h0 := k1.bel ((((b2.trans (b3.mono (by omega))).trans (b4.mono (by omega))).trans (b5.mono (by omega))).trans (b6.mono (by omega)))
  refine (make0 _ _ _ 2 2 1 w6 ((((k2.bel b3).bel b4).bel b5).bel b6) (k5.bel b6) k6).mono fun e w' ⟨e1, e2⟩ => ⟨e1, hb.trans (e2.mono hb.size), hk.bel e2⟩
end Ft
end Go.Proofs.YtfhaloclbbmbeaaGreat
namespace Go.Proofs.YtfhaloclbbmbeaaGreat
open Go.RowKit
namespace Ft
structure AwS (w W : World) (g : Nat) : Prop where
  bel : Below w.heap.size w W
  hb : HB W w.heap.size h0
  fn : FnB W g h0 [7, 7] [[], [tri]] P0
section
variable {w W W' : World} {g : Nat}
theorem AwS.next (s : AwS w W g) (hb : Below W.heap.size W W') : AwS w W' g := ⟨s.bel.trans (hb.mono s.bel.size), s.hb.bel hb, s.fn.bel hb⟩
theorem AwS.drew (s : AwS w W g) : AwS w W.drew g := s.next (Below.drew (Below.refl _ _))
theorem AwS.facts (s : AwS w W g) : W.cell? ⟨w.heap.size, 0, none⟩ = some (.int .i64 16) ∧ W.cell? ⟨w.heap.size, 1, none⟩ = some (.bool false) ∧ W.cell? ⟨w.heap.size, 2, none⟩ = some (.int .i64 2) ∧ W.cell? ⟨w.heap.size, 3, none⟩ = some (.int .i64 1)
    ∧ W.cell? ⟨w.heap.size, 4, none⟩ = some (.int .i64 0) ∧ W.cell? ⟨w.heap.size, 5, none⟩ = some (.int .i64 0) ∧ W.cell? ⟨w.heap.size, 6, none⟩ = some (.int .i64 0) := s.hb.cells
end
set_option maxHeartbeats 8000000 in
set_option maxRecDepth 100000 in
theorem awake_any (w : World) : Calls Tryz.prog 7 #[] w fun e w' => e = .returned (.bool true) ∧ Below w.heap.size w w' := by
  have HM := Lib.hid (aw_make w)
  have HN := Lib.hid (fun W => new0 W)
  obtain ⟨FF, hFF⟩ : ∃ D : ByteArray, D = ⟨F0.toArray⟩ := ⟨_, rfl⟩
  rw [← hFF] at HM HN
  have HZ := Lib.hid (fun W => new_none W)
  have HW := Lib.hid (fun W g (f : FnB W g h0 [7, 7] [[], [tri]] P0) => show Calls Tryz.prog 25 #[.pointer (some ⟨g, 0, none⟩), .int .i64 1] W fun e w' => e = .returned (.tuple #[.int .i64 7, .int .i64 0]) ∧ Below W.heap.size W w' from width_any g h0 [7, 7] [[], [tri]] P0 W f 1 (by decide) (by decide))
  have HE := Lib.hid (fun W g (f : FnB W g h0 [7, 7] [[], [tri]] P0) => show Calls Tryz.prog 16 #[.pointer (some ⟨g, 0, none⟩), .int .i64 1, .int .i64 1] W fun e w' => ∃ A c, e = .returned (.tuple #[.slice A 3 c, .int .i64 0]) ∧ Below W.heap.size W w' from by
    have := edges_any g h0 [7, 7] [[], [tri]] P0 W f 1 (by decide) 1 (by decide) (by decide)
    rw [show N15.og [[], [tri]] 1 = [tri] from rfl, tri_E] at this
    exact this)
  have HH := Lib.hid (fun W g (f : FnB W g h0 [7, 7] [[], [tri]] P0) => show Calls Tryz.prog 22 #[.pointer (some ⟨g, 0, none⟩)] W fun e w' => e = .returned (.agg #[.int .i64 16, .bool false, .int .i64 2, .int .i64 1, .int .i64 0, .int .i64 0, .int .i64 0]) ∧ Below W.heap.size W w' from head_any g h0 [7, 7] [[], [tri]] P0 W f)
  have HG := Lib.hid (fun W g (f : FnB W g h0 [7, 7] [[], [tri]] P0) => show Calls Tryz.prog 20 #[.pointer (some ⟨g, 0, none⟩), .int .i64 65] W fun e w' => e = .returned (.int .i64 1) ∧ Below W.heap.size W w' from glyph_any g h0 [7, 7] [[], [tri]] P0 W f 65 (by decide) (fun i hi => absurd hi (by simp [P0])))
  have HG2 := Lib.hid (fun W g (f : FnB W g h0 [7, 7] [[], [tri]] P0) => show Calls Tryz.prog 20 #[.pointer (some ⟨g, 0, none⟩), .int .i64 66] W fun e w' => e = .returned (.int .i64 0) ∧ Below W.heap.size W w' from glyph_any g h0 [7, 7] [[], [tri]] P0 W f 66 (by decide) (fun i hi => absurd hi (by simp [P0])))
  clear hFF
  go_enter Tryz.func7, Tryz.ntmps7
  go_upto_region 7 with (first
    | (go_at_call 13; (with_reducible refine HM.out.mono ?_); rintro e w1 ⟨rfl, hb, hh⟩; have HB1 := Lib.hid hb; have HH1 := Lib.hid hh; clear hb hh)
    | (go_at_call 8; (with_reducible refine (HN.out _).mono ?_); rintro e w2 ⟨g, rfl, hf, hb⟩; have H := Lib.hid (AwS.mk (HB1.out.trans (hb.mono HB1.out.size)) (HH1.out.bel hb) hf); clear hb hf)
    | (go_at_call 25; (with_reducible refine (HW.out _ _ H.out.fn).mono ?_); rintro e w3 ⟨rfl, hb⟩; have H := Lib.hid (H.out.next hb); clear hb)
    | (go_at_call 16; (with_reducible refine (HE.out _ _ H.out.fn).mono ?_); rintro e w4 ⟨A4, c4, rfl, hb⟩; have H := Lib.hid (H.out.next hb); clear hb)
    | (go_at_call 8; (with_reducible refine (HZ.out _).mono ?_); rintro e w5 ⟨rfl, hb⟩; have H := Lib.hid (H.out.next hb); clear hb))
  obtain ⟨f0, f1, f2, f3, f4, f5, f6⟩ := H.out.facts
  go_region_held3 (fun w' => w'.cell? ⟨w.heap.size, 0, none⟩ = some (.int .i64 16) ∧ w'.cell? ⟨w.heap.size, 1, none⟩ = some (.bool false) ∧ w'.cell? ⟨w.heap.size, 2, none⟩ = some (.int .i64 2) ∧ w'.cell? ⟨w.heap.size, 3, none⟩ = some (.int .i64 1) ∧ w'.cell? ⟨w.heap.size, 4, none⟩ = some (.int .i64 0) ∧ w'.cell? ⟨w.heap.size, 5, none⟩ = some (.int .i64 0) ∧ w'.cell? ⟨w.heap.size, 6, none⟩ = some (.int .i64 0))
    (first | with_reducible exact H.out.facts | go_keep)
    (first
      | (go_at_call 22; (first | (with_reducible refine (HH.out _ _ H.out.fn).mono ?_) | (with_reducible refine (HH.out _ _ H.out.drew.fn).mono ?_)); rintro e wx ⟨rfl, hb⟩; (first | have H := Lib.hid (H.out.next hb) | have H := Lib.hid (H.out.drew.next hb)); clear hb)
      | (go_at_call 20; (first | (with_reducible refine (HG.out _ _ H.out.fn).mono ?_) | (with_reducible refine (HG.out _ _ H.out.drew.fn).mono ?_)); rintro e wx ⟨rfl, hb⟩; (first | have H := Lib.hid (H.out.next hb) | have H := Lib.hid (H.out.drew.next hb)); clear hb)
      | (go_at_call 20; (first | (with_reducible refine (HG2.out _ _ H.out.fn).mono ?_) | (with_reducible refine (HG2.out _ _ H.out.drew.fn).mono ?_)); rintro e wx ⟨rfl, hb⟩; (first | have H := Lib.hid (H.out.next hb) | have H := Lib.hid (H.out.drew.next hb)); clear hb))
  all_goals
    go_wp2_with fail
    go_ret
    exact ⟨rfl, H.out.bel⟩
end Ft
end Go.Proofs.YtfhaloclbbmbeaaGreat
namespace Go.Proofs.YtfhaloclbbmbeaaGreat
open Go.RowKit
namespace Ft
set_option maxHeartbeats 4000000 in
set_option maxRecDepth 100000 in
theorem law_none (n px : Int) (w : World) : Calls Tryz.prog 6 #[.int .i64 n, .int .i64 px] w fun e w' => e = .returned (.bool true) ∧ Below w.heap.size w w' := by
  have HA := Lib.hid (fun W => awake_any W)
  have HW := Lib.hid (fun W => width_nil n W)
  have HO := Lib.hid (fun W => outline_nil n W)
  have HE := Lib.hid (fun W => edges_nil n px W)
  have HH := Lib.hid (fun W => head_nil W)
  have HG := Lib.hid (fun W => glyph_nil n W)
  have HP := Lib.hid (fun W => pairs_nil W)
  have H := Lib.hid (Below.refl w.heap.size w)
  go_enter Tryz.func6, Tryz.ntmps6
  go_wp2_with (first
    | (go_at_call 7; (with_reducible refine (HA.out _).mono ?_); rintro e wx ⟨rfl, hb⟩; have H := Lib.hid (H.out.trans (hb.mono H.out.size)); clear hb)
    | (go_at_call 25; (with_reducible refine (HW.out _).mono ?_); rintro e wx ⟨rfl, hb⟩; have H := Lib.hid (H.out.trans (hb.mono H.out.size)); clear hb)
    | (go_at_call 15; (with_reducible refine (HO.out _).mono ?_); rintro e wx ⟨rfl, hb⟩; have H := Lib.hid (H.out.trans (hb.mono H.out.size)); clear hb)
    | (go_at_call 16; (with_reducible refine (HE.out _).mono ?_); rintro e wx ⟨rfl, hb⟩; have H := Lib.hid (H.out.trans (hb.mono H.out.size)); clear hb)
    | (go_at_call 22; (with_reducible refine (HH.out _).mono ?_); rintro e wx ⟨rfl, hb⟩; have H := Lib.hid (H.out.trans (hb.mono H.out.size)); clear hb)
    | (go_at_call 20; (with_reducible refine (HG.out _).mono ?_); rintro e wx ⟨rfl, hb⟩; have H := Lib.hid (H.out.trans (hb.mono H.out.size)); clear hb)
    | (go_at_call 24; (with_reducible refine (HP.out _).mono ?_); rintro e wx ⟨rfl, hb⟩; have H := Lib.hid (H.out.trans (hb.mono H.out.size)); clear hb))
  go_ret
  exact ⟨rfl, H.out⟩
end Ft
end Go.Proofs.YtfhaloclbbmbeaaGreat
namespace Go.Proofs.YtfhaloclbbmbeaaGreat
open Go.ChangeShapes Go.WideShapes Go.ChangeAt Go.RowKit Go.Joins
theorem post_true {H : Type} {enc : TypeId × Value → H} {f : Func} {s : ChangeSpec} {W W' : World} {args : Array Value} {ds : List (DataW H)} {before : List MemPlace} (hs : s.vars = [])
    (hW : DataW.Whole enc Tryz.prog f.params.toList s.vars false W args.toList ds [] before) (hr : f.resultTypes = #[4]) (hres : (s.fn H (ds ++ [])).results = [.lit (.bool true)]) (hargs0 : (s.fn H (ds ++ [])).args = ds) (hvars0 : (s.fn H (ds ++ [])).vars = [])
    (hargs : ∃ pa, DataW.TrodAll enc Tryz.prog W' 0 (fun b => decide (b < W.heap.size)) true f.params.toList args.toList ds pa) (hb : Below W.heap.size W W') :
    s.post enc Tryz.prog f false true false false W args (.bool true) W' := by
  obtain ⟨pa, hargs⟩ := hargs
  refine ⟨ds, [], before, [], pa, [], hW, ?_, ?_, ?_, hb.frame _, fun h => by cases h⟩
  · rw [hr, hres]
    exact trodAll_mk1 (shut_bool Tryz.underlying4 true)
  · rw [hargs0]
    exact hargs
  · rw [hs, hvars0]
    rfl
set_option maxRecDepth 100000 in
theorem open_int {H : Type} {enc : TypeId × Value → H} {W : World} {b0 : Nat} {v : Value} {d : DataW H} {p : List MemPlace} (hok : Value.okWide Tryz.prog W .any b0 3 v)
    (h : DataW.Trod enc Tryz.prog W 0 (fun _ => true) true 3 v d p) :
    ∃ x : Int, v = .int .i64 x ∧ ∀ (W' : World) (sp : Nat → Bool), DataW.Trod enc Tryz.prog W' 0 sp true 3 v d p := by
  obtain ⟨k, hk⟩ := h
  obtain ⟨x, e0, e1, wx⟩ := DataW.trod_int Tryz.underlying3 hk
  have hv2 : v = .int .i64 x := by
    cases v <;> simp [Value.cells] at e0 ⊢
    all_goals first | exact e0 | (simp [Value.okWide, Cell.okWide, Cell.ok, Tryz.underlying3] at hok)
  subst hv2
  injection e1 with e1 e2
  subst e1 e2
  exact ⟨x, rfl, fun W' sp => ⟨1, by simp [Value.cells, DataW.trod, Tryz.underlying3, wx]⟩⟩
set_option maxRecDepth 100000 in
theorem lifted_none (os : Os) (started : os.Started) (H : Type) (enc : TypeId × Value → H) :
    ReturnsInHanded {} Tryz.checked os 6 .any (Rows.fontNoneSpec.pre6 enc Tryz.prog Tryz.f6 Rows.fontNoneRow.domain false) (Rows.fontNoneSpec.post enc Tryz.prog Tryz.f6 false true false false) := by
  refine returnsInHanded_of_change (C := Tryz.checked) own started (by kernel_rfl) Tryz.func6
    (ChangeSpec.witness6 (enc := enc) (C := Tryz.checked) false ⟨#[], #[.int .i64 0, .int .i64 0], []⟩ 8 (by kernel_rfl) (by kernel_rfl) (by kernel_rfl) (by kernel_rfl)) ?_
  intro W base args ds gs before hval0 hW hcnd _
  have hval : ∀ (j : Nat) t v, Tryz.f6.params[j]? = some t → args[j]? = some v → Value.okWide Tryz.prog W .any base t v := hval0
  have hW' := hW
  obtain ⟨p, q, hA0, hV, rfl, hfz, hnd⟩ := hW
  have hA : DataW.TrodAll enc Tryz.prog W 0 (fun _ => true) true Tryz.f6.params.toList args.toList ds p := hA0
  rw [Tryz.params6] at hA hval
  obtain ⟨v1, v2, d1, d2, p1, p2, rfl, rfl, rfl, h1, h2⟩ := trodAll_two hA
  obtain ⟨rfl, rfl⟩ := trodVars_none hV
  obtain ⟨n, rfl, hr1⟩ := open_int (hval 0 3 v1 rfl rfl) h1
  obtain ⟨px, rfl, hr2⟩ := open_int (hval 1 3 v2 rfl rfl) h2
  clear hA0 hval0
  simp only [List.append_nil] at hW'
  refine (Ft.law_none n px W).mono fun e W' ⟨he2, hw⟩ => ?_
  subst he2
  exact ⟨_, rfl, post_true (ds := [_, _]) rfl hW' (by kernel_rfl) rfl rfl rfl ⟨_, trodAll_mk2 (hr1 W' _) (hr2 W' _)⟩ hw⟩
theorem fontNone_holds : Rows.FontNoneSaid :=
  OpenClaim.holds_of_wide 6 Tryz.f6 rfl rfl rfl rfl rfl rfl rfl ⟨rfl, rfl, rfl, rfl, rfl⟩ rfl rfl rfl rfl rfl (by kernel_rfl) Tryz.func6 (by kernel_rfl)
    (of_decide_eq_true (by kernel_rfl)) (by unfold Func.isWrapper; first | (rw [if_pos (by decide +kernel)]; kernel_rfl) | (rw [if_neg (by decide +kernel)]; exact ⟨rfl, rfl⟩))
    (fun os started H enc _ => lifted_none os started H enc)
end Go.Proofs.YtfhaloclbbmbeaaGreat
