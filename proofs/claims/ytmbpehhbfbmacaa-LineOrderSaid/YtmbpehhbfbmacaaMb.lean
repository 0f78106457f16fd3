/- Proved here: what line's times answers (a product of 192 bits). Condition: halves of 64 bits. -/
import Derived.Test.YtmbpehhbfbmacaaMa
namespace Go.Proofs.Ytmbpehhbfbmacaa
open Go.RowKit

theorem two_facts {w W : World} {g a b c d : Nat} (h : Box W w.heap.size a b) (h2 : Box W g c d) : W.cell? ⟨w.heap.size, 0, none⟩ = some (.int .u64 (a : Int)) ∧ W.cell? ⟨g, 0, none⟩ = some (.int .u64 (c : Int)) := ⟨h.c0, h2.c0⟩
theorem B3.drew {w : World} {g x y z : Nat} (h : B3 w g x y z) : B3 w.drew g x y z := h
theorem B3.alloc {w : World} {g x y z : Nat} (h : B3 w g x y z) (o : Obj) : B3 (w.alloc o) g x y z := h.bel ((Below.refl _ _).alloc (Nat.le_refl _) _)
/-- Behind the sum: the result's box, the low product, the high words. -/
structure FinS (w W : World) (g q h l d : Nat) : Prop where
  bel : Below w.heap.size w W
  b1 : B3 W (w.heap.size + 1) 0 0 0
  b2 : ∃ c, Box W g c d
  b3 : Box W q h l
  gt : w.heap.size + 1 < g ∧ g < q
theorem FinS.facts {w W : World} {g q h l d : Nat} (H : FinS w W g q h l d) : W.cell? ⟨g, 1, none⟩ = some (.int .u64 (d : Int)) ∧ W.cell? ⟨q, 0, none⟩ = some (.int .u64 (h : Int)) ∧ W.cell? ⟨q, 1, none⟩ = some (.int .u64 (l : Int)) ∧
  W.cell? ⟨w.heap.size + 1, 0, none⟩ = some (.int .u64 0) ∧ W.cell? ⟨w.heap.size + 1, 1, none⟩ = some (.int .u64 0) ∧ W.cell? ⟨w.heap.size + 1, 2, none⟩ = some (.int .u64 0) ∧
  W.frozen? ⟨w.heap.size + 1, 0, none⟩ = false ∧ W.frozen? ⟨w.heap.size + 1, 1, none⟩ = false ∧ W.frozen? ⟨w.heap.size + 1, 2, none⟩ = false ∧ w.heap.size + 1 < W.heap.size := by
  obtain ⟨c, hc⟩ := H.b2
  exact ⟨hc.c1, H.b3.c0, H.b3.c1, H.b1.cells.1, H.b1.cells.2.1, H.b1.cells.2.2, H.b1.frs.1, H.b1.frs.2.1, H.b1.frs.2.2, H.b1.lt⟩
theorem Box.drew {w : World} {g a b : Nat} (h : Box w g a b) : Box w.drew g a b := h
theorem TmS.start {w w1 W : World} {a b c d : Nat} (hb : Below ((w.alloc (.cells #[.int .u64 (a : Int), .int .u64 (b : Int)] 37)).alloc (.cells #[.int .u64 0, .int .u64 0, .int .u64 0] 59)).heap.size ((w.alloc (.cells #[.int .u64 (a : Int), .int .u64 (b : Int)] 37)).alloc (.cells #[.int .u64 0, .int .u64 0, .int .u64 0] 59)) w1)
    (hW : W = w1.alloc (.cells #[.int .u64 (c : Int), .int .u64 (d : Int)] 37)) : TmS w W w1.heap.size a b c d [] := by
  subst hW
  have a1 : Below w.heap.size w (w.alloc (.cells #[.int .u64 (a : Int), .int .u64 (b : Int)] 37)) := (Below.refl _ _).alloc (Nat.le_refl _) _
  have a2 : Below (w.alloc (.cells #[.int .u64 (a : Int), .int .u64 (b : Int)] 37)).heap.size (w.alloc (.cells #[.int .u64 (a : Int), .int .u64 (b : Int)] 37)) ((w.alloc (.cells #[.int .u64 (a : Int), .int .u64 (b : Int)] 37)).alloc (.cells #[.int .u64 0, .int .u64 0, .int .u64 0] 59)) := (Below.refl _ _).alloc (Nat.le_refl _) _
  have s1 : (w.alloc (.cells #[.int .u64 (a : Int), .int .u64 (b : Int)] 37)).heap.size = w.heap.size + 1 := by simp
  have g0 : Box (w.alloc (.cells #[.int .u64 (a : Int), .int .u64 (b : Int)] 37)) w.heap.size a b := Box.new w a b
  have g1 : B3 ((w.alloc (.cells #[.int .u64 (a : Int), .int .u64 (b : Int)] 37)).alloc (.cells #[.int .u64 0, .int .u64 0, .int .u64 0] 59)) (w.heap.size + 1) 0 0 0 := by
    have := heap_alloc_new (w.alloc (.cells #[.int .u64 (a : Int), .int .u64 (b : Int)] 37)) (.cells #[.int .u64 0, .int .u64 0, .int .u64 0] 59)
    rw [s1] at this
    exact this
  generalize (w.alloc (.cells #[.int .u64 (a : Int), .int .u64 (b : Int)] 37)) = w2 at *
  generalize (w2.alloc (.cells #[.int .u64 0, .int .u64 0, .int .u64 0] 59)) = w3 at *
  have a3 : Below w1.heap.size w1 (w1.alloc (.cells #[.int .u64 (c : Int), .int .u64 (d : Int)] 37)) := (Below.refl _ _).alloc (Nat.le_refl _) _
  have h1 := a2.size
  have h2 := hb.size
  have g2 := (g0.below a2 g0.lt).below hb (Nat.lt_of_lt_of_le g0.lt h1)
  have g3 := g1.bel hb
  have b1 := a1.trans (a2.mono (by omega))
  have b2 := b1.trans (hb.mono b1.size)
  exact ⟨b2.trans (a3.mono b2.size), g2.below a3 g2.lt, g3.bel a3, Box.new w1 c d, g3.lt, fun q hq => by cases hq⟩
set_option linter.unusedSimpArgs false in
set_option maxHeartbeats 4000000 in
set_option maxRecDepth 100000 in
theorem times_core (a b n ph pl c d X : Nat) (w : World) (C1 : ∀ W, Calls Try.prog 20 #[.int .u64 (b : Int), .int .u64 (n : Int)] W fun e w' => e = .returned (.agg #[.int .u64 (c : Int), .int .u64 (d : Int)]) ∧ Below W.heap.size W w')
    (C2 : ∀ W, Calls Try.prog 20 #[.int .u64 (a : Int), .int .u64 (n : Int)] W fun e w' => e = .returned (.agg #[.int .u64 (ph : Int), .int .u64 (pl : Int)]) ∧ Below W.heap.size W w')
    (C3 : ∀ W, Calls Try.prog 40 #[.agg #[.int .u64 (ph : Int), .int .u64 (pl : Int)], .agg #[.int .u64 0, .int .u64 (c : Int)]] W fun e w' => e = .returned (.tuple #[.agg #[.int .u64 (hiW X : Int), .int .u64 (loW X : Int)], .int .i64 0]) ∧ Below W.heap.size W w') :
    Calls Try.prog 27 #[.agg #[.int .u64 (a : Int), .int .u64 (b : Int)], .int .u64 (n : Int)] w fun e w' => e = .returned (.agg #[.int .u64 (hiW X : Int), .int .u64 (loW X : Int), .int .u64 (d : Int)]) ∧ Below w.heap.size w w' := by
  have K1 := Lib.hid C1
  have K2 := Lib.hid C2
  have K3 := Lib.hid C3
  have K4 := Lib.hid (of_pt c)
  clear C1 C2 C3
  go_enter Try.func27, Try.ntmps27
  go_upto_region 2 with (first
    | (go_at_call 20; (with_reducible refine (K1.out _).mono ?_); rintro e w1 ⟨rfl, hb⟩; have HB1 := Lib.hid hb; clear hb))
  obtain ⟨W0, hW0⟩ : ∃ W0, W0 = w1.alloc (.cells #[.int .u64 (c : Int), .int .u64 (d : Int)] 37) := ⟨_, rfl⟩
  rw [← hW0]
  have H := Lib.hid (TmS.start HB1.out hW0)
  obtain ⟨g, hg⟩ : ∃ g, g = w1.heap.size := ⟨_, rfl⟩
  rw [← hg] at H ⊢
  clear hW0 hg HB1
  obtain ⟨f1, f2⟩ := H.out.two
  go_cut [6, 7] from 12 to 22 (fun s e wx => ∃ q : Nat, s = .pointer (some ⟨q, 0, none⟩) ∧ e = .int .i64 0 ∧ FinS w wx g q (hiW X) (loW X) d)
  case first =>
    go_region_held3 (fun w' => w'.cell? ⟨w.heap.size, 0, none⟩ = some (.int .u64 (a : Int)) ∧ w'.cell? ⟨g, 0, none⟩ = some (.int .u64 (c : Int)))
      (first
        | exact H.out.two
        | (refine two_facts (b := b) (d := d) ?_ ?_ <;> (repeat (first | with_reducible exact H.out.b0 | with_reducible exact H.out.b2 | with_reducible refine Box.drew ?_ | with_reducible refine Box.alloc ?_ _ | (with_reducible refine bx_far ?_ (by (try simp); omega)))); done)
        | go_keep)
      (first
        | (go_at_call 20; (with_reducible refine (K2.out _).mono ?_); rintro e w1 ⟨rfl, hb⟩; (first | (with_reducible have H := Lib.hid (H.out.next hb)) | (with_reducible have H := Lib.hid (H.out.drew.next hb)) | (with_reducible have H := Lib.hid (H.out.alloc.next hb)) | (with_reducible have H := Lib.hid (H.out.alloc.drew.next hb)) | (with_reducible have H := Lib.hid (H.out.drew.alloc.next hb))); clear hb; (try clear f1 f2 f3 f4 f5 f6 f7 f8 f9 f10 f11); obtain ⟨f1, f2, f3, f4, f5, f6, f7, f8, f9, f10, f11⟩ := H.out.facts; (try clear hbx); have hbx := H.out.bxs; (try simp only [List.forall_mem_cons, List.not_mem_nil, false_implies, implies_true, and_true, size_a] at hbx); clear K2)
        | (go_at_call 17; (with_reducible refine (K4.out _).mono ?_); rintro e w1 ⟨rfl, hb⟩; (first | (with_reducible have H := Lib.hid (H.out.next hb)) | (with_reducible have H := Lib.hid (H.out.drew.next hb)) | (with_reducible have H := Lib.hid (H.out.alloc.next hb)) | (with_reducible have H := Lib.hid (H.out.alloc.drew.next hb)) | (with_reducible have H := Lib.hid (H.out.drew.alloc.next hb))); clear hb; (try clear f1 f2 f3 f4 f5 f6 f7 f8 f9 f10 f11); obtain ⟨f1, f2, f3, f4, f5, f6, f7, f8, f9, f10, f11⟩ := H.out.facts; (try clear hbx); have hbx := H.out.bxs; (try simp only [List.forall_mem_cons, List.not_mem_nil, false_implies, implies_true, and_true, size_a] at hbx); clear K4)
        | (go_at_call 40; (with_reducible refine (K3.out _).mono ?_); rintro e w1 ⟨rfl, hb⟩; (first | (with_reducible have H := Lib.hid (H.out.next hb)) | (with_reducible have H := Lib.hid (H.out.drew.next hb)) | (with_reducible have H := Lib.hid (H.out.alloc.next hb)) | (with_reducible have H := Lib.hid (H.out.alloc.drew.next hb)) | (with_reducible have H := Lib.hid (H.out.drew.alloc.next hb))); clear hb; (try clear f1 f2 f3 f4 f5 f6 f7 f8 f9 f10 f11); obtain ⟨f1, f2, f3, f4, f5, f6, f7, f8, f9, f10, f11⟩ := H.out.facts; (try clear hbx); have hbx := H.out.bxs; (try simp only [List.forall_mem_cons, List.not_mem_nil, false_implies, implies_true, and_true, size_a] at hbx); clear K3))
    all_goals go_wp2_with fail
    all_goals
      go_meet
      refine ⟨_, rfl, rfl, ⟨?_, ?_, ?_, ?_, ?_⟩⟩
    all_goals first
      | omega
      | ((repeat (first | with_reducible exact H.out.bel | with_reducible refine Below.drew ?_ | with_reducible refine Below.alloc ?_ (by have := H.out.bel.size; (try simp); omega) _ | with_reducible refine Below.setCell ?_ (by have := H.out.bel.size; (try simp); omega) _)); done)
      | (refine ⟨c, ?_⟩; (repeat (first | with_reducible exact H.out.b2 | with_reducible refine Box.drew ?_ | with_reducible refine Box.alloc ?_ _ | (with_reducible refine bx_far ?_ (by (try simp); omega)))); done)
      | ((repeat (first | with_reducible exact H.out.b1 | with_reducible refine B3.drew ?_ | with_reducible refine B3.alloc ?_ _ | (with_reducible refine B3.far ?_ (by (try simp); omega)))); done)
      | exact bx_set1 (bx_set0 (H.out.bx _ (by simp)).1 _) _
      | exact Box.new _ _ _
  case rest =>
    obtain ⟨q, rfl, rfl, hf⟩ := hcut
    have F := Lib.hid hf
    clear hf H f1 f2
    obtain ⟨f1, f2, f3, f4, f5, f6, f7, f8, f9, f10⟩ := F.out.facts
    go_wp2_with fail
    exact bodyPost_ret (ret_b3 rfl rfl (((F.out.b1.set0 _).set1 _).set2 _)) rfl ⟨rfl, ((F.out.bel.setCell (by simp) _).setCell (by simp) _).setCell (by simp) _⟩
end Go.Proofs.Ytmbpehhbfbmacaa
