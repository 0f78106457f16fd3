/- Proved here: what the law PlaneAsks answers, over memory. No condition. -/
import Derived.Test.YtiififjbljiggaaPAf
namespace Go.Proofs.Ytiififjbljiggaa
open Go.RowKit

/-- The boxes, with their cells. -/
abbrev FuS (w W : World) (b7 b8 : Nat) (a b c d : P2) : Prop := W.cell? ⟨w.heap.size, 0, none⟩ = some (.int .i64 a.1) ∧ W.cell? ⟨w.heap.size, 1, none⟩ = some (.int .i64 a.2) ∧ W.cell? ⟨w.heap.size + 1, 0, none⟩ = some (.int .i64 b.1) ∧ W.cell? ⟨w.heap.size + 1, 1, none⟩ = some (.int .i64 b.2)
    ∧ W.cell? ⟨b7, 0, none⟩ = some (.int .i64 c.1) ∧ W.cell? ⟨b7, 1, none⟩ = some (.int .i64 c.2) ∧ W.cell? ⟨b8, 0, none⟩ = some (.int .i64 d.1) ∧ W.cell? ⟨b8, 1, none⟩ = some (.int .i64 d.2) ∧ LwS w W b7 b8 a b c d
section
variable {w W W' : World} {b7 b8 : Nat} {a b c d : P2}
theorem LwS.full (h : LwS w W b7 b8 a b c d) : FuS w W b7 b8 a b c d := ⟨h.cells.1, h.cells.2.1, h.cells.2.2.1, h.cells.2.2.2.1, h.cells.2.2.2.2.1, h.cells.2.2.2.2.2.1, h.cells.2.2.2.2.2.2.1, h.cells.2.2.2.2.2.2.2, h⟩
theorem fu_lw (h : FuS w W b7 b8 a b c d) : LwS w W b7 b8 a b c d := h.2.2.2.2.2.2.2.2
theorem fu_alloc {o : Obj} (h : FuS w W b7 b8 a b c d) : FuS w (W.alloc o) b7 b8 a b c d := ((fu_lw h).next ((Below.refl _ _).alloc (Nat.le_refl _) _)).full
theorem fu_allocD {o : Obj} (h : FuS w W.drew b7 b8 a b c d) : FuS w (W.alloc o).drew b7 b8 a b c d := fu_alloc (W := W.drew) h
theorem fu_drew (h : FuS w W b7 b8 a b c d) : FuS w W.drew b7 b8 a b c d := (fu_lw h).drew.full
theorem fu_bel (hb : Below W.heap.size W W') (h : FuS w W b7 b8 a b c d) : FuS w W' b7 b8 a b c d := ((fu_lw h).next hb).full
end
theorem row_new {W : World} {o : Obj} {g : Nat} (h : g = W.heap.size) : (W.alloc o).heap[g]? = some o := by subst h; exact heap_alloc_new W o
theorem row_n0 (W : World) (o : Obj) : (W.alloc o).heap[W.heap.size]? = some o := heap_alloc_new W o
theorem row_n1 (W : World) (o1 o : Obj) : ((W.alloc o1).alloc o).heap[W.heap.size + 1]? = some o := row_new (by simp)
theorem row_n2 (W : World) (o1 o2 o : Obj) : (((W.alloc o1).alloc o2).alloc o).heap[W.heap.size + 1 + 1]? = some o := row_new (by simp)
theorem row_old {W : World} {o o' : Obj} {g : Nat} (h : W.heap[g]? = some o) : (W.alloc o').heap[g]? = some o := (((Below.refl W.heap.size W).alloc (Nat.le_refl _) o').block g (heap_lt h)).trans h
theorem row_drew {W : World} {o : Obj} {g : Nat} (h : W.heap[g]? = some o) : W.drew.heap[g]? = some o := h
theorem row_drewN {W : World} {o : Obj} {g n : Nat} (h : W.heap[g]? = some o) : (W.drewN n).heap[g]? = some o := h
theorem row_bel {W W' : World} {o : Obj} {g : Nat} (hb : Below W.heap.size W W') (h : W.heap[g]? = some o) : W'.heap[g]? = some o := (hb.block g (heap_lt h)).trans h
/-- A region of a function, by its number. -/
def findReg (n : Nat) : Code → Option Code
  | .region k ops d => if k = n then some (.region k ops d) else none
  | .seq a b => match findReg n a with
    | some c => some c
    | none => findReg n b
  | .cond _ a b => match findReg n a with
    | some c => some c
    | none => findReg n b
  | .block _ c => findReg n c
  | .loop c => findReg n c
  | .scope c => findReg n c
  | _ => none
noncomputable def reg10 : Code := ((Try.f3.body.bind (findReg 10)).getD .skip)
set_option maxHeartbeats 8000000 in
set_option maxRecDepth 1000000 in
theorem asks_first (ax ay bx by_ cx cy dx dy e2 e3 e4 : Int) (w x6 : World) (b7 b8 : Nat) (u5 u6 u9 u10 u11 u12 u13 u14 u15 u16 u17 u18 u19 u20 u21 u22 u23 u24 u25 u26 u27 u28 u29 u30 u31 u32 u33 u34 u35 u36 u37 u38 u39 u40 u41 u42 u43 u44 u45 u46 u47 u48 u49 u50 u51 u52 u53 u54 u55 u56 u57 u58 u59 u60 u61 u62 u63 u64 u65 u66 u67 u68 u69 u70 u71 u72 u73 u74 u75 u76 u77 u78 u79 u80 u81 u82 u83 u84 u85 u86 u87 u88 u89 u90 u91 u92 u93 u94 u95 u96 u97 u98 u99 u100 u101 u102 u103 u104 u105 u106 u107 u108 u109 u110 u111 u112 u113 u114 u115 u116 u117 u118 u119 u120 u121 u122 u123 u124 u125 u126 u127 u128 u129 u130 u131 u132 u133 u134 u135 u136 u137 u138 u139 u140 u141 u142 u143 u144 u145 u146 u147 u148 u149 u150 u151 u152 u153 u154 u155 u156 u157 u158 u159 u160 u161 u162 u163 u164 u165 u166 u167 u168 u169 u170 u171 u172 u173 u174 u175 u176 u177 u178 u179 u180 u181 u182 u183 u184 u185 u186 u187 u188 u189 u190 u191 u192 u193 u194 u195 u196 u197 u198 u199 u200 u201 u202 u203 u204 u205 u206 : Value) (Q6 : Hid (LwS w x6 b7 b8 (ax, ay) (bx, by_) (cx, cy) (dx, dy)))
    (A3 : ∀ (W : World) (g : Nat), Prow W g [(ax, ay), (bx, by_), (cx, cy)] → Calls Try.prog 13 #[.slice (some ⟨g, 0, none⟩) 3 3] W fun e w' => e = .returned (.int .i64 e3) ∧ Below W.heap.size W w')
    (A2 : ∀ (W : World) (g : Nat), Prow W g [(ax, ay), (bx, by_)] → Calls Try.prog 13 #[.slice (some ⟨g, 0, none⟩) 2 2] W fun e w' => e = .returned (.int .i64 e2) ∧ Below W.heap.size W w')
    (A4 : ∀ (W : World) (g : Nat), Prow W g [(ax, ay), (bx, by_), (cx, cy), (dx, dy)] → Calls Try.prog 13 #[.slice (some ⟨g, 0, none⟩) 4 4] W fun e w' => e = .returned (.int .i64 e4) ∧ Below W.heap.size W w')
    (K : Act → World → Prop) (Q : Exit → Act → World → Prop) (HQ : Hid (∀ (y72 y73 y74 y75 y76 y77 y78 y79 y80 y81 y82 y83 y84 y85 y86 : Value) (wx : World), LwS w wx b7 b8 (ax, ay) (bx, by_) (cx, cy) (dx, dy) → K ⟨#[.agg #[.int .i64 ax, .int .i64 ay], .agg #[.int .i64 bx, .int .i64 by_], .agg #[.int .i64 cx, .int .i64 cy, .int .i64 dx, .int .i64 dy], .pointer (some ⟨w.heap.size, 0, none⟩), .pointer (some ⟨w.heap.size + 1, 0, none⟩), u5, u6, .pointer (some ⟨b7, 0, none⟩), .pointer (some ⟨b8, 0, none⟩), u9, u10, u11, u12, u13, u14, u15, u16, u17, u18, u19, u20, .int .i64 e3, .int .i64 e2, .int .i64 e4, u24, u25, u26, u27, u28, u29, u30, u31, u32, u33, u34, u35, u36, u37, u38, u39, u40, u41, u42, u43, u44, u45, u46, u47, u48, u49, u50, u51, u52, u53, u54, u55, u56, u57, u58, u59, u60, u61, u62, u63, u64, u65, u66, u67, u68, u69, u70, u71, y72, y73, y74, y75, y76, y77, y78, y79, y80, y81, y82, y83, y84, y85, y86, u87, u88, u89, u90, u91, u92, u93, u94, u95, u96, u97, u98, u99, u100, u101, u102, u103, u104, u105, u106, u107, u108, u109, u110, u111, u112, u113, u114, u115, u116, u117, u118, u119, u120, u121, u122, u123, u124, u125, u126, u127, u128, u129, u130, u131, u132, u133, u134, u135, u136, u137, u138, u139, u140, u141, u142, u143, u144, u145, u146, u147, u148, u149, u150, u151, u152, u153, u154, u155, u156, u157, u158, u159, u160, u161, u162, u163, u164, u165, u166, u167, u168, u169, u170, u171, u172, u173, u174, u175, u176, u177, u178, u179, u180, u181, u182, u183, u184, u185, u186, u187, u188, u189, u190, u191, u192, u193, u194, u195, u196, u197, u198, u199, u200, u201, u202, u203, u204, u205, u206], []⟩ wx)) :
    Code.wp Try.prog reg10 (Exit.then K Q) ⟨#[.agg #[.int .i64 ax, .int .i64 ay], .agg #[.int .i64 bx, .int .i64 by_], .agg #[.int .i64 cx, .int .i64 cy, .int .i64 dx, .int .i64 dy], .pointer (some ⟨w.heap.size, 0, none⟩), .pointer (some ⟨w.heap.size + 1, 0, none⟩), u5, u6, .pointer (some ⟨b7, 0, none⟩), .pointer (some ⟨b8, 0, none⟩), u9, u10, u11, u12, u13, u14, u15, u16, u17, u18, u19, u20, u21, u22, u23, u24, u25, u26, u27, u28, u29, u30, u31, u32, u33, u34, u35, u36, u37, u38, u39, u40, u41, u42, u43, u44, u45, u46, u47, u48, u49, u50, u51, u52, u53, u54, u55, u56, u57, u58, u59, u60, u61, u62, u63, u64, u65, u66, u67, u68, u69, u70, u71, u72, u73, u74, u75, u76, u77, u78, u79, u80, u81, u82, u83, u84, u85, u86, u87, u88, u89, u90, u91, u92, u93, u94, u95, u96, u97, u98, u99, u100, u101, u102, u103, u104, u105, u106, u107, u108, u109, u110, u111, u112, u113, u114, u115, u116, u117, u118, u119, u120, u121, u122, u123, u124, u125, u126, u127, u128, u129, u130, u131, u132, u133, u134, u135, u136, u137, u138, u139, u140, u141, u142, u143, u144, u145, u146, u147, u148, u149, u150, u151, u152, u153, u154, u155, u156, u157, u158, u159, u160, u161, u162, u163, u164, u165, u166, u167, u168, u169, u170, u171, u172, u173, u174, u175, u176, u177, u178, u179, u180, u181, u182, u183, u184, u185, u186, u187, u188, u189, u190, u191, u192, u193, u194, u195, u196, u197, u198, u199, u200, u201, u202, u203, u204, u205, u206], []⟩ x6 := by
  have HA3 := Lib.hid A3
  have HA2 := Lib.hid A2
  have HA4 := Lib.hid A4
  clear A3 A2 A4
  conv => arg 2; whnf
  go_region_held3 (fun w' => w'.cell? ⟨w.heap.size, 0, none⟩ = some (.int .i64 ax) ∧ w'.cell? ⟨w.heap.size, 1, none⟩ = some (.int .i64 ay) ∧ w'.cell? ⟨w.heap.size + 1, 0, none⟩ = some (.int .i64 bx) ∧ w'.cell? ⟨w.heap.size + 1, 1, none⟩ = some (.int .i64 by_) ∧ w'.cell? ⟨b7, 0, none⟩ = some (.int .i64 cx) ∧ w'.cell? ⟨b7, 1, none⟩ = some (.int .i64 cy) ∧ w'.cell? ⟨b8, 0, none⟩ = some (.int .i64 dx) ∧ w'.cell? ⟨b8, 1, none⟩ = some (.int .i64 dy) ∧ LwS w w' b7 b8 (ax, ay) (bx, by_) (cx, cy) (dx, dy))
    (first | exact Q6.out.drew.full | exact fu_alloc (a := (ax, ay)) (b := (bx, by_)) (c := (cx, cy)) (d := (dx, dy)) (by assumption) | exact fu_allocD (a := (ax, ay)) (b := (bx, by_)) (c := (cx, cy)) (d := (dx, dy)) (by assumption) | exact fu_bel (a := (ax, ay)) (b := (bx, by_)) (c := (cx, cy)) (d := (dx, dy)) (by assumption) (by assumption))
    (first
      | (go_at_call 13; (with_reducible refine (HA3.out _ _ ?_).mono ?_); (focus (show (World.heap _)[_]? = some (Obj.cells #[.int .i64 ax, .int .i64 ay, .int .i64 bx, .int .i64 by_, .int .i64 cx, .int .i64 cy] 23); (repeat' (first | with_reducible exact row_n0 _ _ | with_reducible exact row_n1 _ _ _ | with_reducible exact row_n2 _ _ _ _ | with_reducible refine row_drew ?_ | with_reducible refine row_drewN ?_ | with_reducible refine row_bel (by assumption) ?_ | with_reducible refine row_old ?_)); done)); rintro e v3 ⟨rfl, hb3⟩)
      | (go_at_call 13; (with_reducible refine (HA2.out _ _ ?_).mono ?_); (focus (show (World.heap _)[_]? = some (Obj.cells #[.int .i64 ax, .int .i64 ay, .int .i64 bx, .int .i64 by_] 23); (repeat' (first | with_reducible exact row_n0 _ _ | with_reducible exact row_n1 _ _ _ | with_reducible exact row_n2 _ _ _ _ | with_reducible refine row_drew ?_ | with_reducible refine row_drewN ?_ | with_reducible refine row_bel (by assumption) ?_ | with_reducible refine row_old ?_)); done)); rintro e v2 ⟨rfl, hb2⟩)
      | (go_at_call 13; (with_reducible refine (HA4.out _ _ ?_).mono ?_); (focus (show (World.heap _)[_]? = some (Obj.cells #[.int .i64 ax, .int .i64 ay, .int .i64 bx, .int .i64 by_, .int .i64 cx, .int .i64 cy, .int .i64 dx, .int .i64 dy] 23); (repeat' (first | with_reducible exact row_n0 _ _ | with_reducible exact row_n1 _ _ _ | with_reducible exact row_n2 _ _ _ _ | with_reducible refine row_drew ?_ | with_reducible refine row_drewN ?_ | with_reducible refine row_bel (by assumption) ?_ | with_reducible refine row_old ?_)); done)); rintro e v4 ⟨rfl, hb4⟩))
  all_goals
    go_wp2_with fail
    exact HQ.out _ _ _ _ _ _ _ _ _ _ _ _ _ _ _ _ (fu_lw (a := (ax, ay)) (b := (bx, by_)) (c := (cx, cy)) (d := (dx, dy)) (by assumption))
end Go.Proofs.Ytiififjbljiggaa
