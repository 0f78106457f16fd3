/- Proved here: what the law PlaneAsks answers, over memory. No condition. -/
import Derived.Test.YtmbpehhbfbmacaaLPAp
namespace Go.Proofs.Ytmbpehhbfbmacaa
open Go.RowKit

theorem row_new {W : World} {o : Obj} {g : Nat} (h : g = W.heap.size) : (W.alloc o).heap[g]? = some o := by subst h; exact heap_alloc_new W o
theorem row_n0 (W : World) (o : Obj) : (W.alloc o).heap[W.heap.size]? = some o := heap_alloc_new W o
theorem row_n1 (W : World) (o1 o : Obj) : ((W.alloc o1).alloc o).heap[W.heap.size + 1]? = some o := row_new (by simp)
theorem row_n2 (W : World) (o1 o2 o : Obj) : (((W.alloc o1).alloc o2).alloc o).heap[W.heap.size + 1 + 1]? = some o := row_new (by simp)
theorem row_old {W : World} {o o' : Obj} {g : Nat} (h : W.heap[g]? = some o) : (W.alloc o').heap[g]? = some o := (((Below.refl W.heap.size W).alloc (Nat.le_refl _) o').block g (heap_lt h)).trans h
theorem row_drew {W : World} {o : Obj} {g : Nat} (h : W.heap[g]? = some o) : W.drew.heap[g]? = some o := h
theorem row_drewN {W : World} {o : Obj} {g n : Nat} (h : W.heap[g]? = some o) : (W.drewN n).heap[g]? = some o := h
theorem row_bel {W W' : World} {o : Obj} {g : Nat} (hb : Below W.heap.size W W') (h : W.heap[g]? = some o) : W'.heap[g]? = some o := (hb.block g (heap_lt h)).trans h
end Go.Proofs.Ytmbpehhbfbmacaa
