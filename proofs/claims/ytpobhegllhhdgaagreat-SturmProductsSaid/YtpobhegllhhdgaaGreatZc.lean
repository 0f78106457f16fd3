/- Proved here: each fraction is a key of its own. Condition: numbers of 64 bits. -/
import Derived.Test.YtpobhegllhhdgaaGreatZb
import Derived.Test.YtpobhegllhhdgaaGreatTa
namespace Go.Proofs.YtpobhegllhhdgaaGreat
open Go.RowKit Go.Maps

/-- A fraction's value, and its key. -/
def fv (e : Int × Int) : Value := .agg #[.int .i64 e.1, .int .i64 e.2]
noncomputable def kf (e : Int × Int) : Lit := (keyOf Tryz.prog 24 (fv e)).getD (.bool false)
theorem keyType24 : Tryz.prog.keyTypeAt (Tryz.prog.types.size + 1) 24 = true := by kernel_rfl
theorem cells24 : Tryz.prog.cellsOf 24 = 2 := by kernel_rfl
set_option maxRecDepth 100000 in
theorem kf_is {e : Int × Int} (h1 : Fit e.1) (h2 : Fit e.2) : keyOf Tryz.prog 24 (fv e) = some (kf e) := by
  have wn : (Lit.int .i64 e.1).wf = true := WalkArith.wf_i64 ⟨h1.1, h1.2⟩
  have wd : (Lit.int .i64 e.2).wf = true := WalkArith.wf_i64 ⟨h2.1, h2.2⟩
  have hT := ratio_reads (enc := fun _ => ()) e.1 e.2 wn wd default (fun _ => true)
  have hf : (fv e).formed Tryz.prog 24 = true := by simp [fv, Value.formed, Tryz.underlying24, cells24]
  have := (keyOf_asKey keyType24 wideK hf hT).1
  unfold kf
  rw [this]
  rfl
theorem kf_inj {e f : Int × Int} (h1 : Fit e.1) (h2 : Fit e.2) (h3 : Fit f.1) (h4 : Fit f.2) (h : kf e = kf f) : e = f := by
  have q1 := kf_is h1 h2
  have q2 := kf_is h3 h4
  rw [← h] at q2
  have := lawK.inj q1 q2
  unfold fv at this
  simp at this
  exact Prod.ext this.1 this.2
end Go.Proofs.YtpobhegllhhdgaaGreat
