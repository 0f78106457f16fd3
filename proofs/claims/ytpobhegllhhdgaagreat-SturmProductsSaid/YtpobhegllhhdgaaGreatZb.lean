/- Proved here: fractions as keys of a map of ints that the call makes, and one of its numbers that is raised, in any order of the two looks. No condition. -/
import Derived.Test.YtpobhegllhhdgaaGreatVC
import Derived.Maps.OwnOps
import Derived.Maps.OwnSet
import Derived.Maps.RangeWalk
import Derived.DeepKeys4
import Derived.WideKeyEntry
namespace Go.Proofs.YtpobhegllhhdgaaGreat
open Go.RowKit Go.Maps Go.MapKept Go.WideMaps Go.WideElems Go.ChangeMaps

theorem rowK : (24 : TypeId) < Tryz.prog.types.size := of_decide_eq_true (by kernel_rfl)
theorem wideK : (match Tryz.prog.underlying 24 with | some (.array _ _) | some (.struct _) => true | _ => false) = true := by kernel_rfl
theorem laidK : laidOutB Tryz.prog = true := by kernel_rfl
theorem deepK : Tryz.prog.keyTypeAt 3 24 = true := by kernel_rfl
set_option maxRecDepth 100000 in
theorem keyK : KeyLaw Tryz.prog 24 := deep_law_laid laidK (m := 3) (by decide) rowK deepK wideK
theorem lawK : Keyed Tryz.prog 24 := Keyed.of_law keyK
theorem zeroK (w : World) : (zeroValue 3).run Tryz.prog w = .ok (.int .i64 0) w := by kernel_rfl
section
variable {H : Type} {P : Program} {w : World} {t k e : TypeId} {b n : Nat} {D : DataW H}
theorem entry_own {q : IntKind} (K : KeyLaw P k) (ht : P.underlying t = some (.map k e)) (he : P.underlying e = some (.int q)) (hz : ∀ u : World, (zeroValue e).run P u = .ok (.int q 0) u)
    (hown : w.ownsMap P k (plainElem P e) b n D) (hn : n < maxLen) {key : Value} {kl : Lit} (hkey : keyOf P k key = some kl) :
    ∃ (c : Int) (st : Nat) (w1 : World), (Instr.lookup t (.map (some b)) key false).run P w = .ok (.int q c) w ∧ D.atKey kl (.lit (.int q 0)) = .lit (.int q c) ∧ (Lit.int q c).wf = true ∧
      (Instr.mapEntry t (.map (some b)) key).run P w = .ok (.tuple #[.int q c, goInt st]) w1 ∧ (Instr.lookup t (.map (some b)) key false).run P w1 = .ok (.int q c) w1 ∧ w.grownBy w1 (some b) ∧
      ∀ v : Int, (Lit.int q v).wf = true → ∃ w2, (Instr.entryStore t (.map (some b)) (goInt st) (.int q v)).run P w1 = .ok () w2 ∧ w2.ownsMap P k (plainElem P e) b (n + 1) (D.put kl (.lit (.int q v))) ∧ w.grownBy w2 (some b) := by
  have hw0 : (Lit.int q 0).wf = true := by cases q <;> decide
  obtain ⟨c, hl, hat, hwc⟩ := hown.lookup_int (Keyed.of_law K) ht he (hz w) hkey
  obtain ⟨es, clock, hb, F, hs, hD⟩ := id hown
  obtain ⟨v0, st, es1, clock1, hE, _, hS⟩ := entry_then_store (R := plainElem (H := H) P e) K ht hz hb F hkey
  have hkey2 : ∃ n1 D1, (setBlock w b (.map es1 clock1)).ownsMap P k (plainElem (H := H) P e) b n1 D1 ∧ D1.atKey kl (.lit (.int q 0)) = .lit (.int q c) ∧ v0 = .int q c := by
    rcases K.find w hkey es.toList F.keys with ⟨h1, h2⟩ | ⟨j, e0, h1, h2, h3⟩
    · have hr : (Instr.mapEntry t (.map (some b)) key).run P w = .ok (.tuple #[.int q 0, goInt clock]) (setBlock w b (.map (es.push ⟨key, .int q 0, clock⟩) (clock + 1))) := by
        simp [Instr.mapEntry, run_underlying ht, MapKept.run_getObj_map hb, K.check w false hkey, h1, hz, MapKept.run_setObj_map _ hb, Result.andThen, setBlock]
      have hu : (Instr.mapUpdate t (.map (some b)) key (.int q 0)).run P w = .ok () (setBlock w b (.map (es.push ⟨key, .int q 0, clock⟩) (clock + 1))) := by
        simp [Instr.mapUpdate, run_underlying ht, MapKept.run_getObj_map hb, K.check w false hkey, h1, MapKept.run_setObj_map _ hb, Result.andThen, setBlock]
      have hl0 : (Instr.lookup t (.map (some b)) key false).run P w = .ok (.int q 0) w := by
        simp [Instr.lookup, run_underlying ht, MapKept.run_getObj_map hb, K.check w _ hkey, h1, hz, Result.andThen]
      rw [hl0] at hl
      injection hl with e1 e2
      injection e1 with e3 e4
      subst e4
      rw [hr] at hE
      injection hE with e5 e6
      rw [← e6]
      obtain ⟨w', hu', ho', _⟩ := hown.update (Keyed.of_law K) ht hn hkey (plainElem_int he hw0)
      rw [hu] at hu'
      injection hu' with _ e7
      rw [← e7] at ho'
      refine ⟨_, _, ho', ?_, ?_⟩
      · exact atKey_put_same hown.isMap ((Keyed.of_law K).key hkey) _ _
      · injection e5 with e8
        simpa using (congrArg (fun l : Array Value => l.getD 0 undef) e8).symm
    · have hj : es[j]? = some e0 := by simpa using h2
      have hsame : es.modify j (fun e => { e with key := key }) = es := by
        apply Array.ext'
        rw [Array.toList_modify, modify_eq_set _ _ _ _ h2]
        have : ({ e0 with key := key } : MapEntry) = e0 := by rw [← h3]
        rw [this]
        exact set_self _ _ _ h2
      have hr : (Instr.mapEntry t (.map (some b)) key).run P w = .ok (.tuple #[e0.val, goInt e0.born]) (setBlock w b (.map es clock)) := by
        simp [Instr.mapEntry, run_underlying ht, MapKept.run_getObj_map hb, K.check w false hkey, h1, hj, h3, K.stays w hkey, hsame, MapKept.run_setObj_map _ hb, Result.andThen, setBlock]
      have hl0 : (Instr.lookup t (.map (some b)) key false).run P w = .ok e0.val w := by
        simp [Instr.lookup, run_underlying ht, MapKept.run_getObj_map hb, K.check w _ hkey, h1, Result.andThen]
      rw [hl0] at hl
      injection hl with e1 e2
      rw [hr] at hE
      injection hE with e5 e6
      rw [← e6]
      refine ⟨es.size, D, ⟨es, clock, heap_setBlock_same hb _, F, Nat.le_refl _, hD⟩, hat, ?_⟩
      rw [← e1]
      injection e5 with e8
      simpa using (congrArg (fun l : Array Value => l.getD 0 undef) e8).symm
  obtain ⟨n1, D1, ho1, hat1, hv0⟩ := hkey2
  obtain ⟨c1, hl1, hc1, _⟩ := ho1.lookup_int (Keyed.of_law K) ht he (hz _) hkey
  rw [hat1] at hc1
  have hcc : c1 = c := by injection hc1 with e1; injection e1 with _ e2; exact e2.symm
  subst hcc
  rw [hv0] at hE
  have hg : ∀ x y, w.grownBy (setBlock w b (.map x y)) (some b) := fun x y => ⟨rfl, rfl, rfl, by simp [setBlock], fun i _ hi => heap_setBlock_other hb _ (fun e => hi (by rw [e]))⟩
  refine ⟨c1, st, _, hl, hat, hwc, hE, hl1, hg _ _, fun v hwv => ?_⟩
  obtain ⟨es', clock', hst, hup⟩ := hS (setBlock w b (.map es1 clock1)) (.int q v) (heap_setBlock_same hb _)
  obtain ⟨w', hu', ho', hg'⟩ := hown.update (Keyed.of_law K) ht hn hkey (plainElem_int he hwv)
  have e1 : setBlock (setBlock w b (.map es1 clock1)) b (.map es' clock') = setBlock w b (.map es' clock') := by
    simp [setBlock]
  rw [e1] at hst
  rw [hup] at hu'
  injection hu' with _ e2
  rw [← e2] at ho' hg'
  exact ⟨_, hst, ho', hg'⟩
end
end Go.Proofs.YtpobhegllhhdgaaGreat
