/- Proved here: what the reference package's Scale answers and leaves in memory. Condition: numbers of 64 bits. -/
import Derived.Test.YtmhpfmhpilmfdaaDoorRn
import Derived.Test.YtmhpfmhpilmfdaaDoorRl
namespace Go.Proofs.YtmhpfmhpilmfdaaDoor
open Go.RowKit

theorem sb_post {w W : World} {a b x h l : Nat} {c : Int} (hs : SB w W a b) (hf : FitR x h l c) :
    FitE x w (.returned (.tuple #[.agg #[.int .u64 (h : Int), .int .u64 (l : Int)], .int .i64 c])) ((W.setCell ⟨w.heap.size + 1, 0, none⟩ (.int .u64 (h : Int))).setCell ⟨w.heap.size + 1, 1, none⟩ (.int .u64 (l : Int))) :=
  ⟨h, l, c, rfl, hf, (hs.2.2.setCell (p := ⟨w.heap.size + 1, 0, none⟩) (by simp) _).setCell (p := ⟨w.heap.size + 1, 1, none⟩) (by simp) _⟩
set_option maxHeartbeats 2000000 in
set_option maxRecDepth 100000 in
theorem rscale_any (a b n : Nat) (w : World) (ha : a < 18446744073709551616) (hb : b < 18446744073709551616) (hn : n < 18446744073709551616) :
    Calls Tryd.prog 13 #[.agg #[.int .u64 (a : Int), .int .u64 (b : Int)], .int .u64 (n : Int)] w (FitE (numW a b * n) w) := by
  have HA := Lib.hid (And.intro ha (And.intro hb hn))
  have HS := Lib.hid (SB.start w a b)
  clear ha hb hn
  go_enter Tryd.func13, Tryd.ntmps13
  go_wp2_with (first
    | (go_at_call 24; (with_reducible refine (digits_num a b _ HA.out.1 HA.out.2.1).mono ?_); rintro e wa ⟨za, rfl, hna, hba⟩; have HNa := Lib.hid hna; have HSa := Lib.hid (HS.out.next hba); clear hna hba)
    | (go_at_call 24; (with_reducible refine (digits_lo n _ HA.out.2.2).mono ?_); rintro e wb ⟨zb, rfl, hnb, hbb⟩; have HNb := Lib.hid hnb; have HNab := Lib.hid (HNa.out.below hbb (Nat.le_refl _)); have HSb := Lib.hid (HSa.out.next hbb); clear hnb hbb)
    | (go_at_call 32; (with_reducible refine (times_num za zb _ n wb HNab.out HNb.out).mono ?_); rintro e wc ⟨zc, rfl, hnc, hbc⟩; have HNc := Lib.hid hnc; have HSc := Lib.hid (HSb.out.next hbc); clear hnc hbc)
    | (go_at_call 28; (with_reducible refine (fit_num zc _ 17 wc HNc.out (by decide)).mono ?_); rintro e wd ⟨h4, l4, c4, rfl, hf4, hbd⟩; have HF := Lib.hid hf4; have HSd := Lib.hid (HSc.out.next hbd); have f1 := HSd.out.2.1.c0; have f2 := HSd.out.2.1.c1; have f3 := HSd.out.2.1.fr 0; have f4 := HSd.out.2.1.fr 1; have l1 := HSd.out.2.1.lt; clear hf4 hbd))
  exact bodyPost_ret (v := .tuple #[.agg #[.int .u64 (h4 : Int), .int .u64 (l4 : Int)], .int .i64 c4]) (ret_box2 rfl rfl rfl ((HSd.out.2.1.set0 h4).set1 l4)) rfl (sb_post HSd.out HF.out)
end Go.Proofs.YtmhpfmhpilmfdaaDoor
