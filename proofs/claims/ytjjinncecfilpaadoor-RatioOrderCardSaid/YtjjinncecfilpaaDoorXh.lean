/- Proved here: what the document's Text of layer 3 answers. Condition: numbers of 64 bits. -/
import Derived.Test.YtjjinncecfilpaaDoorXf
import Derived.Test.YtjjinncecfilpaaDoorGF
namespace Go.Proofs.YtjjinncecfilpaaDoor
open Go.RowKit
open Go.Lib (decDigits nDigits)

theorem txt_len (n : Int) (hn : Fit n) : (txt n).length ≤ 21 := by
  have h1 : nDigits n.natAbs ≤ 20 := nd_le n.natAbs 4 (by decide) (by have := hn.1; have := hn.2; omega)
  unfold txt
  split
  · rw [List.length_cons, Lib.decDigits_length]; omega
  · rw [Lib.decDigits_length]; omega
/-- A fraction's text. -/
def rtxt (n d : Int) : List UInt8 := if d = 1 then txt n else txt n ++ 47 :: txt d
theorem numtext_any (n : Int) (S : ByteArray) (hS : S = ⟨(txt n).toArray⟩) (Z : Value) (w : World) (h : NumC w Z n 4) : Calls Tryd.prog 55 #[Z] w fun e w' => e = .returned (.string S) ∧ Below w.heap.size w w' := by
  subst hS
  exact rtext_any Z n 4 w h (by decide)
theorem join_txt (a b : List UInt8) : ((⟨a.toArray⟩ : ByteArray) ++ ⟨#[47]⟩) ++ (⟨b.toArray⟩ : ByteArray) = ⟨(a ++ 47 :: b).toArray⟩ := by
  apply str_of
  simp
set_option maxHeartbeats 1000000 in
theorem rttext_any (n d : Int) (w : World) (hn : Fit n) (hd : Fit d) : Calls Tryd.prog 29 #[.agg #[.int .i64 n, .int .i64 d]] w fun e w' => e = .returned (.string ⟨(rtxt n d).toArray⟩) ∧ Below w.heap.size w w' := by
  have HB := Lib.hid (And.intro (Rt.new w n d) (bel_a w (.cells #[.int .i64 n, .int .i64 d] 24)))
  have f1 := HB.out.1.c0
  have f2 := HB.out.1.c1
  have HON := Lib.hid (fun W => rof_any n W hn.1 hn.2)
  have HOD := Lib.hid (fun W => rof_any d W hd.1 hd.2)
  obtain ⟨S, hS⟩ : ∃ S : ByteArray, S = ⟨(txt n).toArray⟩ := ⟨_, rfl⟩
  obtain ⟨T, hT⟩ : ∃ T : ByteArray, T = ⟨(txt d).toArray⟩ := ⟨_, rfl⟩
  have hSl : S.size ≤ 21 := by rw [hS]; exact txt_len n hn
  have hTl : T.size ≤ 21 := by rw [hT]; exact txt_len d hd
  have HS := Lib.hid (numtext_any n S hS)
  have HT := Lib.hid (numtext_any d T hT)
  have HE := Lib.hid (And.intro hS hT)
  clear hn hd hS hT
  by_cases h1 : d = 1
  · have hb : (d == 1) = true := by simp [h1]
    have HR := Lib.hid (show (⟨(rtxt n d).toArray⟩ : ByteArray) = S by unfold rtxt; rw [if_pos h1, HE.out.1])
    rw [HR.out]
    clear h1
    go_enter Tryd.func29, Tryd.ntmps29
    go_wp2_with (first
      | (go_at_call 51; (with_reducible refine (HON.out _).mono ?_); rintro e w1 ⟨Z1, rfl, hz, hb1⟩; have HZ1 := Lib.hid hz; have HB := Lib.hid (And.intro (HB.out.1.bel hb1) (bel_tr HB.out.2 hb1)); clear hz hb1)
      | (go_at_call 55; (with_reducible refine (HS.out _ _ HZ1.out).mono ?_); rintro e w2 ⟨rfl, hb1⟩; have HB := Lib.hid (And.intro (HB.out.1.bel hb1) (bel_tr HB.out.2 hb1)); clear f1 f2 hb1; have f1 := HB.out.1.c0; have f2 := HB.out.1.c1))
    go_ret
    exact ⟨rfl, HB.out.2⟩
  · have hb : (d == 1) = false := by simp [h1]
    have HR := Lib.hid (show (⟨(rtxt n d).toArray⟩ : ByteArray) = (S ++ ⟨#[47]⟩) ++ T by unfold rtxt; rw [if_neg h1, HE.out.1, HE.out.2, join_txt])
    rw [HR.out]
    clear h1
    go_enter Tryd.func29, Tryd.ntmps29
    go_wp2_with (first
      | (go_at_call 51; (with_reducible refine (HON.out _).mono ?_); rintro e w1 ⟨Z1, rfl, hz, hb1⟩; have HZ1 := Lib.hid hz; have HB := Lib.hid (And.intro (HB.out.1.bel hb1) (bel_tr HB.out.2 hb1)); clear hz hb1)
      | (go_at_call 55; (with_reducible refine (HS.out _ _ HZ1.out).mono ?_); rintro e w2 ⟨rfl, hb1⟩; have HB := Lib.hid (And.intro (HB.out.1.bel hb1) (bel_tr HB.out.2 hb1)); clear f1 f2 hb1; have f1 := HB.out.1.c0; have f2 := HB.out.1.c1)
      | (go_at_call 51; (with_reducible refine (HOD.out _).mono ?_); rintro e w3 ⟨Z2, rfl, hz, hb1⟩; have HZ2 := Lib.hid hz; have HB := Lib.hid (And.intro (HB.out.1.bel hb1) (bel_tr HB.out.2 hb1)); clear hz hb1)
      | (go_at_call 55; (with_reducible refine (HT.out _ _ HZ2.out).mono ?_); rintro e w4 ⟨rfl, hb1⟩; have HB := Lib.hid (And.intro (HB.out.1.bel hb1) (bel_tr HB.out.2 hb1)); clear hb1))
    go_ret
    exact ⟨rfl, HB.out.2⟩
end Go.Proofs.YtjjinncecfilpaaDoor
