/- Proved here: over plain lists: what is read of what is made is the same. No condition. -/
import Derived.Test.YtphnapnmeidgkaaIe
import Derived.Test.YtphnapnmeidgkaaIc
namespace Go.Proofs.Ytphnapnmeidgkaa
open Go.RowKit

theorem n2_byt {l : List UInt8} {a m : Nat} (h : piece l a 2 = byt 2 m) (hm : m < 65536) : n2 l a = m := by
  unfold n2
  rw [h, byt_bv 2 m hm]
theorem n4_byt {l : List UInt8} {a m : Nat} (h : piece l a 4 = byt 4 m) (hm : m < 4294967296) : n4 l a = m := by
  unfold n4
  rw [h, byt_bv 4 m hm]
/-- A piece behind so many bytes. -/
theorem piece_mid (x y z : List UInt8) (a n : Nat) (ha : x.length = a) (hn : y.length = n) : piece (x ++ y ++ z) a n = y := by
  unfold piece
  rw [List.append_assoc, ← ha, List.drop_left, ← hn, List.take_left]
theorem lgN_lt (b : Bool) : lgN b < 65536 := by cases b <;> decide
theorem dHead_len (h : Hd) : (dHead h).length = 54 := by unfold dHead; simp [byt_len, zs_len]
theorem dHhea_len (h : Hd) : (dHhea h).length = 36 := by unfold dHhea; simp [byt_len, zs_len]
theorem dMaxp_len (h : Hd) : (dMaxp h).length = 32 := by unfold dMaxp; simp [byt_len, zs_len]
theorem head_0 (h : Hd) : n4 (dHead h) 0 = 65536 := by
  refine n4_byt ?_ (by decide)
  have e : dHead h = [] ++ byt 4 65536 ++ (zs 8 ++ byt 4 1594834165 ++ zs 2 ++ byt 2 (w16 h.em) ++ zs 30 ++ byt 2 (lgN h.lg) ++ zs 2) := by unfold dHead; simp only [List.append_assoc, List.nil_append]
  rw [e]; exact piece_mid _ _ _ _ _ rfl (byt_len 4 _)
theorem head_12 (h : Hd) : n4 (dHead h) 12 = 1594834165 := by
  refine n4_byt ?_ (by decide)
  have e : dHead h = (byt 4 65536 ++ zs 8) ++ byt 4 1594834165 ++ (zs 2 ++ byt 2 (w16 h.em) ++ zs 30 ++ byt 2 (lgN h.lg) ++ zs 2) := by unfold dHead; simp only [List.append_assoc]
  rw [e]; exact piece_mid _ _ _ _ _ (by simp [byt_len, zs_len]) (byt_len 4 _)
theorem head_18 (h : Hd) : n2 (dHead h) 18 = w16 h.em := by
  refine n2_byt ?_ (w16_lt _)
  have e : dHead h = (byt 4 65536 ++ zs 8 ++ byt 4 1594834165 ++ zs 2) ++ byt 2 (w16 h.em) ++ (zs 30 ++ byt 2 (lgN h.lg) ++ zs 2) := by unfold dHead; simp only [List.append_assoc]
  rw [e]; exact piece_mid _ _ _ _ _ (by simp [byt_len, zs_len]) (byt_len 2 _)
theorem head_50 (h : Hd) : n2 (dHead h) 50 = lgN h.lg := by
  refine n2_byt ?_ (lgN_lt _)
  have e : dHead h = (byt 4 65536 ++ zs 8 ++ byt 4 1594834165 ++ zs 2 ++ byt 2 (w16 h.em) ++ zs 30) ++ byt 2 (lgN h.lg) ++ zs 2 := by unfold dHead; simp only [List.append_assoc]
  rw [e]; exact piece_mid _ _ _ _ _ (by simp [byt_len, zs_len]) (byt_len 2 _)
theorem head_52 (h : Hd) : n2 (dHead h) 52 = 0 := by
  refine n2_byt ?_ (by decide)
  have e : dHead h = (byt 4 65536 ++ zs 8 ++ byt 4 1594834165 ++ zs 2 ++ byt 2 (w16 h.em) ++ zs 30 ++ byt 2 (lgN h.lg)) ++ byt 2 0 ++ [] := by unfold dHead; simp only [List.append_nil]; rfl
  rw [e]; exact piece_mid _ _ _ _ _ (by simp [byt_len, zs_len]) (byt_len 2 _)
theorem hhea_0 (h : Hd) : n4 (dHhea h) 0 = 65536 := by
  refine n4_byt ?_ (by decide)
  have e : dHhea h = [] ++ byt 4 65536 ++ (byt 2 (w16 h.a1) ++ byt 2 (w16 h.a2) ++ byt 2 (w16 h.a3) ++ zs 24 ++ byt 2 (w16 h.me)) := by unfold dHhea; simp only [List.append_assoc, List.nil_append]
  rw [e]; exact piece_mid _ _ _ _ _ rfl (byt_len 4 _)
theorem hhea_4 (h : Hd) : n2 (dHhea h) 4 = w16 h.a1 := by
  refine n2_byt ?_ (w16_lt _)
  have e : dHhea h = byt 4 65536 ++ byt 2 (w16 h.a1) ++ (byt 2 (w16 h.a2) ++ byt 2 (w16 h.a3) ++ zs 24 ++ byt 2 (w16 h.me)) := by unfold dHhea; simp only [List.append_assoc]
  rw [e]; exact piece_mid _ _ _ _ _ (by simp [byt_len]) (byt_len 2 _)
theorem hhea_6 (h : Hd) : n2 (dHhea h) 6 = w16 h.a2 := by
  refine n2_byt ?_ (w16_lt _)
  have e : dHhea h = (byt 4 65536 ++ byt 2 (w16 h.a1)) ++ byt 2 (w16 h.a2) ++ (byt 2 (w16 h.a3) ++ zs 24 ++ byt 2 (w16 h.me)) := by unfold dHhea; simp only [List.append_assoc]
  rw [e]; exact piece_mid _ _ _ _ _ (by simp [byt_len]) (byt_len 2 _)
theorem hhea_8 (h : Hd) : n2 (dHhea h) 8 = w16 h.a3 := by
  refine n2_byt ?_ (w16_lt _)
  have e : dHhea h = (byt 4 65536 ++ byt 2 (w16 h.a1) ++ byt 2 (w16 h.a2)) ++ byt 2 (w16 h.a3) ++ (zs 24 ++ byt 2 (w16 h.me)) := by unfold dHhea; simp only [List.append_assoc]
  rw [e]; exact piece_mid _ _ _ _ _ (by simp [byt_len]) (byt_len 2 _)
theorem hhea_32 (h : Hd) : n2 (dHhea h) 32 = 0 := by
  refine n2_byt ?_ (by decide)
  have e : dHhea h = (byt 4 65536 ++ byt 2 (w16 h.a1) ++ byt 2 (w16 h.a2) ++ byt 2 (w16 h.a3) ++ zs 22) ++ byt 2 0 ++ byt 2 (w16 h.me) := by
    unfold dHhea
    rw [show zs 24 = zs 22 ++ byt 2 0 from by decide +kernel]
    simp only [List.append_assoc]
  rw [e]; exact piece_mid _ _ _ _ _ (by simp [byt_len, zs_len]) (byt_len 2 _)
theorem hhea_34 (h : Hd) : n2 (dHhea h) 34 = w16 h.me := by
  refine n2_byt ?_ (w16_lt _)
  have e : dHhea h = (byt 4 65536 ++ byt 2 (w16 h.a1) ++ byt 2 (w16 h.a2) ++ byt 2 (w16 h.a3) ++ zs 24) ++ byt 2 (w16 h.me) ++ [] := by unfold dHhea; simp only [List.append_assoc, List.append_nil]
  rw [e]; exact piece_mid _ _ _ _ _ (by simp [byt_len, zs_len]) (byt_len 2 _)
theorem maxp_0 (h : Hd) : n4 (dMaxp h) 0 = 65536 := by
  refine n4_byt ?_ (by decide)
  have e : dMaxp h = [] ++ byt 4 65536 ++ (byt 2 (w16 h.gl) ++ zs 26) := by unfold dMaxp; simp only [List.append_assoc, List.nil_append]
  rw [e]; exact piece_mid _ _ _ _ _ rfl (byt_len 4 _)
theorem maxp_4 (h : Hd) : n2 (dMaxp h) 4 = w16 h.gl := by
  refine n2_byt ?_ (w16_lt _)
  have e : dMaxp h = byt 4 65536 ++ byt 2 (w16 h.gl) ++ zs 26 := rfl
  rw [e]; exact piece_mid _ _ _ _ _ (byt_len 4 _) (byt_len 2 _)
theorem find_1 (h : Hd) : findL (mkL h) tHead = (dHead h, true) := rfl
theorem find_2 (h : Hd) : findL (mkL h) tMaxp = (dMaxp h, true) := rfl
theorem find_3 (h : Hd) : findL (mkL h) tHhea = (dHhea h, true) := rfl
/-- What is made is read as it was. -/
theorem back (h : Hd) (hm : MayP h) : PE (mkL h) = 0 ∧ PH (mkL h) = h := by
  obtain ⟨⟨m1, m2⟩, ⟨m3, m4⟩, ⟨m5, m6⟩, ⟨m7, m8⟩, ⟨m9, m10⟩, ⟨m11, m12⟩⟩ := hm
  have v1 := w16_pos (n := h.em) (by omega) (by omega)
  have v2 := w16_pos (n := h.gl) (by omega) (by omega)
  have v3 := w16_pos (n := h.me) (by omega) (by omega)
  have hl : lgN h.lg ≤ 1 := by unfold lgN; split <;> omega
  have z1 : e1 (mkL h) = 0 := by
    unfold e1
    rw [find_1, if_pos rfl]
    unfold headE
    rw [dHead_len, head_0, head_12, head_18, head_50, head_52, if_neg (by decide), if_pos (by omega)]
  have z2 : e2 (mkL h) = 0 := by
    unfold e2
    rw [find_2, if_pos rfl]
    unfold maxpE
    rw [dMaxp_len, maxp_0, maxp_4, if_neg (by decide), if_pos (by omega), if_neg (by omega)]
  have z3 : e3 (mkL h) = 0 := by
    unfold e3
    rw [find_3, find_2, if_pos rfl]
    unfold hheaE
    rw [dHhea_len, hhea_0, hhea_32, hhea_34, maxp_4, if_neg (by decide), if_pos (by omega)]
  obtain ⟨p1, p2⟩ := pe_4 z1 z2 z3
  refine ⟨p1, ?_⟩
  rw [p2]
  unfold full h3 h2 h1
  rw [find_1, find_2, find_3]
  simp only
  rw [head_18, head_50, hhea_4, hhea_6, hhea_8, hhea_34, maxp_4, v1, v2, v3, sg_w16 m7 m8, sg_w16 m9 m10, sg_w16 m11 m12]
  cases h with
  | mk em lg gl me a1 a2 a3 => cases lg <;> rfl
end Go.Proofs.Ytphnapnmeidgkaa
