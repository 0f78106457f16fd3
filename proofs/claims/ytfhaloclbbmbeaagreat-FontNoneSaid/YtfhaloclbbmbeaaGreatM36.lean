/- Proved here: what stands in memory while the document goes to the parts of glyphs. No condition · what stands in memory while the document goes to a glyph's parts; facts for its walk. No condition · is a number in a list (slices.Contains); how many contours and points are too many (room). Condition: lists that lie in memory · what the document's Go answers: a glyph's outline, in those that it is in. Condition: shapes that may be and lie elsewhere than the one who goes · what the document's Outline, Depth and Same answer. Condition: shapes that lie in memory, within limits · what the document's Same answers of shapes and themselves. Condition: shapes that lie in memory, within limits · what the document's. -/
import Derived.Test.YtfhaloclbbmbeaaGreatM35
import Derived.Deep.RegionHeld3
import Derived.Test.YtfhaloclbbmbeaaGreatM26
import Derived.Test.YtfhaloclbbmbeaaGreatM30
namespace Go.Proofs.YtfhaloclbbmbeaaGreat
open Go.RowKit
namespace N15
section
variable {gb : Nat} {w w' W : World}
theorem onl_cell (ho : Onl gb w w') {a : Addr} (h1 : a.block < w.heap.size) (h2 : a.block ≠ gb) : w'.cell? a = w.cell? a := World.cell?_of_block (ho.block _ h1 h2)
theorem Ptl.onl_ {B : Option Addr} {n : Nat} {L : List Pt} (h : Ptl w B n L) (hn : ∀ j, j < n → ∀ bd, B = some bd → bd.block ≠ gb) (ho : Onl gb w w') : Ptl w' B n L := ⟨h.len, fun i hi => by
  obtain ⟨ad, h1, h2, h3, h4, h5⟩ := h.get i hi
  have h6 := hn i hi ad h1
  have hc : ∀ k, w'.cell? (ad.add k) = w.cell? (ad.add k) := fun k => onl_cell ho (by rw [block_of_add]; exact h2) (by rw [block_of_add]; exact h6)
  exact ⟨ad, h1, Nat.lt_of_lt_of_le h2 ho.size, by rw [hc]; exact h3, by rw [hc]; exact h4, by rw [hc]; exact h5⟩⟩
def Gr (w : World) (gb : Nat) (A : Option Addr) (m c : Nat) (v : Int) (pl : Bool) : Prop := w.heap[gb]? = some (.cells #[.slice A m c, .int .i64 v, .bool pl] 244 (0, 0))
theorem Gr.lt {A : Option Addr} {m c : Nat} {v : Int} {pl : Bool} (h : Gr w gb A m c v pl) : gb < w.heap.size := heap_lt h
theorem Gr.cells {A : Option Addr} {m c : Nat} {v : Int} {pl : Bool} (h : Gr w gb A m c v pl) : w.cell? ⟨gb, 0, none⟩ = some (.slice A m c) ∧ w.cell? ⟨gb, 1, none⟩ = some (.int .i64 v) ∧ w.cell? ⟨gb, 2, none⟩ = some (.bool pl) :=
  ⟨cell_of_row w gb 0 _ 244 (0, 0) h, cell_of_row w gb 1 _ 244 (0, 0) h, cell_of_row w gb 2 _ 244 (0, 0) h⟩
theorem Gr.fr {A : Option Addr} {m c : Nat} {v : Int} {pl : Bool} (h : Gr w gb A m c v pl) (j : Nat) : w.frozen? ⟨gb, j, none⟩ = false := by
  unfold Gr at h
  simp [World.frozen?, h]
theorem Gr.bel {A : Option Addr} {m c : Nat} {v : Int} {pl : Bool} (h : Gr w gb A m c v pl) (hb : Below w.heap.size w w') : Gr w' gb A m c v pl := (hb.block gb h.lt).trans h
theorem Gr.set {A : Option Addr} {m c : Nat} {v : Int} {pl : Bool} (h : Gr w gb A m c v pl) (u : Int) : Gr (w.setCell ⟨gb, 1, none⟩ (.int .i64 u)) gb A m c u pl := by
  unfold Gr at h ⊢
  simp [World.setCell, Array.getElem?_modify, h]
theorem Gr.grown {A : Option Addr} {m c : Nat} {v : Int} {pl : Bool} {base e sz n : Nat} {u : Value} {xs : List Value} (h : Gr w gb A m c v pl) (ho : w.ownsRow base e sz u n xs) (he : 244 ≠ e) (hg : w.grownBy w' u.ownBlock) : Gr w' gb A m c v pl :=
  (hg.block gb h.lt (own_not ho h he)).trans h
theorem T39.ne {A : Option Addr} {m c : Nat} {v : Int} {pl : Bool} {B : Option Addr} (h : T39 w B) (k : Gr w gb A m c v pl) : ∀ bd, B = some bd → bd.block ≠ gb := fun bd hb e => by
  obtain ⟨cs, fr, h1⟩ := h bd hb
  rw [e, k] at h1
  injection h1 with h1
  injection h1 with _ h1 _
  exact absurd h1 (by decide)
theorem T39.onl {B : Option Addr} (h : T39 w B) (hn : ∀ bd, B = some bd → bd.block ≠ gb) (ho : Onl gb w w') : T39 w' B := fun ad e => by
  obtain ⟨c, fr, h1⟩ := h ad e
  exact ⟨c, fr, (ho.block _ (heap_lt h1) (hn ad e)).trans h1⟩
theorem Fo.onl {A : Option Addr} {m c : Nat} {v : Int} {pl : Bool} {k : Nat} {f : Nat → List Pt} {cs : List Value} (h : Fo w k f cs) (hg : Gr w gb A m c v pl) (ho : Onl gb w w') : Fo w' k f cs := ⟨h.len, fun i hi => by
  obtain ⟨B, c', h1, h2, h3⟩ := h.get i hi
  have hn := h3.ne hg
  exact ⟨B, c', h1, h2.onl_ (fun _ _ => hn) ho, h3.onl hn ho⟩⟩
end
end N15
def Src (w : World) (A : Option Addr) (m c : Nat) (news : List Value) : Prop := (A = none ∧ m = 0 ∧ c = 0 ∧ news = []) ∨ ∃ ad, A = some ad ∧ ∀ j u, news[j]? = some u → w.cell? (ad.add j) = some u
theorem own_src {w : World} {base e size n c : Nat} {A : Option Addr} {xs : List Value} (h : w.ownsRow base e size (.slice A n c) n xs) : Src w A n c xs := by
  rcases h.2 with ⟨h1, h2⟩ | ⟨g, cap, cur, h1, h3, h4, h5⟩
  · injection h1 with e1 e2 e3
    subst e1 e2 e3
    exact .inl ⟨rfl, rfl, rfl, by have := h.1; simpa using this⟩
  · injection h1 with e1 e2 e3
    subst e1 e3
    exact .inr ⟨_, rfl, fun j u hu => h.cells (by rfl) j u hu⟩
theorem Src.bel {w w' : World} {A : Option Addr} {m c : Nat} {news : List Value} (h : Src w A m c news) (hb : Below w.heap.size w w') : Src w' A m c news := by
  rcases h with h | ⟨ad, h1, h2⟩
  · exact .inl h
  · exact .inr ⟨ad, h1, fun j u hu => by
      have h3 := h2 j u hu
      exact (hb.cell (cell_lt h3)).trans h3⟩
theorem wpList_append_src {P : Program} (w : World) {ops : Array Oper} {rest : List Oper} {o : Oper} {a : Act} {Q : Exit → Act → World → Prop} (hgd : o.guard = none) (s x : Operand) (t : TypeId)
    (ho : o.op = .call { callee := .builtin .append, args := #[s, x], argTypes := #[t, t] })
    (base : Nat) (e : TypeId) (i : TypeInfo) (z : Value) (size bytes : Nat) (ht : P.underlying t = some (.slice e)) (hi : P.info? e = some i) (hz : i.zero = some z)
    (hsize : i.size = size) (hby : i.bytes = bytes) (hzs : z.cells.size = size) (hsz : 0 < size)
    (v : Value) (n : Nat) (xs : List Value) (hs : a.eval s = v) (hown : w.ownsRow base e size v n xs)
    (A : Option Addr) (m c : Nat) (news : List Value) (hx : a.eval x = .slice A m c) (hl : news.length = m * size) (hsrc : Src w A m c news) (h1 : ∀ u ∈ news, u.oneCell' = true)
    (h63 : n + m ≤ maxLen) (hbytes : (n + m) * bytes ≤ 140737488355328) (hbase : base ≤ w.heap.size)
    (h : ∀ v' w', w'.ownsRow base e size v' (n + m) (xs ++ news) → w.grownBy w' v.ownBlock → wpList P ops Q rest (a.put o.dst v') w') : wpList P ops Q (o :: rest) a w := by
  rcases hsrc with ⟨rfl, rfl, rfl, rfl⟩ | ⟨ad, rfl, hc⟩
  · refine wpList_plain hgd fun K hK => ?_
    have hr := run_append_owned_none (P := P) (w := w) base t o.type e i size ht hi v n xs hown
    unfold Oper.wp execOp
    simp only [ho, resolve, invoke, builtin, Sem.run_bind, Sem.run_pure, Result.andThen_ok, List.map_toArray, List.map_cons, List.map_nil, hs, hx, hr]
    exact hK _ _ (h v w (by rw [List.append_nil]; exact hown) ⟨rfl, rfl, rfl, Nat.le_refl _, fun _ _ _ => rfl⟩)
  · exact wpList_append_own w hgd s x t ho base e i z size bytes ht hi hz hsize hby hzs hsz v n xs hs hown ad m c news hx hl hc h1 h63 hbytes hbase fun v' w' h2 h3 _ => h v' w' h2 h3
end Go.Proofs.YtfhaloclbbmbeaaGreat
namespace Go.Proofs.YtfhaloclbbmbeaaGreat
open Go.RowKit
section
open N15 in
variable {gb : Nat} {w W W' : World} {A : Option Addr} {m c : Nat} {v : Int} {pl : Bool} {bs : Nat} {B : Option Addr} {n1 c1 : Nat} {B' : Option Addr} {n2 c2 : Nat} {An : Option Addr} {kn cn : Nat} {now : List Int} {Ao : Option Addr} {ko co : Nat} {out : List (List Pt)} {cs : List Value}
end
theorem ct_app (L M : List (List Pt)) (i : Nat) : ct (L ++ M) i = if i < L.length then ct L i else ct M (i - L.length) := by
  unfold ct
  rw [List.getD_eq_getElem?_getD, List.getD_eq_getElem?_getD, List.getD_eq_getElem?_getD]
  split
  · rename_i h; rw [List.getElem?_append_left h]
  · rename_i h; rw [List.getElem?_append_right (by omega)]
namespace N15
theorem Fo.app {W : World} {k k2 : Nat} {L M : List (List Pt)} {cs cs2 : List Value} (f : Fo W k (ct L) cs) (hl : L.length = k) (f2 : Fo W k2 (ct M) cs2) : Fo W (k + k2) (ct (L ++ M)) (cs ++ cs2) :=
  ⟨by rw [List.length_append, f.len, f2.len], fun i hi => by
    rw [ct_app]
    by_cases h : i < L.length
    · rw [if_pos h]
      obtain ⟨B, c, h1, h2⟩ := f.get i (by omega)
      exact ⟨B, c, by rw [List.getElem?_append_left (by rw [f.len]; omega)]; exact h1, h2⟩
    · rw [if_neg h]
      obtain ⟨B, c, h1, h2⟩ := f2.get (i - L.length) (by omega)
      exact ⟨B, c, by rw [List.getElem?_append_right (by rw [f.len]; omega), f.len, ← hl]; exact h1, h2⟩⟩
theorem Fo.one {W : World} {k : Nat} {f : Nat → List Pt} {cs : List Value} (h : Fo W k f cs) : ∀ u ∈ cs, u.oneCell' = true := by
  intro u hu
  obtain ⟨i, hi, rfl⟩ := List.getElem_of_mem hu
  obtain ⟨B, c, h1, _⟩ := h.get i (by rw [← h.len]; exact hi)
  rw [List.getElem?_eq_getElem hi] at h1
  injection h1 with h1
  rw [h1]
  rfl
theorem mem_co {x : Int} {xs : List Int} : x ∈ xs ↔ ∃ i, i < xs.length ∧ co xs i = x := by
  refine ⟨fun h => ?_, fun ⟨i, hi, h⟩ => ?_⟩
  · obtain ⟨i, hi, rfl⟩ := List.getElem_of_mem h
    exact ⟨i, hi, by simp [co, hi]⟩
  · rw [← h]
    simp [co, hi]
end N15
end Go.Proofs.YtfhaloclbbmbeaaGreat
namespace Go.Proofs.YtfhaloclbbmbeaaGreat
open Go.RowKit
namespace N15
set_option maxHeartbeats 4000000 in
set_option maxRecDepth 100000 in
theorem index_any (A : Option Addr) (n c : Nat) (xs : List Int) (x : Int) (w : World) (h : Il .i64 w A n xs) (hn : n ≤ 100000) :
    Calls Tryz.prog 302 #[.slice A n c, .int .i64 x] w fun e w' => (∃ r : Int, e = .returned (.int .i64 r) ∧ (0 ≤ r ↔ x ∈ xs)) ∧ Below w.heap.size w w' := by
  have hlen := h.len
  have HI := Lib.hid h
  have HM := Lib.hid (show x ∈ xs ↔ ∃ i, i < n ∧ co xs i = x from by rw [← hlen]; exact mem_co)
  clear hlen h
  go_enter Tryz.func302, Tryz.ntmps302
  go_wp2_with fail
  go_loopw [8] (fun v wr => ∃ i : Nat, v = .int .i64 (i : Int) ∧ i ≤ n ∧ (∀ j, j < i → co xs j ≠ x) ∧ Below w.heap.size w wr) (fun v _ => n - (intOf v).toNat)
  case atStart => exact ⟨0, rfl, Nat.zero_le _, fun j hj => by omega, Below.refl _ _⟩
  case round =>
    obtain ⟨i, rfl, hi, hno, hb⟩ := hrel
    have HB := Lib.hid hb
    by_cases hgo : i < n
    · obtain ⟨ad, rfl, d0⟩ := HI.out.at_ hb hgo
      have HS := Lib.hid (show co xs i ≠ x → ∀ j, j < i + 1 → co xs j ≠ x from all_succ hno)
      have HY := Lib.hid (show co xs i = x → x ∈ xs from fun h => HM.out.2 ⟨i, hgo, h⟩)
      obtain ⟨y, hy⟩ : ∃ y, y = co xs i := ⟨_, rfl⟩
      rw [← hy] at d0 HS HY
      clear hb hno hy
      by_cases he : x = y
      · have hm := Lib.hid (HY.out he.symm)
        have e1 : (x == y) = true := by simp [he]
        clear he
        go_wp2_with fail
        go_ret
        exact ⟨⟨(i : Int), rfl, fun _ => hm.out, fun _ => by omega⟩, HB.out⟩
      · have hm := Lib.hid (HS.out (fun h => he h.symm))
        have e1 : (x == y) = false := by simp [he]
        clear he
        go_wp2_with fail
        exact ⟨⟨i + 1, by simp, by omega, hm.out, HB.out⟩, by simp [intOf]; omega⟩
    · obtain rfl : i = n := by omega
      have hm := Lib.hid (show ¬ x ∈ xs from fun h => by obtain ⟨j, hj, h2⟩ := HM.out.1 h; exact hno j hj h2)
      clear hb hno
      go_wp2_with fail
      go_ret
      exact ⟨⟨-1, rfl, fun h => absurd h (by decide), fun h => absurd h hm.out⟩, HB.out⟩
set_option maxHeartbeats 4000000 in
theorem contains_any (A : Option Addr) (n c : Nat) (xs : List Int) (x : Int) (w : World) (h : Il .i64 w A n xs) (hn : n ≤ 100000) :
    Calls Tryz.prog 297 #[.slice A n c, .int .i64 x] w fun e w' => e = .returned (.bool (decide (x ∈ xs))) ∧ Below w.heap.size w w' := by
  have CI := Lib.hid (index_any A n c xs x w h hn)
  clear h
  go_enter Tryz.func297, Tryz.ntmps297
  go_wp2_with (go_at_call 302; (with_reducible refine CI.out.mono ?_); rintro e w1 ⟨⟨r, rfl, hr⟩, hb⟩; have HB := Lib.hid hb; have HR := Lib.hid hr; clear hb hr)
  go_ret
  exact ⟨by rw [← decide_eq_decide.2 HR.out]; rfl, HB.out⟩
end N15
def roE (LL : List (List Pt)) : Int := if 256 < LL.length ∨ 4096 < tots LL then 6 else 0
namespace N15
set_option maxHeartbeats 4000000 in
set_option maxRecDepth 100000 in
theorem room_any (A : Option Addr) (m c : Nat) (LL : List (List Pt)) (w : World) (hP : Ctl w A m LL) (hm : m ≤ 1000) (hl : ∀ i, i < m → (ct LL i).length ≤ 100000) :
    Calls Tryz.prog 260 #[.slice A m c] w fun e w' => e = .returned (.int .i64 (roE LL)) ∧ Below w.heap.size w w' := by
  have hlen := hP.len
  have HI := Lib.hid hP
  have HL := Lib.hid hl
  have HR := Lib.hid (show roE LL = if 256 < m ∨ 4096 < tot LL m then 6 else 0 from by unfold roE tots; rw [hlen])
  clear hP hl hlen
  go_enter Tryz.func260, Tryz.ntmps260
  go_wp2_with fail
  go_loopw [3, 8] (fun v i wr => ∃ k : Nat, i = .int .i64 (k : Int) ∧ k ≤ m ∧ v = .int .i64 (tot LL k : Int) ∧ tot LL k ≤ k * 100000 ∧ Below w.heap.size w wr) (fun _ i _ => m - (intOf i).toNat)
  case atStart => exact ⟨0, rfl, Nat.zero_le _, rfl, by simp [tot], Below.refl _ _⟩
  case round =>
    obtain ⟨k, rfl, hk, rfl, ht, hb⟩ := hrel
    by_cases hgo : k < m
    · obtain ⟨ad, B, c1, rfl, d0, _⟩ := HI.out.at_ hb hgo
      have HB := Lib.hid hb
      have hn := HL.out k hgo
      have HT := Lib.hid (show tot LL (k + 1) = tot LL k + (ct LL k).length from rfl)
      obtain ⟨n, hn1⟩ : ∃ n, n = (ct LL k).length := ⟨_, rfl⟩
      rw [← hn1] at d0 hn HT
      obtain ⟨t, ht1⟩ : ∃ t, t = tot LL k := ⟨_, rfl⟩
      rw [← ht1] at ht HT ⊢
      clear hb hn1 ht1
      go_wp2_with fail
      exact ⟨⟨k + 1, by simp, by omega, by rw [HT.out]; simp, by rw [HT.out]; omega, HB.out⟩, by simp [intOf]; omega⟩
    · obtain rfl : k = m := by omega
      have HB := Lib.hid hb
      obtain ⟨t, ht1⟩ : ∃ t, t = tot LL k := ⟨_, rfl⟩
      rw [← ht1] at ht HR ⊢
      clear hb ht1
      by_cases c1 : 256 < k
      · have e1 : decide (256 < (k : Int)) = true := decide_eq_true (by omega)
        rw [if_pos (.inl c1)] at HR
        clear ht
        go_wp2_with fail
        go_ret
        exact ⟨by rw [HR.out]; rfl, HB.out⟩
      · have e1 : decide (256 < (k : Int)) = false := decide_eq_false (by omega)
        by_cases c2 : 4096 < t
        · have e2 : decide (4096 < (t : Int)) = true := decide_eq_true (by omega)
          rw [if_pos (.inr c2)] at HR
          clear ht
          go_wp2_with fail
          go_ret
          exact ⟨by rw [HR.out]; rfl, HB.out⟩
        · have e2 : decide (4096 < (t : Int)) = false := decide_eq_false (by omega)
          rw [if_neg (fun h => h.elim c1 c2)] at HR
          clear ht
          go_wp2_with fail
          go_ret
          exact ⟨by rw [HR.out]; rfl, HB.out⟩
end N15
end Go.Proofs.YtfhaloclbbmbeaaGreat
namespace Go.Proofs.YtfhaloclbbmbeaaGreat
open Go.RowKit
namespace N15
theorem goL_nil (rec : Int → List Int → Int → GR) (pl : Bool) (now : List Int) (out : List (List Pt)) (d v : Int) : goL rec pl now [] out d v = (0, out, d, v) := rfl
theorem goL_cons (rec : Int → List Int → Int → GR) (pl : Bool) (now : List Int) (p : C.Prt) (r : List C.Prt) (out : List (List Pt)) (d v : Int) : goL rec pl now (p :: r) out d v =
    if p.1 ∈ now then (9, [], 0, v) else if 8 < now.length then (8, [], 0, v) else if 4096 < v + 1 then (6, [], 0, v + 1)
    else if (rec p.1 now (v + 1)).1 ≠ 0 then ((rec p.1 now (v + 1)).1, [], 0, (rec p.1 now (v + 1)).2.2.2)
    else if pl = true then goL rec pl now r out (max d ((rec p.1 now (v + 1)).2.2.1 + 1)) (rec p.1 now (v + 1)).2.2.2
    else if movE p (rec p.1 now (v + 1)).2.1 ≠ 0 then (movE p (rec p.1 now (v + 1)).2.1, [], 0, (rec p.1 now (v + 1)).2.2.2)
    else if 256 < (out ++ movL p (rec p.1 now (v + 1)).2.1).length ∨ 4096 < tots (out ++ movL p (rec p.1 now (v + 1)).2.1) then (6, [], 0, (rec p.1 now (v + 1)).2.2.2)
    else goL rec pl now r (out ++ movL p (rec p.1 now (v + 1)).2.1) (max d ((rec p.1 now (v + 1)).2.2.1 + 1)) (rec p.1 now (v + 1)).2.2.2 := by
  conv => lhs; unfold goL
end N15
end Go.Proofs.YtfhaloclbbmbeaaGreat
namespace Go.Proofs.YtfhaloclbbmbeaaGreat
open Go.RowKit
namespace N15
def okG15 (SS : List Shp) (G : Int) : Prop := MayS SS ∧ 0 ≤ G ∧ G < (SS.length : Int)
instance (SS : List Shp) (G : Int) : Decidable (okG15 SS G) := inferInstanceAs (Decidable (_ ∧ _))
def outA (SS : List Shp) (G : Int) : Int × List (List Pt) := if okG15 SS G then ((goP SS false 9 G [] 0).1, (goP SS false 9 G [] 0).2.1) else (1, [])
end N15
end Go.Proofs.YtfhaloclbbmbeaaGreat
namespace Go.Proofs.YtfhaloclbbmbeaaGreat
open Go.RowKit
namespace N15
theorem Shl.lt {w : World} {ad : Addr} {m : Nat} {SS : List Shp} (h : Shl w (some ad) m SS) {i : Nat} (hi : i < m) : ad.block < w.heap.size := by
  obtain ⟨ad', B, c, B', c', h1, h2, _⟩ := h.get i hi
  injection h1 with h1
  subst h1
  exact h2
end N15
end Go.Proofs.YtfhaloclbbmbeaaGreat
namespace Go.Proofs.YtfhaloclbbmbeaaGreat
open Go.RowKit
namespace N15
def seg (l : List UInt8) (ps : List Int) (i : Nat) : List UInt8 := piece l (co ps i).toNat (co ps (i + 1) - co ps i).toNat
def one (d : List UInt8) (G : Int) : Int × Shp := if C.isN d then ((C.PA d G).1, ([], (C.PA d G).2)) else ((prs d).1, ((prs d).2, []))
def pfL (l : List UInt8) (ps : List Int) (G : Int) : Nat → Nat → List Shp → Int × List Shp
  | 0, _, acc => (0, acc)
  | n + 1, i, acc => if (one (seg l ps i) G).1 ≠ 0 then ((one (seg l ps i) G).1, []) else pfL l ps G n (i + 1) (acc ++ [(one (seg l ps i) G).2])
def pv (ps : List Int) : Nat → Int
  | 0 => 0
  | i + 1 => co ps i
def okPl (l : List UInt8) (ps : List Int) : Prop := (2 ≤ ps.length ∧ ps.length ≤ 1025) ∧ ∀ i, i < ps.length → pv ps i ≤ co ps i ∧ co ps i ≤ (l.length : Int)
instance (l : List UInt8) (ps : List Int) : Decidable (okPl l ps) := inferInstanceAs (Decidable ((2 ≤ ps.length ∧ ps.length ≤ 1025) ∧ ∀ i, i < ps.length → pv ps i ≤ co ps i ∧ co ps i ≤ (l.length : Int)))
def PF (l : List UInt8) (ps : List Int) : Int × List Shp := if okPl l ps then pfL l ps ((ps.length : Int) - 1) (ps.length - 1) 0 [] else (1, [])
end N15
section
open N15 in
variable {w W W' : World} {v : Value} {k : Nat} {SS : List Shp} {cs : List Value}
end
namespace N15
def PlP (R : Int × List Shp) (w : World) (e : Ending) (w' : World) : Prop := ∃ A k c, e = .returned (.tuple #[.slice A k c, .int .i64 R.1]) ∧ Shl w' A k R.2 ∧ Below w.heap.size w w'
theorem plP_err {R : Int × List Shp} {w w' : World} {x : Int} (h : R = (x, [])) (hb : Below w.heap.size w w') : PlP R w (.returned (.tuple #[.slice none 0 0, .int .i64 x])) w' := by
  subst h
  exact ⟨none, 0, 0, rfl, ⟨rfl, fun i hi => by omega⟩, hb⟩
theorem Bs.fr {w : World} {b : Nat} {B B' : Option Addr} {n c n' c' : Nat} (h : Bs w b B n c B' n' c') (j : Nat) : w.frozen? ⟨b, j, none⟩ = false := by
  unfold Bs at h
  simp [World.frozen?, h]
theorem Bs.set0 {w : World} {b : Nat} {B B' : Option Addr} {n c n' c' : Nat} (h : Bs w b B n c B' n' c') (A : Option Addr) (k d : Nat) : Bs (w.setCell ⟨b, 0, none⟩ (.slice A k d)) b A k d B' n' c' := by
  unfold Bs at h ⊢
  simp [World.setCell, Array.getElem?_modify, h]
theorem Bs.set1 {w : World} {b : Nat} {B B' : Option Addr} {n c n' c' : Nat} (h : Bs w b B n c B' n' c') (A : Option Addr) (k d : Nat) : Bs (w.setCell ⟨b, 1, none⟩ (.slice A k d)) b B n c A k d := by
  unfold Bs at h ⊢
  simp [World.setCell, Array.getElem?_modify, h]
end N15
end Go.Proofs.YtfhaloclbbmbeaaGreat
namespace Go.Proofs.YtfhaloclbbmbeaaGreat
open Go.RowKit
def u2 (n : Int) : List UInt8 := byt 2 (n % 65536).toNat
def okS (d : Int) : Prop := -32768 ≤ d ∧ d ≤ 32767
instance (d : Int) : Decidable (okS d) := inferInstanceAs (Decidable (_ ∧ _))
end Go.Proofs.YtfhaloclbbmbeaaGreat
namespace Go.Proofs.YtfhaloclbbmbeaaGreat
open Go.RowKit
namespace N15
def okSt : Int → Int → List Pt → Prop
  | _, _, [] => True
  | a, b, p :: r => (okS (p.1 - a) ∧ okS (p.2.1 - b)) ∧ okSt p.1 p.2.1 r
instance decSt : ∀ (a b : Int) (P : List Pt), Decidable (okSt a b P)
  | _, _, [] => isTrue trivial
  | _, _, p :: r => @instDecidableAnd _ _ _ (decSt p.1 p.2.1 r)
end N15
end Go.Proofs.YtfhaloclbbmbeaaGreat
namespace Go.Proofs.YtfhaloclbbmbeaaGreat
open Go.RowKit
namespace N15
theorem unts_in (l : List UInt8) (sh sm : Nat) : ∀ (fl acc : List Int) (a : Nat) (z : Int), (∀ i, i < acc.length → okU (co acc i)) → ∀ i, i < (unts l sh sm fl acc a z).2.1.length → okU (co (unts l sh sm fl acc a z).2.1 i)
  | [], acc, a, z, h => by simpa [unts] using h
  | f :: r, acc, a, z, h => by
    simp only [unts]
    by_cases c1 : l.length < a + wid f sh sm
    · rw [if_pos c1]; intro i hi; exact absurd hi (by simp)
    · rw [if_neg c1]
      by_cases c2 : okU (z + stp l a f sh sm)
      · rw [if_pos c2]
        refine unts_in l sh sm r _ _ _ fun i hi => ?_
        rw [co_app]
        split
        · exact h i (by assumption)
        · rw [List.length_append] at hi
          have : i - acc.length = 0 := by have : i < acc.length + 1 := hi; omega
          rw [this]; exact c2
      · rw [if_neg c2]; intro i hi; exact absurd hi (by simp)
end N15
theorem cuts_ct {l : List UInt8} {P : List Pt} {n i : Nat} (h : i < n) : ct (cuts l P n) i = cutAt l P i := ct_gen h
theorem cuts_len (l : List UInt8) (P : List Pt) (n : Nat) : (cuts l P n).length = n := by simp [cuts]
theorem tot_frm {l : List UInt8} {P : List Pt} {n : Nat} (h : rise l n) (hP : P.length = frm l n) : ∀ k, k ≤ n → tot (cuts l P n) k = frm l k
  | 0, _ => rfl
  | k + 1, hk => by
    obtain ⟨h1, h2, h3⟩ := cutAt_len h (i := k) hk hP
    have ih := tot_frm h hP k (by omega)
    simp only [tot]
    rw [ih, cuts_ct hk, h1]
    show frm l k + (pl l k + 1 - frm l k) = pl l k + 1
    omega
namespace N15
theorem px_cut {l : List UInt8} {fl xs ys : List Int} {N i j : Nat} (h1 : j < frm l (i + 1) - frm l i) (h2 : frm l i + j < N) : px (cutAt l (pnts fl xs ys N) i) j = co xs (frm l i + j) ∧ py (cutAt l (pnts fl xs ys N) i) j = co ys (frm l i + j) := by
  have e : (cutAt l (pnts fl xs ys N) i)[j]? = some (pnt fl xs ys (frm l i + j)) := by
    unfold cutAt
    rw [List.getElem?_take_of_lt h1, List.getElem?_drop]
    simp [pnts, h2]
  unfold px py
  rw [List.getD_eq_getElem?_getD, e]
  exact ⟨rfl, rfl⟩
theorem prs_may (l : List UInt8) : MayG (prs l).2 := by
  have nil : MayG [] := ⟨by simp, fun i hi => by simp at hi⟩
  unfold prs
  by_cases c0 : l.length = 0
  · rw [if_pos c0]; exact nil
  rw [if_neg c0]
  by_cases c1 : l.length < 10
  · rw [if_pos c1]; exact nil
  rw [if_neg c1]
  by_cases c2 : sg16 (n2 l 0) < 0
  · rw [if_pos c2]; exact nil
  rw [if_neg c2]
  by_cases c3 : 256 < sg16 (n2 l 0)
  · rw [if_pos c3]; exact nil
  rw [if_neg c3]
  by_cases c4 : sg16 (n2 l 0) = 0
  · rw [if_pos c4]; exact nil
  rw [if_neg c4]
  obtain ⟨n, hn⟩ : ∃ n, n = (sg16 (n2 l 0)).toNat := ⟨_, rfl⟩
  have hn2 : n ≤ 256 := by omega
  rw [← hn]
  by_cases hE : plE l n = 0
  · obtain ⟨e1, e2, e3⟩ := plE_ok hE
    rw [prC_go hE]
    by_cases d1 : l.length < 10 + 2 * n + 2
    · rw [if_pos d1]; exact nil
    rw [if_neg d1]
    by_cases d2 : l.length < 10 + 2 * n + 2 + n2 l (10 + 2 * n)
    · rw [if_pos d2]; exact nil
    rw [if_neg d2]
    obtain ⟨a, ha⟩ : ∃ a, a = 10 + 2 * n + 2 + n2 l (10 + 2 * n) := ⟨_, rfl⟩
    rw [← ha]
    unfold prF
    have hlen := ptR_len l (frm l n) a
    by_cases d3 : (ptR l (frm l n) a).1 ≠ 0
    · rw [if_pos d3]; exact nil
    · rw [if_neg d3]
      have d3' : (ptR l (frm l n) a).1 = 0 := by simpa using d3
      have hl := hlen d3'
      obtain ⟨fl, xs, ys, hP, hx, hy⟩ : ∃ fl xs ys, (ptR l (frm l n) a).2 = pnts fl xs ys (frm l n) ∧ (∀ i, i < frm l n → okU (co xs i)) ∧ (∀ i, i < frm l n → okU (co ys i)) := by
        have hfo := flgs_ok l (frm l n) [] a (by simp) (fun i hi => by simp at hi) (by omega)
        unfold ptR at d3' ⊢
        obtain ⟨F, hF⟩ : ∃ F, F = flgs l (frm l n) [] a := ⟨_, rfl⟩
        rw [← hF] at d3' hfo ⊢
        by_cases f1 : F.1 ≠ 0
        · rw [if_pos f1] at d3'; exact absurd d3' f1
        rw [if_neg f1] at d3' ⊢
        obtain ⟨k1, k2, k3⟩ := hfo (by simpa using f1)
        have hxi := unts_in l 2 16 F.2.1 [] F.2.2 0 (fun i hi => by simp at hi)
        have hxo := unts_ok l 2 16 F.2.1 [] F.2.2 0 k3
        obtain ⟨X, hX⟩ : ∃ X, X = unts l 2 16 F.2.1 [] F.2.2 0 := ⟨_, rfl⟩
        rw [← hX] at d3' hxi hxo ⊢
        by_cases f2 : X.1 ≠ 0
        · rw [if_pos f2] at d3'; exact absurd d3' f2
        rw [if_neg f2] at d3' ⊢
        obtain ⟨x1, x2⟩ := hxo (by simpa using f2)
        have hyi := unts_in l 4 32 F.2.1 [] X.2.2 0 (fun i hi => by simp at hi)
        have hyo := unts_ok l 4 32 F.2.1 [] X.2.2 0 x2
        obtain ⟨Y, hY⟩ : ∃ Y, Y = unts l 4 32 F.2.1 [] X.2.2 0 := ⟨_, rfl⟩
        rw [← hY] at d3' hyi hyo ⊢
        by_cases f3 : Y.1 ≠ 0
        · rw [if_pos f3] at d3'; exact absurd d3' f3
        rw [if_neg f3] at d3' ⊢
        obtain ⟨y1, _⟩ := hyo (by simpa using f3)
        exact ⟨F.2.1, X.2.1, Y.2.1, rfl, fun i hi => hxi i (by rw [x1, k1]; simpa using hi), fun i hi => hyi i (by rw [y1, k1]; simpa using hi)⟩
      refine ⟨by rw [cuts_len]; exact hn2, fun i hi => ?_⟩
      rw [cuts_len] at hi
      obtain ⟨g1, g2, g3⟩ := cutAt_len e2 (i := i) hi hl
      have hm := frm_mono e2 (i + 1) hi
      refine ⟨⟨by rw [cuts_ct hi, g1]; omega, by rw [tot_frm e2 hl (i + 1) hi]; omega⟩, fun j hj => ?_⟩
      rw [cuts_ct hi] at hj ⊢
      rw [g1] at hj
      rw [hP]
      obtain ⟨z1, z2⟩ := px_cut (l := l) (fl := fl) (xs := xs) (ys := ys) (N := frm l n) (i := i) (j := j) hj (by omega)
      exact ⟨by rw [z1]; exact hx _ (by omega), by rw [z2]; exact hy _ (by omega)⟩
  · rw [prC_err hE]; exact nil
end N15
end Go.Proofs.YtfhaloclbbmbeaaGreat
