/- Proved here: what the document's part answers, in all cases. Condition: a reader of a text of at most a billion bytes that has not failed. -/
import Derived.Test.YtbmeamhpmahlgaaSc
import Derived.Test.YtbmeamhpmahlgaaSd
namespace Go.Proofs.Ytbmeamhpmahlgaa
open Go.RowKit

theorem part_any (g : Nat) (s : ByteArray) (a : Nat) (G : Int) (w : World) (h : Rd 62 w g s a false) (hs : s.size ≤ 1000000000) (ha : a ≤ s.size) :
    Calls Try.prog 31 #[.pointer (some ⟨g, 0, none⟩), .int .i64 G] w (RdP 62 (prt s.data.toList G a) g s w) := by
  by_cases c1 : s.size < a + 4
  · exact part_short g s a G w h hs ha c1
  by_cases c2 : okB (n2 s.data.toList a)
  · by_cases c3 : G ≤ (n2 s.data.toList (a + 2) : Int)
    · exact part_form g s a G w h hs ha c1 (.inr c3)
    · by_cases h1 : n2 s.data.toList a % 2 = 1
      · by_cases g1 : n2 s.data.toList a / 8 % 2 = 1
        · exact part_1_8 g s a G w h hs ha c1 c2 c3 h1 g1
        · by_cases g2 : n2 s.data.toList a / 64 % 2 = 1
          · exact part_1_64 g s a G w h hs ha c1 c2 c3 h1 (by omega) g2
          · by_cases g3 : n2 s.data.toList a / 128 % 2 = 1
            · exact part_1_128 g s a G w h hs ha c1 c2 c3 h1 (by omega) (by omega) g3
            · exact part_1_no g s a G w h hs ha c1 c2 c3 h1 (by omega) (by omega) (by omega)
      · by_cases g1 : n2 s.data.toList a / 8 % 2 = 1
        · exact part_0_8 g s a G w h hs ha c1 c2 c3 (by omega) g1
        · by_cases g2 : n2 s.data.toList a / 64 % 2 = 1
          · exact part_0_64 g s a G w h hs ha c1 c2 c3 (by omega) (by omega) g2
          · by_cases g3 : n2 s.data.toList a / 128 % 2 = 1
            · exact part_0_128 g s a G w h hs ha c1 c2 c3 (by omega) (by omega) (by omega) g3
            · exact part_0_no g s a G w h hs ha c1 c2 c3 (by omega) (by omega) (by omega) (by omega)
  · exact part_form g s a G w h hs ha c1 (.inl c2)
end Go.Proofs.Ytbmeamhpmahlgaa
