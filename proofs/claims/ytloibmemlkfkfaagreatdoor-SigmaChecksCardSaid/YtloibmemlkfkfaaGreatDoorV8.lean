/-
  Answers of layer 8's calls in one form, for the laws that hold the program against the document.
-/
import Derived.Test.YtloibmemlkfkfaaGreatDoorK8
import Derived.Test.YtloibmemlkfkfaaGreatDoorR8f
import Derived.Test.YtloibmemlkfkfaaGreatDoorR8g
namespace Go.Proofs.YtloibmemlkfkfaaGreatDoor
open Go.RowKit
set_option linter.unusedVariables false
def ErrV8 (code : Int) (w : World) (e : Ending) (w' : World) : Prop := ∃ v, e = .returned v ∧ ErV v code ∧ B8 w w'
def NumV8 (code : Int) (w : World) (e : Ending) (w' : World) : Prop := e = .returned (.int .i64 code) ∧ B8 w w'
theorem VerP.v {E C : Int} {w w' : World} {e : Ending} (h : VerP E C w e w') {lg el : Prop} (h1 : ¬ lg) (h2 : el) : ErrV8 (chkC lg el (E = C)) w e w' := by
  obtain ⟨⟨v, rfl, hv⟩, hb⟩ := h
  unfold chkC
  rw [if_neg h1, if_pos h2]
  rcases hv with ⟨h3, rfl⟩ | ⟨h3, rfl⟩
  · rw [if_pos h3]; exact ⟨_, rfl, .inl ⟨rfl, rfl⟩, hb⟩
  · rw [if_neg h3]; exact ⟨_, rfl, .inr ⟨by decide, rfl⟩, hb⟩
theorem DvP.v {E C : Int} {w w' : World} {e : Ending} (h : DvP E C w e w') {lg el : Prop} (h1 : ¬ lg) (h2 : el) : NumV8 (chkC lg el (E = C)) w e w' := by
  obtain ⟨⟨v, rfl, hv⟩, hb⟩ := h
  unfold chkC
  rw [if_neg h1, if_pos h2]
  rcases hv with ⟨h3, rfl⟩ | ⟨h3, rfl⟩
  · rw [if_pos h3]; exact ⟨rfl, hb⟩
  · rw [if_neg h3]; exact ⟨rfl, hb⟩
theorem ErrP.v2 {w w' : World} {e : Ending} (h : ErrP 2 w e w') {lg el ok : Prop} (h1 : lg) : ErrV8 (chkC lg el ok) w e w' := by
  obtain ⟨rfl, hb⟩ := h
  unfold chkC
  rw [if_pos h1]
  exact ⟨_, rfl, .inr ⟨by decide, rfl⟩, hb⟩
theorem ErrP.v8 {w w' : World} {e : Ending} (h : ErrP 8 w e w') {lg el ok : Prop} (h1 : ¬ lg) (h2 : ¬ el) : ErrV8 (chkC lg el ok) w e w' := by
  obtain ⟨rfl, hb⟩ := h
  unfold chkC
  rw [if_neg h1, if_neg h2]
  exact ⟨_, rfl, .inr ⟨by decide, rfl⟩, hb⟩
theorem num_v2 {w w' : World} {e : Ending} (h : e = .returned (.int .i64 2) ∧ B8 w w') {lg el ok : Prop} (h1 : lg) : NumV8 (chkC lg el ok) w e w' := by
  unfold chkC
  rw [if_pos h1]
  exact h
theorem num_v8 {w w' : World} {e : Ending} (h : e = .returned (.int .i64 8) ∧ B8 w w') {lg el ok : Prop} (h1 : ¬ lg) (h2 : ¬ el) : NumV8 (chkC lg el ok) w e w' := by
  unfold chkC
  rw [if_neg h1, if_neg h2]
  exact h
section
variable {w : World} {b k : Nat} {r : Rgd} {d : Gd} {P Q G : Int} {A A' Ac Ae Az Aa Ad : Option Addr} {n c n' c' nc cc ne ce nz cz na ca nd cd : Nat} {X Y E S K Z M : Int} {ctx : List Int}
theorem knwC0 {lg : Prop} (h : ¬ lg) : knwC lg = 0 := if_neg h
theorem knwC2 {lg : Prop} (h : lg) : knwC lg = 2 := if_pos h
theorem eqlC0 {lg el : Prop} (h : ¬ lg) (h' : el) : eqlC lg el = 0 := by unfold eqlC; rw [if_neg h, if_pos h']
theorem eqlC2 {lg el : Prop} (h : lg) : eqlC lg el = 2 := if_pos h
theorem eqlC8 {lg el : Prop} (h : ¬ lg) (h' : ¬ el) : eqlC lg el = 8 := by unfold eqlC; rw [if_neg h, if_neg h']
/-! ### The program -/
theorem know_v (h : Gr w b d) (hT : Tabs w) (hc : Bz w Ac nc ctx) (hnc : nc ≤ 140737488355328) (hS : Nm w A n c S) (hK : Nm w A' n' c' K) :
    Calls Tryz.prog 11 #[.pointer (some ⟨b, 0, none⟩), .slice Ac nc cc, .slice A n c, .slice A' n' c'] w (PrfV (knwC (64 < dl S ∨ 64 < dl K)) (knE d.P d.Q d.G (strB lbK) ctx S K) (respN d.Q (knE d.P d.Q d.G (strB lbK) ctx S K) S K) w) := by
  by_cases g : 64 < dl S ∨ 64 < dl K
  · rw [knwC2 g]; exact (know_long hS hK g).mono fun _ _ h => h.v (by decide) (by decide)
  · rw [knwC0 g]; exact (know_ok h hT hc hnc hS (by omega) hK (by omega)).mono fun _ _ h => h.v
theorem sign_v (h : Gr w b d) (hT : Tabs w) (hc : Bz w Ac nc ctx) (hnc : nc ≤ 140737488355328) (hS : Nm w A n c S) (hK : Nm w A' n' c' K) :
    Calls Tryz.prog 12 #[.pointer (some ⟨b, 0, none⟩), .slice Ac nc cc, .slice A n c, .slice A' n' c'] w (PrfV (knwC (64 < dl S ∨ 64 < dl K)) (knE d.P d.Q d.G (strB lbS) ctx S K) (respN d.Q (knE d.P d.Q d.G (strB lbS) ctx S K) S K) w) := by
  by_cases g : 64 < dl S ∨ 64 < dl K
  · rw [knwC2 g]; exact (sign_long hS hK g).mono fun _ _ h => h.v (by decide) (by decide)
  · rw [knwC0 g]; exact (sign_ok h hT hc hnc hS (by omega) hK (by omega)).mono fun _ _ h => h.v
theorem equal_v (h : Gr w b d) (hT : Tabs w) (hc : Bz w Ac nc ctx) (hnc : nc ≤ 140737488355328) (ha : Nm w Aa na ca X) (hS : Nm w A n c S) (hK : Nm w A' n' c' K) :
    Calls Tryz.prog 13 #[.pointer (some ⟨b, 0, none⟩), .slice Ac nc cc, .slice Aa na ca, .slice A n c, .slice A' n' c'] w (PrfV (eqlC (64 < dl S ∨ 64 < dl K) (El d.P d.Q X)) (eqE d.P d.Q d.G ctx X S K) (respN d.Q (eqE d.P d.Q d.G ctx X S K) S K) w) := by
  by_cases g : 64 < dl S ∨ 64 < dl K
  · rw [eqlC2 g]; exact (equal_long hS hK g).mono fun _ _ h => h.v (by decide) (by decide)
  · by_cases g2 : El d.P d.Q X
    · rw [eqlC0 g g2]; exact (equal_ok h hT hc hnc ha g2 hS (by omega) hK (by omega)).mono fun _ _ h => h.v
    · rw [eqlC8 g g2]; exact (equal_no h ha g2 hS (by omega) hK (by omega)).mono fun _ _ h => h.v (by decide) (by decide)
theorem knows_v (h : Gr w b d) (hT : Tabs w) (hc : Bz w Ac nc ctx) (hnc : nc ≤ 140737488355328) (hy : Nm w A n c Y) (he : Nm w Ae ne ce E) (hz : Nm w Az nz cz Z) :
    Calls Tryz.prog 18 #[.pointer (some ⟨b, 0, none⟩), .slice Ac nc cc, .slice A n c, .agg #[.slice Ae ne ce, .slice Az nz cz]] w (ErrV8 (chkC (64 < dl E ∨ 64 < dl Z) (El d.P d.Q Y) (E = kcE d.P d.Q d.G (strB lbK) ctx Y Z E)) w) := by
  by_cases g : 64 < dl E ∨ 64 < dl Z
  · exact (knows_long he hz g).mono fun _ _ h => h.v2 g
  · by_cases g2 : El d.P d.Q Y
    · exact (knows_ok h hT hc hnc hy g2 he (by omega) hz (by omega)).mono fun _ _ h => h.v g g2
    · exact (knows_no h hy g2 he (by omega) hz (by omega)).mono fun _ _ h => h.v8 g g2
theorem signed_v (h : Gr w b d) (hT : Tabs w) (hc : Bz w Ac nc ctx) (hnc : nc ≤ 140737488355328) (hy : Nm w A n c Y) (he : Nm w Ae ne ce E) (hz : Nm w Az nz cz Z) :
    Calls Tryz.prog 19 #[.pointer (some ⟨b, 0, none⟩), .slice Ac nc cc, .slice A n c, .agg #[.slice Ae ne ce, .slice Az nz cz]] w (ErrV8 (chkC (64 < dl E ∨ 64 < dl Z) (El d.P d.Q Y) (E = kcE d.P d.Q d.G (strB lbS) ctx Y Z E)) w) := by
  by_cases g : 64 < dl E ∨ 64 < dl Z
  · exact (signed_long he hz g).mono fun _ _ h => h.v2 g
  · by_cases g2 : El d.P d.Q Y
    · exact (signed_ok h hT hc hnc hy g2 he (by omega) hz (by omega)).mono fun _ _ h => h.v g g2
    · exact (signed_no h hy g2 he (by omega) hz (by omega)).mono fun _ _ h => h.v8 g g2
theorem equals_v (h : Gr w b d) (hT : Tabs w) (hc : Bz w Ac nc ctx) (hnc : nc ≤ 140737488355328) (hy : Nm w A n c Y) (ha : Nm w Aa na ca X) (hd : Nm w Ad nd cd M) (he : Nm w Ae ne ce E) (hz : Nm w Az nz cz Z) :
    Calls Tryz.prog 20 #[.pointer (some ⟨b, 0, none⟩), .slice Ac nc cc, .slice A n c, .slice Aa na ca, .slice Ad nd cd, .agg #[.slice Ae ne ce, .slice Az nz cz]] w (ErrV8 (chkC (64 < dl E ∨ 64 < dl Z) (El d.P d.Q Y ∧ El d.P d.Q X ∧ El d.P d.Q M) (E = ceE d.P d.Q d.G ctx Y X M Z E)) w) := by
  by_cases g : 64 < dl E ∨ 64 < dl Z
  · exact (equals_long he hz g).mono fun _ _ h => h.v2 g
  · by_cases g1 : El d.P d.Q Y
    · by_cases g2 : El d.P d.Q X ∧ El d.P d.Q M
      · exact (equals_ok h hT hc hnc hy ha hd g1 g2.1 g2.2 he (by omega) hz (by omega)).mono fun _ _ h => h.v g ⟨g1, g2.1, g2.2⟩
      · exact (equals_no2 h hy ha hd g1 g2 he (by omega) hz (by omega)).mono fun _ _ h => h.v8 g fun k => g2 k.2
    · exact (equals_no1 h hy ha hd g1 he (by omega) hz (by omega)).mono fun _ _ h => h.v8 g fun k => g1 k.1
/-! ### The document -/
theorem rknow_v (h : Rg8 w b k r) (hP : r.P = P) (hQ : r.Q = Q) (hG : r.G = G) (s : ByteArray) (hs : s.size ≤ 100) (hc : Bz w Ac nc ctx) (hnc : nc ≤ 500) (hS : Nm w A n c S) (lS : Li n S) (hK : Nm w A' n' c' K) (lK : Li n' K) :
    Calls Tryz.prog 14 #[.pointer (some ⟨b, 0, none⟩), .string s, .slice Ac nc cc, .slice A n c, .slice A' n' c'] w (DocV (knwC (64 < dl S ∨ 64 < dl K)) (knE P Q G (strB s) ctx S K) (respN Q (knE P Q G (strB s) ctx S K) S K) w) := by
  subst hP hQ hG
  by_cases g : 64 < dl S ∨ 64 < dl K
  · rw [knwC2 g]; exact rknow_long s hS hK g
  · rw [knwC0 g]; exact rknow_ok h s hs hc hnc hS lS.1 (by omega) hK lK.1 (by omega)
theorem requal_v (h : Rg8 w b k r) (hP : r.P = P) (hQ : r.Q = Q) (hG : r.G = G) (hc : Bz w Ac nc ctx) (hnc : nc ≤ 500) (ha : Nm w Aa na ca X) (la : Li na X) (hS : Nm w A n c S) (lS : Li n S) (hK : Nm w A' n' c' K) (lK : Li n' K) :
    Calls Tryz.prog 15 #[.pointer (some ⟨b, 0, none⟩), .slice Ac nc cc, .slice Aa na ca, .slice A n c, .slice A' n' c'] w (DocV (eqlC (64 < dl S ∨ 64 < dl K) (El P Q X)) (eqE P Q G ctx X S K) (respN Q (eqE P Q G ctx X S K) S K) w) := by
  subst hP hQ hG
  by_cases g : 64 < dl S ∨ 64 < dl K
  · rw [eqlC2 g]; exact requal_long hS hK g
  · by_cases g2 : El r.P r.Q X
    · rw [eqlC0 g g2]; exact requal_ok h hc hnc ha la g2 hS lS.1 (by omega) hK lK.1 (by omega)
    · rw [eqlC8 g g2]; exact requal_no h ha la g2 hS (by omega) hK (by omega)
theorem rknows_v (h : Rg8 w b k r) (hP : r.P = P) (hQ : r.Q = Q) (hG : r.G = G) (s : ByteArray) (hs : s.size ≤ 100) (hc : Bz w Ac nc ctx) (hnc : nc ≤ 500) (hy : Nm w A n c Y) (ly : Li n Y) (he : Nm w Ae ne ce E) (le : Li ne E) (hz : Nm w Az nz cz Z) (lz : Li nz Z) :
    Calls Tryz.prog 21 #[.pointer (some ⟨b, 0, none⟩), .string s, .slice Ac nc cc, .slice A n c, .agg #[.slice Ae ne ce, .slice Az nz cz]] w (NumV8 (chkC (64 < dl E ∨ 64 < dl Z) (El P Q Y) (E = kcE P Q G (strB s) ctx Y Z E)) w) := by
  subst hP hQ hG
  by_cases g : 64 < dl E ∨ 64 < dl Z
  · exact (rknows_long s he hz g).mono fun _ _ h => num_v2 h g
  · by_cases g2 : El r.P r.Q Y
    · exact (rknows_ok h s hs hc hnc hy ly g2 he le.1 (by omega) hz lz.1 (by omega)).mono fun _ _ h => h.v g g2
    · exact (rknows_no h s hy ly g2 he le.1 (by omega) hz lz.1 (by omega)).mono fun _ _ h => num_v8 h g g2
theorem requals_v (h : Rg8 w b k r) (hP : r.P = P) (hQ : r.Q = Q) (hG : r.G = G) (hc : Bz w Ac nc ctx) (hnc : nc ≤ 500) (hy : Nm w A n c Y) (ly : Li n Y) (ha : Nm w Aa na ca X) (la : Li na X) (hd : Nm w Ad nd cd M) (ld : Li nd M) (he : Nm w Ae ne ce E) (le : Li ne E) (hz : Nm w Az nz cz Z) (lz : Li nz Z) :
    Calls Tryz.prog 22 #[.pointer (some ⟨b, 0, none⟩), .slice Ac nc cc, .slice A n c, .slice Aa na ca, .slice Ad nd cd, .agg #[.slice Ae ne ce, .slice Az nz cz]] w (NumV8 (chkC (64 < dl E ∨ 64 < dl Z) (El P Q Y ∧ El P Q X ∧ El P Q M) (E = ceE P Q G ctx Y X M Z E)) w) := by
  subst hP hQ hG
  by_cases g : 64 < dl E ∨ 64 < dl Z
  · exact (requals_long he hz g).mono fun _ _ h => num_v2 h g
  · by_cases g2 : El r.P r.Q Y ∧ El r.P r.Q X ∧ El r.P r.Q M
    · exact (requals_ok h hc hnc hy ly ha la hd ld g2.1 g2.2.1 g2.2.2 he le.1 (by omega) hz lz.1 (by omega)).mono fun _ _ h => h.v g g2
    · exact (requals_no h hy ly ha la hd ld g2 he le.1 (by omega) hz lz.1 (by omega)).mono fun _ _ h => num_v8 h g g2
end
end Go.Proofs.YtloibmemlkfkfaaGreatDoor
