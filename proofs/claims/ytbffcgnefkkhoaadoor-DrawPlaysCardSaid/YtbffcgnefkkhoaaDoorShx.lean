/-
  The digests of the document's examples, reckoned.
-/
import Derived.Test.YtbffcgnefkkhoaaDoorShn
namespace Go.Proofs.YtbffcgnefkkhoaaDoor
set_option linter.unusedVariables false
section
variable {α : Type}
/-- f of x, with x reckoned first. -/
def frc (x : Int) (f : Int → α) : α :=
  match x with
  | .ofNat n => Nat.rec (motive := fun _ => α) (f (.ofNat 0)) (fun m _ => f (.ofNat (Nat.succ m))) n
  | .negSucc n => f (.negSucc n)
theorem frc_eq (x : Int) (f : Int → α) : frc x f = f x := by
  match x with
  | .ofNat 0 => rfl
  | .ofNat (n + 1) => rfl
  | .negSucc n => rfl
/-- The list, reckoned and turned round. -/
def evL : List Int → List Int → (List Int → α) → α
  | [], acc, C => C acc
  | x :: l, acc, C => frc x fun x => evL l (x :: acc) C
theorem evL_eq (C : List Int → α) : ∀ l acc, evL l acc C = C (l.reverse ++ acc)
  | [], acc => rfl
  | x :: l, acc => by simp only [evL, frc_eq, evL_eq C l, List.reverse_cons, List.append_assoc, List.singleton_append]
def evX : Nat → List Int → (List Int → α) → α
  | 0, l, C => C l
  | n + 1, l, C => frc (ad (ad (ad (dig l 15) (sg0 (dig l 14))) (dig l 6)) (sg1 (dig l 1))) fun x => evX n (x :: l) C
theorem dig_rev {m : List Int} {i : Nat} (h : i < m.length) : dig m.reverse i = dig m (m.length - 1 - i) := by
  unfold dig
  rw [List.getD_eq_getElem?_getD, List.getD_eq_getElem?_getD, List.getElem?_reverse h]
theorem nxt_rev {m : List Int} (h : 16 ≤ m.length) : nxt m = ad (ad (ad (dig m.reverse 15) (sg0 (dig m.reverse 14))) (dig m.reverse 6)) (sg1 (dig m.reverse 1)) := by
  rw [dig_rev (by omega), dig_rev (by omega), dig_rev (by omega), dig_rev (by omega)]
  unfold nxt
  rw [show m.length - 1 - 15 = m.length - 16 by omega, show m.length - 1 - 14 = m.length - 15 by omega, show m.length - 1 - 6 = m.length - 7 by omega, show m.length - 1 - 1 = m.length - 2 by omega]
theorem ext_snoc (m : List Int) : ∀ n, ext m (n + 1) = ext (m ++ [nxt m]) n
  | 0 => rfl
  | n + 1 => by
    show ext m (n + 1) ++ [nxt (ext m (n + 1))] = ext (m ++ [nxt m]) n ++ [nxt (ext (m ++ [nxt m]) n)]
    rw [ext_snoc m n]
theorem evX_eq (C : List Int → α) : ∀ n (m : List Int), 16 ≤ m.length → evX n m.reverse C = C (ext m n).reverse
  | 0, m, h => rfl
  | n + 1, m, h => by
    show frc _ (fun x => evX n (x :: m.reverse) C) = _
    rw [frc_eq, ← nxt_rev h, ext_snoc, ← evX_eq C n (m ++ [nxt m]) (by simp; omega)]
    simp
def evR : List Int → List Int → St → (St → α) → α
  | k :: K, m :: M, s, C => frc (t1f k m s) fun t => frc (ad t (t2f s)) fun x => frc (ad s.d t) fun y => evR K M ⟨x, s.a, s.b, s.c, y, s.e, s.f, s.g⟩ C
  | _, _, s, C => C s
theorem rnds_cons (k m : Int) (K M : List Int) (s : St) : ∀ n, rnds (k :: K) (m :: M) s (n + 1) = rnds K M (rnd k m s) n
  | 0 => rfl
  | n + 1 => by
    show rnd (dig (k :: K) (n + 1)) (dig (m :: M) (n + 1)) (rnds (k :: K) (m :: M) s (n + 1)) = rnd (dig K n) (dig M n) (rnds K M (rnd k m s) n)
    rw [rnds_cons k m K M s n]
    rfl
theorem evR_eq (C : St → α) : ∀ (K M : List Int) (s : St), K.length = M.length → evR K M s C = C (rnds K M s K.length)
  | [], M, s, h => rfl
  | k :: K, [], s, h => by cases h
  | k :: K, m :: M, s, h => by
    show frc _ _ = _
    rw [frc_eq, frc_eq, frc_eq]
    rw [List.length_cons, rnds_cons]
    exact evR_eq C K M _ (by simpa using h)
def evS : Nat → List Int → St → (St → α) → α
  | 0, l, s, C => C s
  | n + 1, l, s, C => evL (l.take 64) [] fun rb => evL rb [] fun b => evL (bwN b 16) [] fun rw => evX 48 rw fun rx => evL rx [] fun x => evR KT x s fun r =>
      frc (ad s.a r.a) fun a => frc (ad s.b r.b) fun b => frc (ad s.c r.c) fun c => frc (ad s.d r.d) fun d => frc (ad s.e r.e) fun e => frc (ad s.f r.f) fun f => frc (ad s.g r.g) fun g => frc (ad s.h r.h) fun h =>
        evS n (l.drop 64) ⟨a, b, c, d, e, f, g, h⟩ C
theorem evS_eq (C : St → α) : ∀ (n : Nat) (l : List Int) (s : St), evS n l s C = C (absb s l n)
  | 0, l, s => rfl
  | n + 1, l, s => by
    have e1 := absb_add s l 1 n
    rw [Nat.add_comm 1 n] at e1
    rw [e1]
    have e2 : absb s l 1 = addS s (rnds KT (sched (l.take 64)) s 64) := by
      show comp s ((l.drop (64 * 0)).take 64) = _
      rw [Nat.mul_zero, List.drop_zero]; rfl
    rw [e2]
    show evL _ _ _ = _
    rw [evL_eq, evL_eq, List.append_nil, List.append_nil, List.reverse_reverse, evL_eq, List.append_nil, evX_eq _ 48 (bwN _ 16) (by rw [bwN_len]; exact Nat.le_refl _), evL_eq, List.append_nil, List.reverse_reverse]
    rw [evR_eq _ KT (ext (bwN (l.take 64) 16) 48) s (by rw [KT_len, ext_len, bwN_len])]
    simp only [frc_eq]
    rw [evS_eq C n (l.drop 64)]
    rfl
end
theorem sha_of {l : List Int} {n : Nat} {r : List Int} (hn : (l.length + (pad l.length).length) / 64 = n) (h : evS n (l ++ pad l.length) H0 (fun s => decide (wbs s.l = r)) = true) : sha l = r := by
  rw [evS_eq] at h
  unfold sha shaS
  rw [hn]
  exact of_decide_eq_true h
def abcH : List Int := [186, 120, 22, 191, 143, 1, 207, 234, 65, 65, 64, 222, 93, 174, 34, 35, 176, 3, 97, 163, 150, 23, 122, 156, 180, 16, 255, 97, 242, 0, 21, 173]
def jefe : List Int := [74, 101, 102, 101]
def want : List Int := [119, 104, 97, 116, 32, 100, 111, 32, 121, 97, 32, 119, 97, 110, 116, 32, 102, 111, 114, 32, 110, 111, 116, 104, 105, 110, 103, 63]
def jefeI : List Int := [162, 228, 133, 134, 61, 39, 249, 216, 100, 172, 141, 128, 36, 50, 161, 237, 71, 125, 140, 76, 111, 52, 157, 22, 212, 231, 233, 23, 198, 41, 202, 215]
def jefeH : List Int := [91, 220, 193, 70, 191, 96, 117, 78, 106, 4, 36, 38, 8, 149, 117, 199, 90, 0, 63, 8, 157, 39, 57, 131, 157, 236, 88, 185, 100, 236, 56, 67]
theorem sha_abc : sha [97, 98, 99] = abcH := sha_of (n := 1) rfl (by decide +kernel)
theorem keyB_jefe : keyB jefe = jefe ++ List.replicate 60 0 := rfl
theorem sha_jefeI : sha (mask 54 (jefe ++ List.replicate 60 0) ++ want) = jefeI := sha_of (n := 2) (by decide +kernel) (by decide +kernel)
theorem mac_jefe : mac jefe want = jefeH := by
  unfold mac
  rw [keyB_jefe, sha_jefeI]
  exact sha_of (n := 2) (by decide +kernel) (by decide +kernel)
end Go.Proofs.YtbffcgnefkkhoaaDoor
