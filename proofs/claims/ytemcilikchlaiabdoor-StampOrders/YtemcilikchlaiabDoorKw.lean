/- What Parse reads of a text that Text tells. No program in it. -/
import Derived.Test.YtemcilikchlaiabDoorKb
namespace Go.Proofs.YtemcilikchlaiabDoor.st

theorem numI_succ (s : ByteArray) (c i acc : Nat) : numI s (c + 1) i acc = match s.data.toList[i]? with
    | some b => if 48 ≤ b.toNat ∧ b.toNat ≤ 57 then numI s c (i + 1) (10 * acc + (b.toNat - 48)) else -1
    | none => -1 := rfl
theorem numI_split (s : ByteArray) (a b i acc : Nat) : numI s (a + b) i acc = if numI s a i acc < 0 then -1 else numI s b (i + a) (numI s a i acc).toNat := by
  induction a generalizing i acc with
  | zero =>
    rw [Nat.zero_add]
    conv => rhs; rw [show numI s 0 i acc = (acc : Int) from rfl]
    rw [if_neg (by omega)]
    rfl
  | succ a ih =>
    rw [show a + 1 + b = (a + b) + 1 by omega, numI_succ s (a + b), numI_succ s a]
    split
    · split
      · rw [ih, show i + 1 + a = i + (a + 1) by omega]
      · rw [if_pos (by omega)]
    · rw [if_pos (by omega)]
theorem byte_of' (n : Nat) (h : n < 10) : (UInt8.ofNat (48 + n)).toNat = 48 + n := by
  rw [UInt8.toNat_ofNat']
  omega
theorem numI_digs (s : ByteArray) (w i acc n : Nat) (r : List UInt8) (h : s.data.toList.drop i = digs w n ++ r) : numI s w i acc = ((acc * 10 ^ w + n % 10 ^ w : Nat) : Int) := by
  induction w generalizing n r with
  | zero => simp [numI, Nat.mod_one]
  | succ w ih =>
    have h1 : s.data.toList.drop i = digs w (n / 10) ++ ([UInt8.ofNat (48 + n % 10)] ++ r) := by
      rw [h]
      show digs w (n / 10) ++ [UInt8.ofNat (48 + n % 10)] ++ r = _
      rw [List.append_assoc]
    have h2 := ih (n / 10) _ h1
    have h3 : s.data.toList[i + w]? = some (UInt8.ofNat (48 + n % 10)) := by
      have e : s.data.toList[i + w]? = (s.data.toList.drop i)[w]? := by rw [List.getElem?_drop]
      rw [e, h1, List.getElem?_append_right (by rw [digs_len]; exact Nat.le_refl _), digs_len]
      simp
    rw [numI_split, h2, if_neg (by omega)]
    unfold numI
    rw [h3]
    have hb := byte_of' (n % 10) (by omega)
    simp only [hb]
    rw [if_pos (by omega)]
    unfold numI
    congr 1
    have e1 : ((acc * 10 ^ w + n / 10 % 10 ^ w : Nat) : Int).toNat = acc * 10 ^ w + n / 10 % 10 ^ w := by omega
    rw [e1, show 48 + n % 10 - 48 = n % 10 by omega, Nat.pow_succ, Nat.mul_comm (10 ^ w) 10, Nat.mod_mul]
    rw [← Nat.mul_assoc, Nat.mul_comm acc 10, Nat.mul_assoc]
    omega
theorem isI_drop (s : ByteArray) (i : Nat) (c : UInt8) (r : List UInt8) (h : s.data.toList.drop i = c :: r) : isI s i c = true := by
  unfold isI
  have e : s.data.toList[i]? = (s.data.toList.drop i)[0]? := by rw [List.getElem?_drop]; rfl
  rw [e, h]
  simp
theorem isI_not (s : ByteArray) (i : Nat) (c c' : UInt8) (r : List UInt8) (h : s.data.toList.drop i = c' :: r) (hne : c' ≠ c) : isI s i c = false := by
  unfold isI
  have e : s.data.toList[i]? = (s.data.toList.drop i)[0]? := by rw [List.getElem?_drop]; rfl
  rw [e, h]
  simp [hne]

/-- The head of a text, and what follows. -/
def headD (y m d t : Nat) (r : List UInt8) : List UInt8 :=
  digs 4 y ++ ([45] ++ (digs 2 m ++ ([45] ++ (digs 2 d ++ ([84] ++ (digs 2 (t / 3600) ++ ([58] ++ (digs 2 (t / 60 % 60) ++ ([58] ++ (digs 2 (t % 60) ++ r))))))))))
theorem textD_head (y m d t nn : Nat) : textD y m d t nn = headD y m d t ((if nn = 0 then [] else [46] ++ cut0 (digs 9 nn)) ++ [90]) := by
  unfold textD headD
  simp only [List.append_assoc]
theorem drop_app (A B : List UInt8) (n k : Nat) (h : A.length = n) : (A ++ B).drop (n + k) = B.drop k := by
  subst h
  rw [List.drop_append, List.drop_eq_nil_of_le (by omega)]
  simp
theorem head_drops (y m d t : Nat) (r : List UInt8) :
    (headD y m d t r).drop 5 = digs 2 m ++ ([45] ++ (digs 2 d ++ ([84] ++ (digs 2 (t / 3600) ++ ([58] ++ (digs 2 (t / 60 % 60) ++ ([58] ++ (digs 2 (t % 60) ++ r)))))))) ∧
    (headD y m d t r).drop 8 = digs 2 d ++ ([84] ++ (digs 2 (t / 3600) ++ ([58] ++ (digs 2 (t / 60 % 60) ++ ([58] ++ (digs 2 (t % 60) ++ r)))))) ∧
    (headD y m d t r).drop 11 = digs 2 (t / 3600) ++ ([58] ++ (digs 2 (t / 60 % 60) ++ ([58] ++ (digs 2 (t % 60) ++ r)))) ∧
    (headD y m d t r).drop 14 = digs 2 (t / 60 % 60) ++ ([58] ++ (digs 2 (t % 60) ++ r)) ∧
    (headD y m d t r).drop 17 = digs 2 (t % 60) ++ r ∧ (headD y m d t r).drop 19 = r := by
  have step : ∀ (A : List UInt8) (c : UInt8) (B : List UInt8) (n k : Nat), A.length = n → (A ++ ([c] ++ B)).drop (n + 1 + k) = B.drop k := fun A c B n k h => by
    rw [← List.append_assoc]
    exact drop_app _ _ _ _ (by rw [List.length_append, h]; rfl)
  unfold headD
  refine ⟨?_, ?_, ?_, ?_, ?_, ?_⟩
  · exact step _ _ _ 4 0 (digs_len _ _)
  · rw [show (8 : Nat) = 4 + 1 + 3 from rfl, step _ _ _ 4 3 (digs_len _ _)]
    exact step _ _ _ 2 0 (digs_len _ _)
  · rw [show (11 : Nat) = 4 + 1 + 6 from rfl, step _ _ _ 4 6 (digs_len _ _), show (6 : Nat) = 2 + 1 + 3 from rfl, step _ _ _ 2 3 (digs_len _ _)]
    exact step _ _ _ 2 0 (digs_len _ _)
  · rw [show (14 : Nat) = 4 + 1 + 9 from rfl, step _ _ _ 4 9 (digs_len _ _), show (9 : Nat) = 2 + 1 + 6 from rfl, step _ _ _ 2 6 (digs_len _ _), show (6 : Nat) = 2 + 1 + 3 from rfl, step _ _ _ 2 3 (digs_len _ _)]
    exact step _ _ _ 2 0 (digs_len _ _)
  · rw [show (17 : Nat) = 4 + 1 + 12 from rfl, step _ _ _ 4 12 (digs_len _ _), show (12 : Nat) = 2 + 1 + 9 from rfl, step _ _ _ 2 9 (digs_len _ _), show (9 : Nat) = 2 + 1 + 6 from rfl, step _ _ _ 2 6 (digs_len _ _), show (6 : Nat) = 2 + 1 + 3 from rfl, step _ _ _ 2 3 (digs_len _ _)]
    exact step _ _ _ 2 0 (digs_len _ _)
  · rw [show (19 : Nat) = 4 + 1 + 14 from rfl, step _ _ _ 4 14 (digs_len _ _), show (14 : Nat) = 2 + 1 + 11 from rfl, step _ _ _ 2 11 (digs_len _ _), show (11 : Nat) = 2 + 1 + 8 from rfl, step _ _ _ 2 8 (digs_len _ _), show (8 : Nat) = 2 + 1 + 5 from rfl, step _ _ _ 2 5 (digs_len _ _), show (5 : Nat) = 2 + 1 + 2 from rfl, step _ _ _ 2 2 (digs_len _ _)]
    exact drop_app _ _ 2 0 (digs_len _ _)
theorem drop_more {l A : List UInt8} {c : UInt8} {B : List UInt8} {i n : Nat} (h : l.drop i = A ++ ([c] ++ B)) (hA : A.length = n) : l.drop (i + n) = c :: B := by
  rw [← List.drop_drop, h]
  exact drop_app _ _ n 0 hA
/-- Day and time of such a text are read as told. -/
theorem head_read (s : ByteArray) (y m d t : Nat) (r : List UInt8) (h : s.data.toList = headD y m d t r) (hy : y < 10000) (ht : t < 86400) (hd : isD y m d) :
    headI s ∧ secI s = dn y m d * 86400 + t ∧ s.data.toList.drop 19 = r := by
  obtain ⟨p5, p8, p11, p14, p17, p19⟩ := head_drops y m d t r
  rw [← h] at p5 p8 p11 p14 p17 p19
  have p0 : s.data.toList.drop 0 = digs 4 y ++ ([45] ++ (digs 2 m ++ ([45] ++ (digs 2 d ++ ([84] ++ (digs 2 (t / 3600) ++ ([58] ++ (digs 2 (t / 60 % 60) ++ ([58] ++ (digs 2 (t % 60) ++ r)))))))))) := by rw [h]; rfl
  have hm := hd.1
  have hm2 := hd.2.1
  have hd1 := hd.2.2.1
  have hd2 := hd.2.2.2
  have hmg := mon_ge y m hm hm2
  have e2 : (10 : Nat) ^ 2 = 100 := by decide
  have e4 : (10 : Nat) ^ 4 = 10000 := by decide
  have n1 : numI s 4 0 0 = (y : Int) := by rw [numI_digs s 4 0 0 y _ p0, e4]; omega
  have n2 : numI s 2 5 0 = (m : Int) := by rw [numI_digs s 2 5 0 m _ p5, e2]; omega
  have n3 : numI s 2 8 0 = (d : Int) := by rw [numI_digs s 2 8 0 d _ p8, e2]; omega
  have n4 : numI s 2 11 0 = ((t / 3600 : Nat) : Int) := by rw [numI_digs s 2 11 0 (t / 3600) _ p11, e2]; omega
  have n5 : numI s 2 14 0 = ((t / 60 % 60 : Nat) : Int) := by rw [numI_digs s 2 14 0 (t / 60 % 60) _ p14, e2]; omega
  have n6 : numI s 2 17 0 = ((t % 60 : Nat) : Int) := by rw [numI_digs s 2 17 0 (t % 60) _ p17, e2]; omega
  refine ⟨?_, ?_, p19⟩
  · unfold headI
    rw [n1, n2, n3, n4, n5, n6]
    refine ⟨⟨isI_drop s 4 45 _ (drop_more p0 (digs_len 4 y)), isI_drop s 7 45 _ (drop_more p5 (digs_len 2 m)), isI_drop s 10 84 _ (drop_more p8 (digs_len 2 d)), isI_drop s 13 58 _ (drop_more p11 (digs_len 2 _)), isI_drop s 16 58 _ (drop_more p14 (digs_len 2 _))⟩, ⟨by omega, hd⟩, ⟨by omega, by omega⟩, ⟨by omega, by omega⟩, ⟨by omega, by omega⟩⟩
  · unfold secI
    rw [n1, n2, n3, n4, n5, n6]
    omega
end Go.Proofs.YtemcilikchlaiabDoor.st
