/- What Parse reads of the text of a moment, as it is and with an offset in the place of Z. -/
import Derived.Test.YtemcilikchlaiabDoorKx
import Derived.Test.YtemcilikchlaiabDoorKp
namespace Go.Proofs.YtemcilikchlaiabDoor.st

theorem cut0_pos (nn : Nat) (h : nn < 1000000000) (h0 : nn ≠ 0) : 0 < (cut0 (digs 9 nn)).length := by
  obtain ⟨c, hc, hne⟩ := digs_some nn (by omega) h
  obtain ⟨k, hk⟩ := cut0_zeros (digs 9 nn)
  rw [hk] at hc
  rcases List.mem_append.1 hc with q | q
  · exact List.length_pos_of_mem q
  · exact absurd (List.eq_of_mem_replicate q) hne
theorem parse_told (s : ByteArray) (y m d t nn : Nat) (c : UInt8) (r : List UInt8) (h : s.data.toList = headD y m d t (frD nn ++ c :: r)) (hy : y < 10000) (ht : t < 86400) (hd : isD y m d) (hn : nn < 1000000000) (hc : ¬ dgt c) (hc2 : c ≠ 46)
    (o : Int) (ho : ∀ k, s.data.toList.drop k = c :: r → offI s k = some o) : parseT s = some (dn y m d * 86400 + t + o, (nn : Int)) := by
  obtain ⟨h1, h2, h3⟩ := head_read s y m d t _ h hy ht hd
  obtain ⟨k, _, _, h4, h5⟩ := frac_read s nn c r h3 hn (fun z => cut0_pos nn hn z) hc hc2
  unfold parseT
  rw [if_pos h1, h4]
  simp only [ho k h5, h2]
/-- What stands in a moment's text. -/
theorem text_parts {s n : Int} {l : List UInt8} (h : isText s n (some l)) : ∃ y m d t nn : Nat, l = headD y m d t (frD nn ++ [90]) ∧ y < 10000 ∧ t < 86400 ∧ isD y m d ∧ nn < 1000000000 ∧ dn y m d * 86400 + t = nSec s n ∧ (nn : Int) = nNano s n := by
  rcases h with ⟨h, _⟩ | ⟨R, nn, y, m, d, h1, h2, h3, h4, h5⟩
  · cases h
  · have e := Option.some.inj h5
    subst e
    have hb := dn_in h4.1
    rw [h4.2] at hb
    have hy : y < 10000 := by
      rcases Nat.lt_or_ge y 10000 with q | q
      · exact q
      · have g1 := dby_mono 10000 y (by omega)
        have g2 : dby 10000 = 2932897 := by decide
        omega
    have hnb := nNano_in s n
    refine ⟨y, m, d, R % 86400, nn, ?_, hy, by omega, h4.1, by omega, ?_, h3.symm⟩
    · rw [textD_head]; rfl
    · rw [h4.2, h1]; omega
theorem parse_text {s n : Int} {l : List UInt8} (h : isText s n (some l)) : parseT ⟨l.toArray⟩ = some (nSec s n, nNano s n) := by
  obtain ⟨y, m, d, t, nn, rfl, hy, ht, hd, hn, e1, e2⟩ := text_parts h
  rw [parse_told ⟨(headD y m d t (frD nn ++ [90])).toArray⟩ y m d t nn 90 [] rfl hy ht hd hn (by decide) (by decide) 0 (fun k hk => off_z _ k hk), Int.add_zero, e1, e2]
/-- With an offset in the place of Z. -/
theorem parse_off {s n : Int} {l : List UInt8} (h : isText s n (some l)) (hh mi : Nat) (h1 : hh ≤ 23) (h2 : mi ≤ 59) (east : Bool) :
    parseT ⟨(l.dropLast ++ ([if east = true then 43 else 45] ++ (digs 2 hh ++ ([58] ++ digs 2 mi)))).toArray⟩ = some (nSec s n + (if east = true then -((hh : Int) * 3600 + (mi : Int) * 60) else (hh : Int) * 3600 + (mi : Int) * 60), nNano s n) := by
  obtain ⟨y, m, d, t, nn, rfl, hy, ht, hd, hn, e1, e2⟩ := text_parts h
  have e : (headD y m d t (frD nn ++ [90])).dropLast ++ ([if east = true then 43 else 45] ++ (digs 2 hh ++ ([58] ++ digs 2 mi))) = headD y m d t (frD nn ++ (if east = true then 43 else 45) :: (digs 2 hh ++ ([58] ++ (digs 2 mi ++ [])))) := by
    have q : headD y m d t (frD nn ++ [90]) = headD y m d t (frD nn) ++ [90] := by unfold headD; simp only [List.append_assoc]
    rw [q, List.dropLast_concat]
    unfold headD
    simp only [List.append_assoc, List.append_nil, List.cons_append, List.nil_append]
  have P := parse_told ⟨(headD y m d t (frD nn ++ (if east = true then 43 else 45) :: (digs 2 hh ++ ([58] ++ (digs 2 mi ++ []))))).toArray⟩ y m d t nn _ _ rfl hy ht hd hn (by cases east <;> decide) (by cases east <;> decide) _ (fun k hk => off_told _ k hh mi east hk h1 h2)
  rw [e, P, e1, e2]
theorem text_size {s n : Int} {l : List UInt8} (h : isText s n (some l)) : 20 ≤ l.length ∧ l.length ≤ 30 := by
  obtain ⟨y, m, d, t, nn, rfl, hy, ht, hd, hn, e1, e2⟩ := text_parts h
  have hf : (frD nn).length ≤ 10 := by
    unfold frD
    split
    · simp
    · have := (frc_cut nn hn 90 [] (by decide)).2.2
      simp only [List.length_append, List.length_singleton]
      omega
  unfold headD
  simp only [List.length_append, digs_len, List.length_singleton]
  omega
theorem norm_id (s n : Int) (hs : inI s) (h0 : 0 ≤ n) (h1 : n < 1000000000) : nSec s n = s ∧ nNano s n = n := by
  have ht : tot s n = s * 1000000000 + n := rfl
  obtain ⟨a, b⟩ := hs
  unfold nSec nNano
  rw [ht, if_neg (by omega), if_neg (by omega), if_neg (by omega), if_neg (by omega)]
  omega
theorem norm_twice (s n : Int) : nSec (nSec s n) (nNano s n) = nSec s n ∧ nNano (nSec s n) (nNano s n) = nNano s n := by
  have h1 := nSec_in s n
  have h2 := nNano_in s n
  exact norm_id _ _ ⟨h1.1, h1.2⟩ h2.1 (by omega)
end Go.Proofs.YtemcilikchlaiabDoor.st
