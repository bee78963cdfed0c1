/- The document's numbers. -/
import Derived.Test.YtnkphlkjhgngkaaGreatDoorRef1Jt
namespace Go.Proofs.YtnkphlkjhgngkaaGreatDoor
open Go.RowKit
set_option maxRecDepth 20000 in
theorem numFrom_app (a : List UInt8) (c : UInt8) (acc : Nat) : numFrom acc (a ++ [c]) = numFrom acc a * 10 + (c.toNat - 48):=by
 induction a generalizing acc with
 | nil => rfl
 | cons d r ih => exact ih _
set_option maxRecDepth 20000 in
theorem seg_succ (l : List UInt8) (k m : Nat) (hk : k ≤ m) (hm : m < l.length) : seg l k (m + 1) = seg l k m ++ [l[m]]:=by
 unfold seg
 rw [Nat.succ_sub hk,List.take_add_one]
 congr 1
 rw [List.getElem?_drop,show k + (m - k) = m by omega,List.getElem?_eq_getElem hm]
 rfl
set_option maxRecDepth 20000 in
theorem seg_self (l : List UInt8) (k : Nat) : seg l k k = []:=by unfold seg; rw [Nat.sub_self]; rfl
set_option maxRecDepth 20000 in
theorem seg_len (l : List UInt8) (k m : Nat) (hm : m ≤ l.length) : (seg l k m).length = m - k:=by
 unfold seg; simp; omega
set_option maxRecDepth 20000 in
theorem num_succ (s : ByteArray) (k m : Nat) (hk : k ≤ m) (hm : m < s.size) : numOf (seg s.data.toList k (m + 1)) = numOf (seg s.data.toList k m) * 10 + (s[m].toNat - 48):=by
 rw [seg_succ _ _ _ hk (by simpa using hm)]
 unfold numOf
 rw [numFrom_app]
 rfl
set_option maxRecDepth 20000 in
theorem num_lt (l : List UInt8) (acc : Nat) (h : l.all digitP = true) : numFrom acc l < (acc + 1) * 10 ^ l.length:=by
 induction l generalizing acc with
 | nil => show acc < (acc + 1) * 1; omega
 | cons c r ih =>
  rw [List.all_cons,Bool.and_eq_true] at h
  have hd:=(digit_iff c).1 h.1
  have h1:=ih (acc * 10 + (c.toNat - 48)) h.2
  have h2 : acc * 10 + (c.toNat - 48) + 1 ≤ (acc + 1) * 10:=by omega
  have h3 : (acc + 1) * 10 ^ (c :: r).length = (acc + 1) * 10 * 10 ^ r.length:=by
   rw [List.length_cons,Nat.pow_succ,Nat.mul_comm (10 ^ r.length) 10,← Nat.mul_assoc]
  rw [h3]
  exact Nat.lt_of_lt_of_le h1 (Nat.mul_le_mul_right _ h2)
set_option maxRecDepth 20000 in
theorem num_gt (l : List UInt8) (acc : Nat) : acc * 10 ^ l.length ≤ numFrom acc l:=by
 induction l generalizing acc with
 | nil => show acc * 1 ≤ acc; omega
 | cons c r ih =>
  have:=ih (acc * 10 + (c.toNat - 48))
  show _ ≤ numFrom (acc * 10 + (c.toNat - 48)) r
  refine Nat.le_trans ?_ this
  rw [List.length_cons,Nat.pow_succ,Nat.mul_comm (10 ^ r.length) 10,← Nat.mul_assoc]
  exact Nat.mul_le_mul_right _ (by omega)
/-- What the document's number answers: the number and where it ends. -/
def numR : Option Tok → Value
  | some (_,_,v,e) => .tuple #[.int .i64 v,.int .i64 e]
  | none => .tuple #[.int .i64 0,.int .i64 (-1)]
set_option maxRecDepth 20000 in
theorem end_seg_all (p : UInt8 → Bool) (l : List UInt8) (k m : Nat) (hm : m ≤ endOf p l k) : (seg l k m).all p = true:=by
 rw [List.all_eq_true]
 intro x hx
 have : x ∈ seg l k (endOf p l k):=by
  unfold seg at hx ⊢
  exact List.take_subset_take_left (l.drop k) (by omega) hx
 rw [seg_takeWhile] at this
 exact List.all_eq_true.1 (all_takeWhile p _) x this
set_option maxRecDepth 20000 in
theorem numL_long (s : ByteArray) (k : Nat) (hk : k < s.size) (hd : digitP s[k] = true) (h : 20 ≤ endOf digitP s.data.toList k - k) : numL s.data.toList k = none:=by
 unfold numL
 have hle:=endOf_le digitP s.data.toList k (by simp; omega)
 rw [getElem_list s k hk]
 by_cases h48 : s[k] = 48
 · rw [if_pos ⟨by rw [h48],by omega⟩]
 · rw [if_neg (by intro hh; exact h48 (Option.some.inj hh.1))]
   by_cases hf : atP firstP s.data.toList (endOf digitP s.data.toList k) = true
   · rw [if_pos hf]
   · rw [if_neg hf,if_pos]
     have hd':=(digit_iff s[k]).1 hd
     have hne : s[k].toNat ≠ 48:=fun e => h48 (UInt8.toNat_inj.1 (by rw [e]; rfl))
     have hl:=seg_len s.data.toList k _ hle
     match hsg : seg s.data.toList k (endOf digitP s.data.toList k),hl with
     | [],hl => simp at hl; omega
     | c :: r,hl =>
      have hc : c = s[k]:=by
       have h0 : (seg s.data.toList k (endOf digitP s.data.toList k))[0]? = some s[k]:=by
        unfold seg
        rw [List.getElem?_take_of_lt (by omega),List.getElem?_drop,Nat.add_zero,getElem_list s k hk]
       rw [hsg] at h0
       simpa using h0
      subst hc
      have:=num_gt r (0 * 10 + (s[k].toNat - 48))
      show _ ≤ numFrom (0 * 10 + (s[k].toNat - 48)) r
      refine Nat.le_trans ?_ this
      have h1 : 19 ≤ r.length:=by simp at hl; omega
      have h2 : 10 ^ 19 ≤ 10 ^ r.length:=Nat.pow_le_pow_right (by omega) h1
      have h3 : 1 * 10 ^ r.length ≤ (0 * 10 + (s[k].toNat - 48)) * 10 ^ r.length:=Nat.mul_le_mul_right _ (by omega)
      have h4 : (9223372036854775808 : Nat) ≤ 10 ^ 19:=by decide
      omega
end Go.Proofs.YtnkphlkjhgngkaaGreatDoor

namespace Go.Proofs.YtnkphlkjhgngkaaGreatDoor
open Go.RowKit
/-- n is the value of the digits from k to m. -/
def NumTo (l : List UInt8) (k m n : Nat) : Prop:=n = numOf (seg l k m) ∧ endOf digitP l m = endOf digitP l k ∧ k ≤ m
set_option maxRecDepth 20000 in
theorem NumTo.start (l : List UInt8) (k : Nat) : NumTo l k k 0:=⟨by rw [seg_self]; rfl,rfl,Nat.le_refl _⟩
set_option maxRecDepth 20000 in
theorem NumTo.step {s : ByteArray} {k m n : Nat} (h : NumTo s.data.toList k m n) (hm : m < s.size) (hd : digitP s[m] = true) : NumTo s.data.toList k (m + 1) (n * 10 + (s[m].toNat - 48)):=by
 obtain ⟨h1,h2,h3⟩:=h
 refine ⟨by rw [num_succ s k m h3 hm,h1],?_,by omega⟩
 rw [← h2]
 exact (endOf_yes (by rw [atP_lt hm]; exact hd)).2
set_option maxRecDepth 20000 in
theorem NumTo.lt {s : ByteArray} {k m n : Nat} (h : NumTo s.data.toList k m n) (hm : m ≤ s.size) : n < 10 ^ (m - k):=by
 obtain ⟨h1,h2,h3⟩:=h
 have ha:=end_seg_all digitP s.data.toList k m (by rw [← h2]; exact endOf_ge _ _ _)
 have:=num_lt _ 0 ha
 rw [seg_len _ _ _ (by simpa using hm)] at this
 rw [h1]
 unfold numOf
 omega
set_option maxRecDepth 20000 in
theorem NumTo.lt18 {s : ByteArray} {k m n : Nat} (h : NumTo s.data.toList k m n) (hm : m ≤ s.size) (hk : m - k ≤ 18) : n < 1000000000000000000:=by
 have h1:=h.lt hm
 have h2 : 10 ^ (m - k) ≤ 10 ^ 18:=Nat.pow_le_pow_right (by omega) hk
 have h3 : (10 : Nat) ^ 18 = 1000000000000000000:=by decide
 omega
set_option maxRecDepth 20000 in
theorem NumTo.lt19 {s : ByteArray} {k m n : Nat} (h : NumTo s.data.toList k m n) (hm : m ≤ s.size) (hk : m - k ≤ 19) : n < 10000000000000000000:=by
 have h1:=h.lt hm
 have h2 : 10 ^ (m - k) ≤ 10 ^ 19:=Nat.pow_le_pow_right (by omega) hk
 have h3 : (10 : Nat) ^ 19 = 10000000000000000000:=by decide
 omega
set_option maxRecDepth 20000 in
theorem NumTo.over {s : ByteArray} {k m n : Nat} (h : NumTo s.data.toList k m n) (hm : m < s.size) (hd : digitP s[m] = true) (hk : k < s.size) (hdk : digitP s[k] = true) (h19 : 19 ≤ m - k) : numL s.data.toList k = none:=by
 refine numL_long s k hk hdk ?_
 have h1:=endOf_gt (p:=digitP) (l:=s.data.toList) (k:=m) (by rw [atP_lt hm]; exact hd)
 rw [h.2.1] at h1
 omega
set_option maxRecDepth 20000 in
theorem NumTo.fin {s : ByteArray} {k m n : Nat} (h : NumTo s.data.toList k m n) (ha : atP digitP s.data.toList m = false) : endOf digitP s.data.toList k = m:=by
 rw [← h.2.1]; exact endOf_no ha
set_option maxRecDepth 20000 in
theorem NumTo.big {s : ByteArray} {k m n : Nat} (h : NumTo s.data.toList k m n) (ha : atP digitP s.data.toList m = false) (hb : 9223372036854775807 < n) : numL s.data.toList k = none:=by
 have e:=h.fin ha
 unfold numL
 rw [e]
 repeat' split
 all_goals first | rfl | skip
 rename_i h3
 rw [← h.1] at h3
 omega
set_option maxRecDepth 20000 in
theorem NumTo.nought {s : ByteArray} {k m n : Nat} (h : NumTo s.data.toList k m n) (ha : atP digitP s.data.toList m = false) (hk : k < s.size) (h48 : ((s[k].toNat : Int) == 48) = true) (hb : k + 1 < m) : numL s.data.toList k = none:=by
 have e:=h.fin ha
 have h48' : s[k] = 48:=UInt8.toNat_inj.1 (by have:=beq_iff_eq.1 h48; rw [show (48 : UInt8).toNat = 48 from rfl]; omega)
 unfold numL
 rw [e,if_pos ⟨by rw [getElem_list s k hk,h48'],hb⟩]
set_option maxRecDepth 20000 in
theorem NumTo.letter {s : ByteArray} {k m n : Nat} (h : NumTo s.data.toList k m n) (ha : atP digitP s.data.toList m = false) (hf : atP firstP s.data.toList m = true) : numL s.data.toList k = none:=by
 have e:=h.fin ha
 unfold numL
 rw [e]
 rw [if_pos hf]
 split <;> rfl
set_option maxRecDepth 20000 in
theorem NumTo.good {s : ByteArray} {k m n : Nat} (h : NumTo s.data.toList k m n) (ha : atP digitP s.data.toList m = false) (hk : k < s.size) (h1 : ((s[k].toNat : Int) == 48) = false ∨ ¬ k + 1 < m) (hf : atP firstP s.data.toList m = false) (hb : ¬ 9223372036854775807 < n) : numL s.data.toList k = some (2,[],(n : Int),m):=by
 have e:=h.fin ha
 unfold numL
 rw [e,if_neg,hf,if_neg (by simp),← h.1,if_neg (by omega)]
 rw [getElem_list s k hk]
 rintro ⟨h2,h3⟩
 rcases h1 with h1 | h1
 · rw [Option.some.inj h2] at h1
   exact absurd h1 (by decide)
 · exact h1 h3
set_option maxRecDepth 20000 in
set_option maxHeartbeats 2000000 in
theorem numberR_any (s : ByteArray) (hs : s.size ≤ 65536) (k : Nat) (hk : k < s.size) (hdk : digitP s[k] = true) (w : World) :
    Calls Tryz.prog 70 #[.string s,.int .i64 k] w fun e w' => e = .returned (numR (numL s.data.toList k)) ∧ w' = w:=by
  have HDK:=Lib.hid hdk
  clear hdk
  go_enter Tryz.func70,Tryz.ntmps70
  go_wp2
  go_loop [6,7] (fun i v => ∃ m n : Nat,k ≤ m ∧ m ≤ s.size ∧ m - k ≤ 19 ∧ i = .int .i64 m ∧ v = .int .u64 n ∧ Hid (NumTo s.data.toList k m n)) (fun i _ => s.size - (intOf i).toNat)
  case atStart => exact ⟨k,0,Nat.le_refl _,by omega,by omega,rfl,rfl,NumTo.start _ _⟩
  case round =>
   obtain ⟨m,n,hkm,hm,h19,rfl,rfl,HN⟩:=hrel
   by_cases hlt : m < s.size
   · have cD:=digitR_any s[m]
     cases hd : digitP s[m]
     · have hat : atP digitP s.data.toList m = false:=by rw [atP_lt hlt]; exact hd
       rw [hd] at cD
       have HAT:=Lib.hid hat
       clear hd hat
       have HNN:=HN
       by_cases hbig : 9223372036854775807 < n
       · have HX:=Lib.hid (HN.out.big HAT.out hbig)
         go_wp2_with fail
         refine (cD _).mono ?_
         rintro e w' ⟨rfl,hw'⟩
         subst hw'
         go_wp2
         go_ret2
         exact ⟨by rw [HX.out]; rfl,rfl⟩
       · have cL:=letterR_any s[m]
         have hatf:=atP_lt (p:=firstP) (s:=s) hlt
         have hbig' : decide (9223372036854775807 < (n : Int)) = false:=by simp; omega
         cases h48 : ((s[k].toNat : Int) == 48)
         · cases hf : firstP s[m]
           · rw [hf] at cL hatf
             have HX:=Lib.hid (HN.out.good HAT.out hk (Or.inl h48) hatf hbig)
             clear hf hatf
             go_wp2_with fail
             refine (cD _).mono ?_
             rintro e w' ⟨rfl,hw'⟩
             subst hw'
             go_wp2_with fail
             refine (cL _).mono ?_
             rintro e w' ⟨rfl,hw'⟩
             subst hw'
             go_wp2
             go_ret2
             exact ⟨by rw [HX.out]; rfl,rfl⟩
           · rw [hf] at cL hatf
             have HX:=Lib.hid (HN.out.letter HAT.out hatf)
             clear hf hatf
             go_wp2_with fail
             refine (cD _).mono ?_
             rintro e w' ⟨rfl,hw'⟩
             subst hw'
             go_wp2_with fail
             refine (cL _).mono ?_
             rintro e w' ⟨rfl,hw'⟩
             subst hw'
             go_wp2
             go_ret2
             exact ⟨by rw [HX.out]; rfl,rfl⟩
         · by_cases hk1 : k + 1 < m
           · have HX:=Lib.hid (HN.out.nought HAT.out hk h48 hk1)
             go_wp2_with fail
             refine (cD _).mono ?_
             rintro e w' ⟨rfl,hw'⟩
             subst hw'
             go_wp2
             go_ret2
             exact ⟨by rw [HX.out]; rfl,rfl⟩
           · cases hf : firstP s[m]
             · rw [hf] at cL hatf
               have HX:=Lib.hid (HN.out.good HAT.out hk (Or.inr hk1) hatf hbig)
               clear hf hatf
               go_wp2_with fail
               refine (cD _).mono ?_
               rintro e w' ⟨rfl,hw'⟩
               subst hw'
               go_wp2_with fail
               refine (cL _).mono ?_
               rintro e w' ⟨rfl,hw'⟩
               subst hw'
               go_wp2
               go_ret2
               exact ⟨by rw [HX.out]; rfl,rfl⟩
             · rw [hf] at cL hatf
               have HX:=Lib.hid (HN.out.letter HAT.out hatf)
               clear hf hatf
               go_wp2_with fail
               refine (cD _).mono ?_
               rintro e w' ⟨rfl,hw'⟩
               subst hw'
               go_wp2_with fail
               refine (cL _).mono ?_
               rintro e w' ⟨rfl,hw'⟩
               subst hw'
               go_wp2
               go_ret2
               exact ⟨by rw [HX.out]; rfl,rfl⟩
     · rw [hd] at cD
       by_cases hover : m - k = 19
       · have HX:=Lib.hid (HN.out.over hlt hd hk HDK.out (by omega))
         clear hd
         go_wp2_with fail
         refine (cD _).mono ?_
         rintro e w' ⟨rfl,hw'⟩
         subst hw'
         go_wp2
         go_ret2
         exact ⟨by rw [HX.out]; rfl,rfl⟩
       · have HX:=Lib.hid (HN.out.step hlt hd)
         have hn:=HN.out.lt18 hm (by omega)
         have hd':=(digit_iff s[m]).1 hd
         clear hd
         go_wp2_with fail
         refine (cD _).mono ?_
         rintro e w' ⟨rfl,hw'⟩
         subst hw'
         go_wp2
         go_round
         case rel => exact ⟨m + 1,n * 10 + (s[m].toNat - 48),by omega,by omega,by omega,by go_num,by go_num,HX⟩
         case measure => simp [intOf]; omega
   · have HAT:=Lib.hid (atP_ge (p:=digitP) hlt)
     have HATF:=Lib.hid (atP_ge (p:=firstP) hlt)
     by_cases hbig : 9223372036854775807 < n
     · have HX:=Lib.hid (HN.out.big HAT.out hbig)
       go_wp2
       go_ret2
       exact ⟨by rw [HX.out]; rfl,rfl⟩
     · have hbig' : decide (9223372036854775807 < (n : Int)) = false:=by simp; omega
       cases h48 : ((s[k].toNat : Int) == 48)
       · have HX:=Lib.hid (HN.out.good HAT.out hk (Or.inl h48) HATF.out hbig)
         go_wp2
         go_ret2
         exact ⟨by rw [HX.out]; rfl,rfl⟩
       · by_cases hk1 : k + 1 < m
         · have HX:=Lib.hid (HN.out.nought HAT.out hk h48 hk1)
           go_wp2
           go_ret2
           exact ⟨by rw [HX.out]; rfl,rfl⟩
         · have HX:=Lib.hid (HN.out.good HAT.out hk (Or.inr hk1) HATF.out hbig)
           go_wp2
           go_ret2
           exact ⟨by rw [HX.out]; rfl,rfl⟩
end Go.Proofs.YtnkphlkjhgngkaaGreatDoor
