/- The document's own scanner: letters, digits, reserved words, names. -/
import Derived.Test.YtnkphlkjhgngkaaGreatDoorScanJt
namespace Go.Proofs.YtnkphlkjhgngkaaGreatDoor
open Go.RowKit
set_option maxRecDepth 20000 in
theorem first_eq : ∀ b : UInt8,firstP b = (decide (97 ≤ (b.toNat : Int)) && decide ((b.toNat : Int) ≤ 122) || decide (65 ≤ (b.toNat : Int)) && decide ((b.toNat : Int) ≤ 90) || ((b.toNat : Int) == 95)):=byte_all (by decide +kernel)
set_option maxRecDepth 20000 in
set_option maxHeartbeats 1000000 in
theorem digitR_any (b : UInt8) (w : World) : Calls Tryz.prog 68 #[.int .u8 b.toNat] w fun e w' => e = .returned (.bool (digitP b)) ∧ w' = w:=by
 by_cases h1 : 48 ≤ (b.toNat : Int) <;> by_cases h2 : (b.toNat : Int) ≤ 57
 all_goals
  go_enter Tryz.func68,Tryz.ntmps68
  go_wp2
  all_goals first | (exfalso; omega) | (go_ret; exact ⟨by simp [digitP,betweenP,h1,h2],rfl⟩)
set_option maxRecDepth 20000 in
set_option maxHeartbeats 4000000 in
theorem letterR_any (b : UInt8) (w : World) : Calls Tryz.prog 67 #[.int .u8 b.toNat] w fun e w' => e = .returned (.bool (firstP b)) ∧ w' = w:=by
 rw [first_eq]
 cases h5 : ((b.toNat : Int) == 95)
 all_goals
  by_cases h1 : 97 ≤ (b.toNat : Int) <;> by_cases h2 : (b.toNat : Int) ≤ 122 <;> by_cases h3 : 65 ≤ (b.toNat : Int) <;> by_cases h4 : (b.toNat : Int) ≤ 90
  all_goals first | (exfalso; omega) | skip
  all_goals
   go_enter Tryz.func67,Tryz.ntmps67
   go_wp2
   all_goals first | (exfalso; omega) | (go_ret; exact ⟨by simp [h1,h2,h3,h4],rfl⟩)
set_option maxRecDepth 20000 in
theorem wordP_hit {l : List UInt8} {k : Nat} {x : List UInt8} (h : words[k]? = some x) (he : l = x) : wordP l = true:=by
 unfold wordP
 rw [List.contains_iff_mem,he]
 exact List.mem_of_getElem? h
set_option maxRecDepth 20000 in
theorem wordP_none {l : List UInt8} (h : ∀ (k : Nat) (x : List UInt8),words[k]? = some x → ¬ l = x) : wordP l = false:=by
 unfold wordP
 rw [List.contains_eq_mem,decide_eq_false_iff_not]
 intro hm
 obtain ⟨k,hk⟩:=List.mem_iff_getElem?.1 hm
 exact h k l hk rfl
set_option maxRecDepth 20000 in
set_option maxHeartbeats 1000000 in
theorem reservedR_any (s : ByteArray) (w : World) : Calls Tryz.prog 69 #[.string s] w fun e w' => e = .returned (.bool (wordP s.toList)) ∧ Below w.heap.size w w':=by
 go_enter Tryz.func69,Tryz.ntmps69
 go_wp2_with fail
 have hb : Below w.heap.size w (w.alloc (.cells #[.string ⟨#[116,121,112,101]⟩,.string ⟨#[115,116,114,117,99,116]⟩,.string ⟨#[105,110,116,101,114,102,97,99,101]⟩,.string ⟨#[102,117,110,99]⟩,.string ⟨#[118,97,114]⟩,.string ⟨#[105,102]⟩,.string ⟨#[101,108,115,101]⟩,.string ⟨#[102,111,114]⟩,.string ⟨#[114,101,116,117,114,110]⟩,.string ⟨#[98,114,101,97,107]⟩,.string ⟨#[99,111,110,116,105,110,117,101]⟩,.string ⟨#[116,114,117,101]⟩,.string ⟨#[102,97,108,115,101]⟩,.string ⟨#[110,105,108]⟩] 9)):=(Below.refl _ _).alloc (Nat.le_refl _) _
 have HC : Hid (∀ k x,words[k]? = some x → (w.alloc (.cells #[.string ⟨#[116,121,112,101]⟩,.string ⟨#[115,116,114,117,99,116]⟩,.string ⟨#[105,110,116,101,114,102,97,99,101]⟩,.string ⟨#[102,117,110,99]⟩,.string ⟨#[118,97,114]⟩,.string ⟨#[105,102]⟩,.string ⟨#[101,108,115,101]⟩,.string ⟨#[102,111,114]⟩,.string ⟨#[114,101,116,117,114,110]⟩,.string ⟨#[98,114,101,97,107]⟩,.string ⟨#[99,111,110,116,105,110,117,101]⟩,.string ⟨#[116,114,117,101]⟩,.string ⟨#[102,97,108,115,101]⟩,.string ⟨#[110,105,108]⟩] 9)).cell? ⟨w.heap.size,k,none⟩ = some (.string ⟨x.toArray⟩)):=by
  intro k x hx
  match k,hx with
  | 0,hx => cases hx; simp
  | 1,hx => cases hx; simp
  | 2,hx => cases hx; simp
  | 3,hx => cases hx; simp
  | 4,hx => cases hx; simp
  | 5,hx => cases hx; simp
  | 6,hx => cases hx; simp
  | 7,hx => cases hx; simp
  | 8,hx => cases hx; simp
  | 9,hx => cases hx; simp
  | 10,hx => cases hx; simp
  | 11,hx => cases hx; simp
  | 12,hx => cases hx; simp
  | 13,hx => cases hx; simp
  | n + 14,hx => cases hx
 generalize w.alloc (.cells #[.string ⟨#[116,121,112,101]⟩,.string ⟨#[115,116,114,117,99,116]⟩,.string ⟨#[105,110,116,101,114,102,97,99,101]⟩,.string ⟨#[102,117,110,99]⟩,.string ⟨#[118,97,114]⟩,.string ⟨#[105,102]⟩,.string ⟨#[101,108,115,101]⟩,.string ⟨#[102,111,114]⟩,.string ⟨#[114,101,116,117,114,110]⟩,.string ⟨#[98,114,101,97,107]⟩,.string ⟨#[99,111,110,116,105,110,117,101]⟩,.string ⟨#[116,114,117,101]⟩,.string ⟨#[102,97,108,115,101]⟩,.string ⟨#[110,105,108]⟩] 9) = W at *
 go_loop [7] (fun i => ∃ k : Nat,k ≤ 14 ∧ i = .int .i64 k ∧ Hid (∀ (j : Nat) (x : List UInt8),j < k → words[j]? = some x → ¬ s.toList = x)) (fun i => 14 - (intOf i).toNat)
 case atStart => exact ⟨0,Nat.zero_le _,rfl,fun j x h => absurd h (Nat.not_lt_zero _)⟩
 case round =>
  obtain ⟨k,hk,rfl,HZ⟩:=hrel
  by_cases hlt : k < 14
  · obtain ⟨x,hx⟩ : ∃ x,words[k]? = some x:=⟨words[k]'(by exact hlt),List.getElem?_eq_getElem _⟩
    have hc:=HC.out k x hx
    have HX:=Lib.hid hx
    clear hx
    generalize hxs : (⟨x.toArray⟩ : ByteArray) = t at *
    have HT : Hid (t.toList = x):=by show t.toList = x; rw [← hxs,Lib.toList_data]
    clear hxs
    cases he : (s.toList == t.toList)
    · have HE:=Lib.hid he
      go_wp2
      go_round
      case rel => exact ⟨k + 1,by omega,by go_num,fun j y h h' => by
       rcases Nat.lt_succ_iff_lt_or_eq.1 h with h | h
       · exact HZ.out j y h h'
       · subst h
         have:=HX.out
         rw [h'] at this
         cases this
         intro e
         have h2:=HE.out
         rw [HT.out,e] at h2
         simp at h2⟩
      case measure => simp [intOf]; omega
    · have HE:=Lib.hid he
      go_wp2
      go_ret
      exact ⟨by rw [wordP_hit HX.out (by have:=HE.out; rw [HT.out] at this; simpa using this)]; rfl,hb⟩
  · go_wp2
    go_ret
    exact ⟨by rw [wordP_none (fun j x h => HZ.out j x (by have:=(List.getElem?_eq_some_iff.1 h).1; have e : words.length = 14:=rfl; omega) h)]; rfl,hb⟩
end Go.Proofs.YtnkphlkjhgngkaaGreatDoor

namespace Go.Proofs.YtnkphlkjhgngkaaGreatDoor
open Go.RowKit
def hexI (c : UInt8) : Int:=match hexV c with
  | some v => v
  | none => -1
set_option maxRecDepth 20000 in
theorem hexI_dig (c : UInt8) (h : digitP c = true) : hexI c = (c.toNat : Int) - 48:=by
 have h':=(digit_iff c).1 h
 unfold hexI
 rw [hex_dig c h']
 show ((c.toNat - 48 : Nat) : Int) = _
 omega
set_option maxRecDepth 20000 in
theorem hexI_low (c : UInt8) (h1 : 97 ≤ (c.toNat : Int)) (h2 : (c.toNat : Int) ≤ 102) : hexI c = (c.toNat : Int) - 97 + 10:=by
 have h' : ¬ (48 ≤ c.toNat ∧ c.toNat ≤ 57):=by omega
 unfold hexI hexV
 rw [if_neg h',if_pos (by omega)]
 show ((c.toNat - 87 : Nat) : Int) = _
 omega
set_option maxRecDepth 20000 in
theorem hexI_up (c : UInt8) (h1 : 65 ≤ (c.toNat : Int)) (h2 : (c.toNat : Int) ≤ 70) : hexI c = (c.toNat : Int) - 65 + 10:=by
 unfold hexI hexV
 rw [if_neg (by omega),if_neg (by omega),if_pos (by omega)]
 show ((c.toNat - 55 : Nat) : Int) = _
 omega
set_option maxRecDepth 20000 in
theorem hexI_no (c : UInt8) (h : digitP c = false) (h1 : ¬ (97 ≤ (c.toNat : Int) ∧ (c.toNat : Int) ≤ 102)) (h2 : ¬ (65 ≤ (c.toNat : Int) ∧ (c.toNat : Int) ≤ 70)) : hexI c = -1:=by
 have h' : ¬ (48 ≤ c.toNat ∧ c.toNat ≤ 57):=by
  intro hh
  rw [(digit_iff c).2 hh] at h
  cases h
 unfold hexI hexV
 rw [if_neg h',if_neg (by omega),if_neg (by omega)]
set_option maxRecDepth 20000 in
set_option maxHeartbeats 2000000 in
theorem hexR_any (b : UInt8) (w : World) : Calls Tryz.prog 111 #[.int .u8 b.toNat] w fun e w' => e = .returned (.int .i64 (hexI b)) ∧ w' = w:=by
 have cD:=digitR_any b w
 have hb256:=b.toNat_lt
 cases hd : digitP b <;> rw [hd] at cD
 · by_cases h1 : 97 ≤ (b.toNat : Int)
   · by_cases h2 : (b.toNat : Int) ≤ 102
     · have HX:=Lib.hid (hexI_low b h1 h2)
       clear hd
       go_enter Tryz.func111,Tryz.ntmps111
       go_wp2_with (go_at_call 68; refine cD.mono ?_; rintro e w' ⟨rfl,rfl⟩)
       go_ret
       exact ⟨by rw [HX.out]; rfl,rfl⟩
     · have HX:=Lib.hid (hexI_no b hd (by omega) (by omega))
       clear hd
       go_enter Tryz.func111,Tryz.ntmps111
       go_wp2_with (go_at_call 68; refine cD.mono ?_; rintro e w' ⟨rfl,rfl⟩)
       all_goals first | (exfalso; omega) | skip
       go_ret
       exact ⟨by rw [HX.out]; rfl,rfl⟩
   · by_cases h3 : 65 ≤ (b.toNat : Int)
     · by_cases h4 : (b.toNat : Int) ≤ 70
       · have HX:=Lib.hid (hexI_up b h3 h4)
         clear hd
         go_enter Tryz.func111,Tryz.ntmps111
         go_wp2_with (go_at_call 68; refine cD.mono ?_; rintro e w' ⟨rfl,rfl⟩)
         go_ret
         exact ⟨by rw [HX.out]; rfl,rfl⟩
       · have HX:=Lib.hid (hexI_no b hd (by omega) (by omega))
         clear hd
         go_enter Tryz.func111,Tryz.ntmps111
         go_wp2_with (go_at_call 68; refine cD.mono ?_; rintro e w' ⟨rfl,rfl⟩)
         go_ret
         exact ⟨by rw [HX.out]; rfl,rfl⟩
     · have HX:=Lib.hid (hexI_no b hd (by omega) (by omega))
       clear hd
       go_enter Tryz.func111,Tryz.ntmps111
       go_wp2_with (go_at_call 68; refine cD.mono ?_; rintro e w' ⟨rfl,rfl⟩)
       go_ret
       exact ⟨by rw [HX.out]; rfl,rfl⟩
 · have HX:=Lib.hid (hexI_dig b hd)
   have h1:=((digit_iff b).1 hd).1
   clear hd
   go_enter Tryz.func111,Tryz.ntmps111
   go_wp2_with (go_at_call 68; refine cD.mono ?_; rintro e w' ⟨rfl,rfl⟩)
   go_ret
   exact ⟨by rw [HX.out]; rfl,rfl⟩
set_option maxRecDepth 20000 in
theorem blank_eq : ∀ b : UInt8,blankP b = (((b.toNat : Int) == 9) || ((b.toNat : Int) == 10) || ((b.toNat : Int) == 13) || ((b.toNat : Int) == 32)):=byte_all (by decide +kernel)
set_option maxRecDepth 20000 in
theorem remark_eq : ∀ b : UInt8,remarkP b = ((b.toNat : Int) != 10):=byte_all (by decide +kernel)
set_option maxRecDepth 20000 in
theorem blank47 : blankP 47 = false:=by decide +kernel
set_option maxRecDepth 20000 in
theorem skipTo_one {l : List UInt8} {k : Nat} (h : atP blankP l k = true) : skipTo l (k + 1) = skipTo l k:=by
 unfold atP at h
 cases hk : l[k]? with
 | none => rw [hk] at h; cases h
 | some c =>
  rw [hk] at h
  obtain ⟨hl,rfl⟩:=List.getElem?_eq_some_iff.1 hk
  unfold skipTo
  rw [List.drop_eq_getElem_cons hl]
  have h' : blankP l[k] = true:=h
  simp [skipN,h']
  omega
set_option maxRecDepth 20000 in
theorem slash2 (l : List UInt8) (k : Nat) : Lib.hasPrefix (l.drop k) [47,47] = (l[k]? == some 47 && l[k + 1]? == some 47):=by
 unfold Lib.hasPrefix
 have h1 : l[k]? = (l.drop k)[0]?:=by simp
 have h2 : l[k + 1]? = (l.drop k)[1]?:=by simp
 rw [h1,h2]
 match l.drop k with
 | [] => rfl
 | [c] => simp [List.isPrefixOf]
 | c :: d :: r => simp [List.isPrefixOf]; rw [Bool.eq_iff_iff]; simp; constructor <;> (rintro ⟨a,b⟩; exact ⟨a.symm,b.symm⟩)
end Go.Proofs.YtnkphlkjhgngkaaGreatDoor

namespace Go.Proofs.YtnkphlkjhgngkaaGreatDoor
open Go.RowKit
set_option maxRecDepth 20000 in
theorem b47 : ∀ b : UInt8,(b == 47) = ((b.toNat : Int) == 47):=byte_all (by decide +kernel)
set_option maxRecDepth 20000 in
theorem someb (a b : UInt8) : (some a == some b) = (a == b):=rfl
set_option maxRecDepth 20000 in
theorem slash_no0 (s : ByteArray) (j : Nat) (h : j < s.size) (ha : ((s[j].toNat : Int) == 47) = false) : Lib.hasPrefix (s.data.toList.drop j) [47,47] = false:=by
 rw [slash2,getElem_list s j h,someb,b47,ha]; rfl
set_option maxRecDepth 20000 in
theorem slash_short (s : ByteArray) (j : Nat) (h : ¬ j + 1 < s.size) : Lib.hasPrefix (s.data.toList.drop j) [47,47] = false:=by
 rw [slash2,show s.data.toList[j + 1]? = none from List.getElem?_eq_none (by simpa using h)]; simp
set_option maxRecDepth 20000 in
theorem slash_no1 (s : ByteArray) (j : Nat) (h : j + 1 < s.size) (ha : ((s[j + 1].toNat : Int) == 47) = false) : Lib.hasPrefix (s.data.toList.drop j) [47,47] = false:=by
 rw [slash2,getElem_list s (j + 1) h,someb (s[j + 1]),b47 (s[j + 1]),ha]; simp
set_option maxRecDepth 20000 in
theorem slash_yes (s : ByteArray) (j : Nat) (h : j + 1 < s.size) (ha : ((s[j].toNat : Int) == 47) = true) (hb : ((s[j + 1].toNat : Int) == 47) = true) : Lib.hasPrefix (s.data.toList.drop j) [47,47] = true:=by
 rw [slash2,getElem_list s (j + 1) h,someb (s[j + 1]),b47 (s[j + 1]),hb,getElem_list s j (by omega),someb,b47,ha]; rfl
set_option maxRecDepth 20000 in
set_option maxHeartbeats 2000000 in
theorem blanksR_any (s : ByteArray) (hs : s.size ≤ 65536) (k : Nat) (hkm : k ≤ s.size) (w : World) :
    Calls Tryz.prog 37 #[.string s,.int .i64 k] w fun e w' => e = .returned (.int .i64 (skipTo s.data.toList k)) ∧ w' = w:=by
  have hll : s.data.toList.length = s.size:=by simp
  have HL : Hid (s.data.toList.length = s.size):=hll
  clear hll
  go_enter Tryz.func37,Tryz.ntmps37
  go_wp2
  go_loop [1] (fun i => ∃ j : Nat,j ≤ s.size ∧ i = .int .i64 j ∧ Hid (skipTo s.data.toList j = skipTo s.data.toList k)) (fun i => s.size - (intOf i).toNat)
  case atStart => exact ⟨k,hkm,rfl,rfl⟩
  case round =>
   obtain ⟨j,hj,rfl,HE⟩:=hrel
   by_cases hlt : j < s.size
   · have hb:=blank_eq s[j]
     have hat:=atP_lt (p:=blankP) (s:=s) hlt
     cases hbl : blankP s[j]
     · rw [hbl] at hb hat
       have hb':=hb.symm
       simp only [Bool.or_eq_false_iff] at hb'
       obtain ⟨⟨⟨h9,h10⟩,h13⟩,h32⟩:=hb'
       have HEND : Hid (Lib.hasPrefix (s.data.toList.drop j) [47,47] = false → skipTo s.data.toList k = j):=fun h => HE.out.symm.trans (skipTo_end _ _ hat h)
       clear hb hbl hat
       by_cases h1 : j + 1 < s.size
       · cases ha : ((s[j].toNat : Int) == 47)
         · have HNO:=Lib.hid (HEND.out (slash_no0 s j hlt ha))
           go_wp2
           go_ret
           exact ⟨by rw [HNO.out]; rfl,rfl⟩
         · cases hc : ((s[j + 1].toNat : Int) == 47)
           · have HNO:=Lib.hid (HEND.out (slash_no1 s j h1 hc))
             go_wp2
             go_ret
             exact ⟨by rw [HNO.out]; rfl,rfl⟩
           · have HR:=Lib.hid (skipTo_remark s.data.toList j (slash_yes s j h1 ha hc))
             have h2:=endOf_le remarkP s.data.toList j (by rw [HL.out]; exact hj)
             rw [HL.out] at h2
             have h3:=HR.out.2
             have HR' : Hid (skipTo s.data.toList (endOf remarkP s.data.toList j) = skipTo s.data.toList k):=HR.out.1.trans HE.out
             clear HR
             generalize hX : endOf remarkP s.data.toList j = e1 at h2 h3 HR'
             have HX:=Lib.hid hX
             clear hX
             go_wp2
             go_loop [1] (fun i => ∃ m : Nat,m ≤ s.size ∧ i = .int .i64 m ∧ Hid (endOf remarkP s.data.toList m = e1)) (fun i => s.size - (intOf i).toNat)
             case atStart => exact ⟨j,hj,rfl,HX⟩
             case round =>
              obtain ⟨m,hm,rfl,HM⟩:=hrel
              clear ha hc h9 h10 h13 h32 h1
              by_cases hmt : m < s.size
              · have hr:=remark_eq s[m]
                have hra:=atP_lt (p:=remarkP) (s:=s) hmt
                cases hrm : remarkP s[m]
                · rw [hrm] at hr hra
                  have hr':=hr.symm
                  have HN : Hid (e1 = m):=HM.out.symm.trans (endOf_no hra)
                  have hle : e1 = m:=HN.out
                  subst hle
                  clear hr hra hrm HN
                  go_wp2
                  go_round
                  case rel => exact ⟨e1,h2,rfl,HR'⟩
                  case measure => simp [intOf]; omega
                · rw [hrm] at hr hra
                  have hr':=hr.symm
                  have HN:=Lib.hid ((endOf_yes hra).2.trans HM.out)
                  clear hr hra hrm
                  go_wp2
                  go_round
                  case rel => exact ⟨m + 1,hmt,by go_num,HN⟩
                  case measure => simp [intOf]; omega
              · have HN : Hid (e1 = m):=HM.out.symm.trans (endOf_no (atP_ge hmt))
                have hle : e1 = m:=HN.out
                subst hle
                clear HN
                go_wp2
                go_round
                case rel => exact ⟨e1,h2,rfl,HR'⟩
                case measure => simp [intOf]; omega
       · have HNO:=Lib.hid (HEND.out (slash_short s j h1))
         go_wp2
         go_ret
         exact ⟨by rw [HNO.out]; rfl,rfl⟩
     · rw [hbl] at hb hat
       have hb':=hb.symm
       have HN:=Lib.hid ((skipTo_one hat).trans HE.out)
       clear hb hbl hat
       cases h9 : ((s[j].toNat : Int) == 9)
       · rw [h9,Bool.false_or] at hb'
         cases h10 : ((s[j].toNat : Int) == 10)
         · rw [h10,Bool.false_or] at hb'
           cases h13 : ((s[j].toNat : Int) == 13)
           · rw [h13,Bool.false_or] at hb'
             go_wp2
             go_round
             case rel => exact ⟨j + 1,hlt,by go_num,HN⟩
             case measure => simp [intOf]; omega
           · clear hb'
             go_wp2
             go_round
             case rel => exact ⟨j + 1,hlt,by go_num,HN⟩
             case measure => simp [intOf]; omega
         · clear hb'
           go_wp2
           go_round
           case rel => exact ⟨j + 1,hlt,by go_num,HN⟩
           case measure => simp [intOf]; omega
       · clear hb'
         go_wp2
         go_round
         case rel => exact ⟨j + 1,hlt,by go_num,HN⟩
         case measure => simp [intOf]; omega
   · have HNO : Hid (skipTo s.data.toList k = j):=by
      have:=skipTo_le s.data.toList j (by rw [HL.out]; exact hj)
      have:=skipTo_ge s.data.toList j
      have:=HL.out
      show _ = _
      rw [← HE.out]; omega
     go_wp2
     go_ret
     exact ⟨by rw [HNO.out]; rfl,rfl⟩
end Go.Proofs.YtnkphlkjhgngkaaGreatDoor
