/- Name. -/
import Derived.Test.YtffnaknidofobaaGreatDoorTokenJt
import Derived.Test.YtffnaknidofobaaGreatDoorParLJt
import Derived.Deep.RegionHeld3
import Derived.Deep.AppendLies
import Derived.Deep.DrawnRows
namespace Go.Proofs.YtffnaknidofobaaGreatDoor
open Go.RowKit
def nameP (l : List UInt8) : Bool :=
  if l.length = 0 ∨ 64 < l.length then false else match tokL l 0 with
    | some (kd,_,_,e) => e == l.length && kd == 1
    | none => false
set_option maxRecDepth 20000 in
theorem inner_eq : ∀ b : UInt8,innerP b = (firstP b || digitP b):=byte_all (by decide +kernel)
set_option maxRecDepth 20000 in
theorem digit_not_first : ∀ b : UInt8,digitP b = true → firstP b = false:=byte_all (by decide +kernel)
/-- The document's Name, of a text that is not empty and not too long. -/
def nmR (l : List UInt8) : Bool:=!(atP digitP l 0) && !(wordP l) && l.all innerP
set_option maxRecDepth 20000 in
theorem all_iff_end (p : UInt8 → Bool) (l : List UInt8) : l.all p = (endOf p l 0 == l.length):=by
 unfold endOf
 rw [List.drop_zero,Nat.zero_add]
 induction l with
 | nil => rfl
 | cons c r ih => by_cases h : p c <;> simp [h,ih]
set_option maxRecDepth 20000 in
theorem seg_all (l : List UInt8) : seg l 0 l.length = l:=by simp [seg]
set_option maxRecDepth 20000 in
theorem nameP_eq (l : List UInt8) (h1 : ¬ l.length = 0) (h2 : ¬ 64 < l.length) : nameP l = nmR l:=by
 unfold nameP nmR
 rw [if_neg (by omega),all_iff_end]
 unfold tokL
 by_cases hf : atP firstP l 0 = true
 · rw [if_pos hf]
   have hd : atP digitP l 0 = false:=by
    unfold atP at hf ⊢
    cases hk : l[0]? with
    | none => rfl
    | some c =>
     rw [hk] at hf
     have hf' : firstP c = true:=hf
     show digitP c = false
     cases hdd : digitP c
     · rfl
     · rw [digit_not_first c hdd] at hf'; cases hf'
   have hle:=endOf_le innerP l 0 (Nat.zero_le _)
   unfold nameL
   rw [if_neg (by omega),hd]
   show (endOf innerP l 0 == l.length && kindOf (seg l 0 (endOf innerP l 0)) == 1) = _
   by_cases he : endOf innerP l 0 = l.length
   · rw [he,seg_all]
     cases hw : wordP l
     · rw [kindOf_name hw]; simp
     · rw [kindOf_word hw]; simp
   · have : (endOf innerP l 0 == l.length) = false:=by simpa using he
     rw [this]; simp
 · rw [if_neg hf]
   have hin : atP digitP l 0 = false → endOf innerP l 0 = 0:=by
    intro hd
    apply endOf_no
    unfold atP at hf hd ⊢
    cases hk : l[0]? with
    | none => rfl
    | some c =>
     rw [hk] at hf hd
     have hf' : ¬ firstP c = true:=hf
     have hd' : digitP c = false:=hd
     show innerP c = false
     rw [inner_eq,hd']
     simpa using hf'
   by_cases hd : atP digitP l 0 = true
   · rw [if_pos hd,hd]
     have : ∀ x,numL l 0 = some x → x.1 = 2:=by
      intro x hx
      unfold numL at hx
      split at hx
      · cases hx
      · split at hx
        · cases hx
        · split at hx
          · cases hx
          · cases hx; rfl
     cases hn : numL l 0 with
     | none => simp
     | some x =>
      obtain ⟨kd,t,n,e⟩:=x
      have:=this _ hn
      simp at this
      subst this
      simp
   · rw [if_neg hd]
     have hd' : atP digitP l 0 = false:=by simpa using hd
     rw [hin hd']
     have h0 : ((0 : Nat) == l.length) = false:=by simp; omega
     rw [h0]
     by_cases hq : atP quoteP l 0 = true
     · rw [if_pos hq]
       cases ht : textL l 0 with
       | none => simp
       | some x =>
        unfold textL at ht
        split at ht
        · cases ht; simp
        · cases ht
     · rw [if_neg hq]
       cases ht : markL l 0 with
       | none => simp
       | some x =>
        unfold markL at ht
        split at ht
        · cases ht; simp
        · split at ht
          · cases ht; simp
          · cases ht
set_option maxRecDepth 20000 in
theorem nameP_out (l : List UInt8) (h : l.length = 0 ∨ 64 < l.length) : nameP l = false:=by
 unfold nameP; rw [if_pos h]
set_option maxRecDepth 20000 in
set_option maxHeartbeats 2000000 in
theorem isName_any (s : ByteArray) (_hs : s.size ≤ maxLen) (w : World) (hG : Gl w) : Calls Tryz.prog 120 #[.string s] w fun e w' => e = .returned (.bool (nameP s.data.toList)) ∧ Below w.heap.size w w':=by
 have hll : s.data.toList.length = s.size:=by simp
 unfold maxLen at _hs
 by_cases h0 : s.size < 1
 · have HP:=Lib.hid (nameP_out s.data.toList (by omega))
   have hemp : s.toList.isEmpty = true:=by rw [Lib.toList_data,List.isEmpty_iff_length_eq_zero,hll]; omega
   clear hll
   go_enter Tryz.func120,Tryz.ntmps120
   go_wp2
   go_ret
   exact ⟨by rw [HP.out]; rfl,Below.refl _ _⟩
 have hemp : s.toList.isEmpty = false:=by
  cases hh : s.toList.isEmpty
  · rfl
  · rw [Lib.toList_data,List.isEmpty_iff_length_eq_zero,hll] at hh; omega
 by_cases h64 : 64 < s.size
 · have HP:=Lib.hid (nameP_out s.data.toList (by omega))
   clear hll
   go_enter Tryz.func120,Tryz.ntmps120
   go_wp2
   go_ret
   exact ⟨by rw [HP.out]; rfl,Below.refl _ _⟩
 have h64' : decide (64 < (s.size : Int)) = false:=by simp; omega
 have h0' : decide ((s.size : Int) < 1) = false:=by simp; omega
 have hP:=nameP_eq s.data.toList (by omega) (by omega)
 have hpos : 0 < s.size:=by omega
 have hat:=atP_lt (p:=digitP) (s:=s) (k:=0) hpos
 unfold nmR at hP
 rw [hat] at hP
 have cD:=digit_any (s[0]'hpos)
 cases hd : digitP (s[0]'hpos)
 · rw [hd] at hP cD
   have cR:=isWord_any s w
   rw [Lib.toList_data] at cR
   cases hw : wordP s.data.toList
   · rw [hw] at hP cR
     have HP : Hid (nameP s.data.toList = s.data.toList.all innerP):=by show _ = _; rw [hP]; simp
     have HL:=Lib.hid hll
     clear hP hw hd hat hll h0 h64
     go_enter Tryz.func120,Tryz.ntmps120
     go_wp2_with fail
     refine (cD _).mono ?_
     rintro e w' ⟨rfl,rfl⟩
     go_wp2_with fail
     refine cR.mono ?_
     rintro e w2 ⟨rfl,hw2⟩
     subst hw2
     have b2 : Below w2.heap.size w2 w2:=Below.refl _ _
     clear cD cR
     go_wp2_with fail
     go_loop [22] (fun i => ∃ k : Nat,k ≤ s.size ∧ i = .int .i64 k ∧ Hid ((s.data.toList.take k).all innerP = true)) (fun i => s.size - (intOf i).toNat)
     case atStart => exact ⟨0,Nat.zero_le _,rfl,rfl⟩
     case round =>
      obtain ⟨k,hk,rfl,HA⟩:=hrel
      by_cases hlt : k < s.size
      · have cL:=letter_any s[k]
        have cD:=digit_any s[k]
        have HI:=Lib.hid (inner_eq s[k])
        have HS : Hid ((s.data.toList.take (k + 1)).all innerP = innerP s[k]):=by
         show _ = _
         rw [List.take_succ_eq_append_getElem (by rw [HL.out]; exact hlt),List.all_append,HA.out]
         simp
         rfl
        have HN : Hid (innerP s[k] = false → s.data.toList.all innerP = false):=by
         intro h
         rw [List.all_eq_false]
         exact ⟨s[k],List.mem_of_getElem? (getElem_list s k hlt),by simp [h]⟩
        cases hf : firstP s[k] <;> rw [hf] at cL HI
        · cases hd : digitP s[k] <;> rw [hd] at cD HI
          · clear hf hd
            go_wp2_with fail
            refine (cL _).mono ?_
            rintro e w' ⟨rfl,hw'⟩
            subst hw'
            go_wp2_with fail
            refine (cD _).mono ?_
            rintro e w' ⟨rfl,hw'⟩
            subst hw'
            go_wp2
            go_ret
            exact ⟨by rw [HP.out,HN.out (by rw [HI.out]; rfl)]; rfl,b2⟩
          · clear hf hd
            go_wp2_with fail
            refine (cL _).mono ?_
            rintro e w' ⟨rfl,hw'⟩
            subst hw'
            go_wp2_with fail
            refine (cD _).mono ?_
            rintro e w' ⟨rfl,hw'⟩
            subst hw'
            go_wp2
            go_round
            case rel => exact ⟨k + 1,hlt,by go_num,by show _ = _; rw [HS.out,HI.out]; rfl⟩
            case measure => simp [intOf]; omega
        · clear hf
          go_wp2_with fail
          refine (cL _).mono ?_
          rintro e w' ⟨rfl,hw'⟩
          subst hw'
          go_wp2
          go_round
          case rel => exact ⟨k + 1,hlt,by go_num,by show _ = _; rw [HS.out,HI.out]; rfl⟩
          case measure => simp [intOf]; omega
      · have HF : Hid (s.data.toList.all innerP = true):=by
         show _ = _
         have:=HA.out
         rw [List.take_of_length_le (by rw [HL.out]; omega)] at this
         exact this
        go_wp2
        go_ret
        exact ⟨by rw [HP.out,HF.out]; rfl,b2⟩
   · rw [hw] at hP cR
     have HP : Hid (nameP s.data.toList = false):=by show _ = _; rw [hP]; simp
     clear hP hw hd hat hll h0 h64
     go_enter Tryz.func120,Tryz.ntmps120
     go_wp2_with fail
     refine (cD _).mono ?_
     rintro e w' ⟨rfl,rfl⟩
     go_wp2_with fail
     refine cR.mono ?_
     rintro e w2 ⟨rfl,hw2⟩
     subst hw2
     have b2 : Below w2.heap.size w2 w2:=Below.refl _ _
     go_wp2
     go_ret
     exact ⟨by rw [HP.out]; rfl,b2⟩
 · rw [hd] at hP cD
   have HP : Hid (nameP s.data.toList = false):=by show _ = _; rw [hP]; simp
   clear hP hd hat hll h0 h64
   go_enter Tryz.func120,Tryz.ntmps120
   go_wp2_with fail
   refine (cD _).mono ?_
   rintro e w' ⟨rfl,rfl⟩
   go_wp2
   go_ret
   exact ⟨by rw [HP.out]; rfl,Below.refl _ _⟩
end Go.Proofs.YtffnaknidofobaaGreatDoor

namespace Go.Proofs.YtffnaknidofobaaGreatDoor
open Go.RowKit
/-- The tests that come to themselves again. -/
inductive Q where
  | typ | par | sig | blk | ifS | els | stm | exp
def bareT (t : Tr) : Bool:=t.text == [] && t.num == 0
def namedT (t : Tr) : Bool:=t.num == 0 && nameP t.text
def numberedT (t : Tr) : Bool:=t.text == []
def rowB : List (Tr → Bool) → List Tr → Bool
  | [],[] => true
  | p :: ps,t :: ts => p t && rowB ps ts
  | _,_ => false
def partedB (ts : List Tr) (n : Int) (p q : Tr → Bool) : Bool:=decide (0 ≤ n) && (decide (n ≤ ts.length) && ((ts.take n.toNat).all p && (ts.drop n.toNat).all q))
def cutN (n : Int) : Int:=if n == 0 then 1 else if n == 1 || n == 2 then 2 else if n == 3 then 3 else -1
def leafB (t : Tr) : Bool :=
  if 0 < t.kids.length then false
  else if t.kind == 40 then numberedT t && decide (0 ≤ t.num)
  else if t.kind == 41 then t.num == 0 && decide (t.text.length ≤ 1024)
  else if t.kind == 42 then numberedT t && (t.num == 0 || t.num == 1)
  else if t.kind == 44 then namedT t
  else bareT t
def typB (r : Q → Tr → Bool) (t : Tr) : Bool :=
  if t.kind == 10 then namedT t && rowB [] t.kids
  else if t.kind == 11 || t.kind == 12 then bareT t && rowB [r .typ] t.kids
  else if t.kind == 13 then numberedT t && partedB t.kids t.num (r .typ) (r .typ)
  else false
def parB (r : Q → Tr → Bool) (t : Tr) : Bool:=t.kind == 8 && (namedT t && rowB [r .typ] t.kids)
def sigB (r : Q → Tr → Bool) (t : Tr) : Bool:=t.kind == 7 && (numberedT t && partedB t.kids t.num (r .par) (r .typ))
def blkB (r : Q → Tr → Bool) (t : Tr) : Bool:=t.kind == 20 && (bareT t && t.kids.all (r .stm))
def ifB (r : Q → Tr → Bool) (t : Tr) : Bool:=t.kind == 25 && (bareT t && (rowB [r .exp,r .blk] t.kids || rowB [r .exp,r .blk,r .els] t.kids))
def elsB (r : Q → Tr → Bool) (t : Tr) : Bool:=blkB r t || ifB r t
def asgB (r : Q → Tr → Bool) (p : Tr → Bool) (t : Tr) : Bool:=numberedT t && (decide (0 < t.num) && (decide (t.num < t.kids.length) && ((t.kids.take t.num.toNat).all p && t.kids.all (r .exp))))
def stmB (r : Q → Tr → Bool) (t : Tr) : Bool :=
  if t.kind == 20 then blkB r t
  else if t.kind == 25 then ifB r t
  else if t.kind == 21 then namedT t && (rowB [r .typ] t.kids || rowB [r .typ,r .exp] t.kids)
  else if t.kind == 22 then asgB r isNameT t
  else if t.kind == 23 then asgB r isPlaceT t
  else if t.kind == 24 then bareT t && (rowB [isCallT] t.kids && rowB [r .exp] t.kids)
  else if t.kind == 26 then bareT t && (rowB [r .blk] t.kids || rowB [r .exp,r .blk] t.kids)
  else if t.kind == 27 then bareT t && t.kids.all (r .exp)
  else if t.kind == 28 || t.kind == 29 then bareT t && rowB [] t.kids
  else false
def expB (r : Q → Tr → Bool) (t : Tr) : Bool :=
  if t.kind == 40 || t.kind == 41 || t.kind == 42 || t.kind == 43 || t.kind == 44 then leafB t
  else if t.kind == 45 then namedT t && t.kids.all (r .exp)
  else if t.kind == 46 then bareT t && partedB t.kids 1 (r .typ) (r .exp)
  else if t.kind == 47 then bareT t && rowB [r .sig,r .blk] t.kids
  else if t.kind == 48 then namedT t && rowB [r .exp] t.kids
  else if t.kind == 49 then bareT t && rowB [r .exp,r .exp] t.kids
  else if t.kind == 50 then numberedT t && ((t.kids.length : Int) == cutN t.num && t.kids.all (r .exp))
  else if t.kind == 51 then bareT t && (decide (0 < t.kids.length) && t.kids.all (r .exp))
  else if t.kind == 52 then t.num == 0 && (prefixL t.text && rowB [r .exp] t.kids)
  else if t.kind == 53 then t.num == 0 && (decide (0 < rankL t.text) && rowB [r .exp,r .exp] t.kids)
  else false
/-- Is a tree, down to so many nodes, of that form? -/
def snd : Nat → Q → Tr → Bool
  | 0,_,_ => false
  | n + 1,.typ,t => typB (snd n) t
  | n + 1,.par,t => parB (snd n) t
  | n + 1,.sig,t => sigB (snd n) t
  | n + 1,.blk,t => blkB (snd n) t
  | n + 1,.ifS,t => ifB (snd n) t
  | n + 1,.els,t => elsB (snd n) t
  | n + 1,.stm,t => stmB (snd n) t
  | n + 1,.exp,t => expB (snd n) t
def recB (r : Q → Tr → Bool) (t : Tr) : Bool:=parB r t && (match t.kids with
  | k :: _ => k.kind == 11 && (match k.kids with
    | j :: _ => j.kind == 10
    | _ => false)
  | _ => false)
def fldB (r : Q → Tr → Bool) (t : Tr) : Bool:=t.kind == 6 && (namedT t && rowB [r .typ] t.kids)
def metB (r : Q → Tr → Bool) (t : Tr) : Bool:=t.kind == 6 && (namedT t && rowB [r .sig] t.kids)
/-- A declaration, its kids' tests by r, its kids' kids' by r'. -/
def decB (n : Nat) (t : Tr) : Bool :=
  if t.kind == 2 then namedT t && t.kids.all (fldB (snd n))
  else if t.kind == 3 then namedT t && t.kids.all (metB (snd n))
  else if t.kind == 4 then namedT t && rowB [snd (n + 1) .sig,snd (n + 1) .blk] t.kids
  else if t.kind == 5 then namedT t && rowB [recB (snd n),snd (n + 1) .sig,snd (n + 1) .blk] t.kids
  else false
def prgB (t : Tr) : Bool:=t.kind == 1 && (bareT t && t.kids.all (decB 97))
def soundT (t : Tr) : Bool:=smallT t && prgB t
/-- A tree is so deep at most, has lists and texts that are not too long. -/
def Fit : Nat → Tr → Prop
  | 0,_ => False
  | n + 1,t => t.kids.length ≤ 20000 ∧ t.text.length ≤ maxLen ∧ ∀ k ∈ t.kids,Fit n k
theorem rowB_length : ∀ {ps : List (Tr → Bool)} {ts : List Tr},rowB ps ts = true → ts.length = ps.length
  | [],[],_ => rfl
  | p :: ps,t :: ts,h => by simp only [rowB,Bool.and_eq_true] at h; simp [rowB_length h.2]
  | [],_ :: _,h => by simp [rowB] at h
  | _ :: _,[],h => by simp [rowB] at h
theorem rowB_ne : ∀ {ps : List (Tr → Bool)} {ts : List Tr},ts.length ≠ ps.length → rowB ps ts = false:=by
 intro ps ts h
 cases hr : rowB ps ts with
 | false => rfl
 | true => exact absurd (rowB_length hr) h
theorem rowB_take : ∀ {ps : List (Tr → Bool)} {ts : List Tr} {i : Nat} {p : Tr → Bool} {t : Tr},ps[i]? = some p → ts[i]? = some t → p t = false → rowB ps ts = false
  | p :: ps,t :: ts,0,_,_,h1,h2,h3 => by simp at h1 h2; subst h1 h2; simp [rowB,h3]
  | p :: ps,t :: ts,i + 1,_,_,h1,h2,h3 => by simp at h1 h2; simp [rowB,rowB_take h1 h2 h3]
  | [],_,_,_,_,h1,_,_ => by simp at h1
  | _ :: _,[],_,_,_,_,h2,_ => by simp at h2
theorem rowB_all : ∀ {ps : List (Tr → Bool)} {ts : List Tr},ts.length = ps.length → (∀ (i : Nat) p t,ps[i]? = some p → ts[i]? = some t → p t = true) → rowB ps ts = true
  | [],[],_,_ => rfl
  | p :: ps,t :: ts,h,k => by
   simp only [rowB,Bool.and_eq_true]
   exact ⟨k 0 p t rfl rfl,rowB_all (by simpa using h) fun i q u hq hu => k (i + 1) q u (by simpa using hq) (by simpa using hu)⟩
  | [],_ :: _,h,_ => by simp at h
  | _ :: _,[],h,_ => by simp at h
/-- A list of trees lies at a slice. -/
def Lst (w : World) (S : Nat → Prop) (ts : List Tr) (sl : Value) : Prop:=∃ sls,RowAt w S sl ts.length (cellsOf ts sls) ∧ KL w S ts sls
theorem Lst.of {w : World} {S : Nat → Prop} {k : Int} {s : List UInt8} {n : Int} {ks : List Tr} {sl : Value} (h : KT w S (.mk k s n ks) sl) : Lst w S ks sl:=by
 simp only [KT] at h; exact h
theorem Lst.kids {w : World} {S : Nat → Prop} {t : Tr} {sl : Value} (h : KT w S t sl) : Lst w S t.kids sl:=by
 cases t; exact Lst.of h
theorem Lst.fr {S S' : Nat → Prop} {w w' : World} {ts : List Tr} {sl : Value} (h : Lst w S ts sl) (hf : Fr S w w') (hS : ∀ b,S b → S' b) : Lst w' S' ts sl:=by
 obtain ⟨sls,h1,h2⟩:=h
 exact ⟨sls,h1.keep hf hS,h2.fr hf hS⟩
theorem Lst.slice {w : World} {S : Nat → Prop} {ts : List Tr} {sl : Value} (h : Lst w S ts sl) : ∃ ao cap,sl = .slice ao ts.length cap:=by
 obtain ⟨sls,h1 | ⟨g,o,cap,h1,_⟩,_⟩:=h
 · obtain ⟨h0,ao,cap,h⟩:=h1; exact ⟨ao,cap,by rw [h,h0]⟩
 · exact ⟨_,cap,h1⟩
/-- What the test g of trees of depth n owes. -/
def Tst (g n : Nat) (p : Tr → Bool) : Prop:=∀ (t : Tr) (sl : Value) (S : Nat → Prop) (w : World),Gl w → (∀ b,S b → b < w.heap.size) → Fit n t → KT w S t sl →
  Calls Tryz.prog g #[tv t sl] w fun e w' => e = .returned (.bool (p t)) ∧ Below w.heap.size w w'
end Go.Proofs.YtffnaknidofobaaGreatDoor

namespace Go.Proofs.YtffnaknidofobaaGreatDoor
open Go.RowKit
set_option maxRecDepth 20000 in
theorem Tryz.info5 : (Tryz.prog.info? 5).map (fun i => (i.zero,i.size,i.bytes)) = some (some (.int .u8 0),1,1):=by kernel_rfl
def hexC (n : Nat) : UInt8:=if n < 10 then UInt8.ofNat (48 + n) else UInt8.ofNat (87 + n)
set_option maxRecDepth 20000 in
theorem hexAt : ∀ n,n < 16 → (#[48,49,50,51,52,53,54,55,56,57,97,98,99,100,101,102] : Array UInt8).getD n 0 = hexC n:=by decide +kernel
set_option maxRecDepth 20000 in
theorem run_hex (n : Nat) (h : n < 16) (W : World) : (Instr.index 9 (.string ⟨#[48,49,50,51,52,53,54,55,56,57,97,98,99,100,101,102]⟩) (.int .u8 n)).run Tryz.prog W = .ok (.int .u8 (hexC n).toNat) W:=by
 have hk:=hexAt n h
 have hx : (n : Int) < 16:=by omega
 simp only [go_sem,Tryz.underlying9]
 simp
 rw [dif_pos hx,← hk]
 congr 3
 exact congrArg UInt8.toNat (Array.getElem_eq_getD 0)
set_option maxRecDepth 20000 in
theorem and15 : ∀ b : UInt8,bits .and .u8 (b.toNat : Int) 15 = ((b.toNat % 16 : Nat) : Int):=byte_all (by decide +kernel)
def quoteB (b : UInt8) : List UInt8 :=
  if b = 10 then [92,110] else if b = 9 then [92,116] else if b = 34 ∨ b = 92 then [92,b] else if 32 ≤ b.toNat ∧ b.toNat ≤ 126 then [b]
  else [92,120,hexC (b.toNat / 16),hexC (b.toNat % 16)]
def Appended (base : Nat) (out : List UInt8) (w : World) (e : Ending) (w' : World) : Prop :=
  ∃ v,e = .returned v ∧ w'.ownsRow base 5 1 v out.length (Lib.byteCells out) ∧ Below base w w'
set_option maxRecDepth 20000 in
theorem aq_close {base : Nat} {v v5 : Value} {out more : List UInt8} {w W w5 : World} (hb : Below base w W) (hbase : base ≤ w.heap.size) (hown5 : w5.ownsRow base 5 1 v5 (out.length + more.length) (Lib.byteCells out ++ Lib.byteCells more)) (hlt : ∀ k,v.ownBlock = some k → base ≤ k ∧ k < W.heap.size) (hgr : W.grownBy w5 v.ownBlock) (hz : w.heap.size ≤ W.heap.size) :
    w5.ownsRow base 5 1 v5 (out ++ more).length (Lib.byteCells (out ++ more)) ∧ Below base w w5:=by
  rw [byteCells_append] at hown5
  rw [List.length_append]
  exact ⟨hown5,hb.grown hgr (by omega) (fun k hk => (hlt k hk).1)⟩
set_option maxRecDepth 20000 in
set_option maxHeartbeats 1000000 in
theorem aq_nl (base : Nat) (v : Value) (out : List UInt8) (b : UInt8) (g : Nat) (lb : Array Value) (w : World) (hown : w.ownsRow base 5 1 v out.length (Lib.byteCells out)) (hbase : base ≤ w.heap.size) (hlen : out.length ≤ 100000000) (e10 : ((b.toNat : Int) == 10) = true) :
    Calls Tryz.prog 116 #[v,.int .u8 b.toNat,.func (.func g) #[] lb] w (Appended base (out ++ [92,110]) w):=by
  obtain ⟨ao,cv,rfl⟩:=owns_form hown
  obtain ⟨i0,hi,hz0,hz1,hz2⟩:=info_parts Tryz.info5
  have hown2:=hown.alloc (.cells #[.int .u8 92,.int .u8 110] 5)
  have hlt:=hown2.lt
  go_enter Tryz.func116,Tryz.ntmps116
  go_wp2_with (at_builtin; refine wpList_append_own _ rfl _ _ 37 rfl base 5 i0 _ 1 1 Tryz.underlying37 hi hz0 hz1 hz2 rfl (by decide) _ _ _ rfl hown2 ⟨w.heap.size,0,none⟩ 2 2 [.int .u8 92,.int .u8 110] rfl rfl ?c1 ?c2 ?c3 ?c4 ?c5 ?_)
  case c1 =>
   intro j u hj
   match j,hj with
   | 0,hj => simp at hj; subst hj; simp [Addr.add]
   | 1,hj => simp at hj; subst hj; simp [Addr.add]
  case c2 => intro u hu; simp at hu; rcases hu with rfl | rfl <;> rfl
  case c3 => unfold maxLen; omega
  case c4 => omega
  case c5 => simp; omega
  intro v5 w5 hown5 hgr5 _
  go_wp2
  go_ret
  exact ⟨v5,rfl,aq_close (more:=[92,110]) ((Below.refl _ _).alloc hbase _) hbase hown5 hlt hgr5 (by simp)⟩
set_option maxRecDepth 20000 in
set_option maxHeartbeats 1000000 in
theorem aq_tab (base : Nat) (v : Value) (out : List UInt8) (b : UInt8) (g : Nat) (lb : Array Value) (w : World) (hown : w.ownsRow base 5 1 v out.length (Lib.byteCells out)) (hbase : base ≤ w.heap.size) (hlen : out.length ≤ 100000000) (e10 : ((b.toNat : Int) == 10) = false) (e9 : ((b.toNat : Int) == 9) = true) :
    Calls Tryz.prog 116 #[v,.int .u8 b.toNat,.func (.func g) #[] lb] w (Appended base (out ++ [92,116]) w):=by
  obtain ⟨ao,cv,rfl⟩:=owns_form hown
  obtain ⟨i0,hi,hz0,hz1,hz2⟩:=info_parts Tryz.info5
  have hown2:=hown.alloc (.cells #[.int .u8 92,.int .u8 116] 5)
  have hlt:=hown2.lt
  go_enter Tryz.func116,Tryz.ntmps116
  go_wp2_with (at_builtin; refine wpList_append_own _ rfl _ _ 37 rfl base 5 i0 _ 1 1 Tryz.underlying37 hi hz0 hz1 hz2 rfl (by decide) _ _ _ rfl hown2 ⟨w.heap.size,0,none⟩ 2 2 [.int .u8 92,.int .u8 116] rfl rfl ?c1 ?c2 ?c3 ?c4 ?c5 ?_)
  case c1 =>
   intro j u hj
   match j,hj with
   | 0,hj => simp at hj; subst hj; simp [Addr.add]
   | 1,hj => simp at hj; subst hj; simp [Addr.add]
  case c2 => intro u hu; simp at hu; rcases hu with rfl | rfl <;> rfl
  case c3 => unfold maxLen; omega
  case c4 => omega
  case c5 => simp; omega
  intro v5 w5 hown5 hgr5 _
  go_wp2
  go_ret
  exact ⟨v5,rfl,aq_close (more:=[92,116]) ((Below.refl _ _).alloc hbase _) hbase hown5 hlt hgr5 (by simp)⟩
set_option maxRecDepth 20000 in
set_option maxHeartbeats 1000000 in
theorem aq_q (base : Nat) (v : Value) (out : List UInt8) (b : UInt8) (g : Nat) (lb : Array Value) (w : World) (hown : w.ownsRow base 5 1 v out.length (Lib.byteCells out)) (hbase : base ≤ w.heap.size) (hlen : out.length ≤ 100000000) (e10 : ((b.toNat : Int) == 10) = false) (e9 : ((b.toNat : Int) == 9) = false) (e34 : ((b.toNat : Int) == 34) = true) :
    Calls Tryz.prog 116 #[v,.int .u8 b.toNat,.func (.func g) #[] lb] w (Appended base (out ++ [92,b]) w):=by
  obtain ⟨ao,cv,rfl⟩:=owns_form hown
  obtain ⟨i0,hi,hz0,hz1,hz2⟩:=info_parts Tryz.info5
  have hown2:=hown.alloc (.cells #[.int .u8 92,.int .u8 b.toNat] 5)
  have hlt:=hown2.lt
  go_enter Tryz.func116,Tryz.ntmps116
  go_wp2_with (at_builtin; refine wpList_append_own _ rfl _ _ 37 rfl base 5 i0 _ 1 1 Tryz.underlying37 hi hz0 hz1 hz2 rfl (by decide) _ _ _ rfl hown2 ⟨w.heap.size,0,none⟩ 2 2 [.int .u8 92,.int .u8 b.toNat] rfl rfl ?c1 ?c2 ?c3 ?c4 ?c5 ?_)
  case c1 =>
   intro j u hj
   match j,hj with
   | 0,hj => simp at hj; subst hj; simp [Addr.add]
   | 1,hj => simp at hj; subst hj; simp [Addr.add]
  case c2 => intro u hu; simp at hu; rcases hu with rfl | rfl <;> rfl
  case c3 => unfold maxLen; omega
  case c4 => omega
  case c5 => simp; omega
  intro v5 w5 hown5 hgr5 _
  go_wp2
  go_ret
  exact ⟨v5,rfl,aq_close (more:=[92,b]) ((Below.refl _ _).alloc hbase _) hbase hown5 hlt hgr5 (by simp)⟩
set_option maxRecDepth 20000 in
set_option maxHeartbeats 1000000 in
theorem aq_bs (base : Nat) (v : Value) (out : List UInt8) (b : UInt8) (g : Nat) (lb : Array Value) (w : World) (hown : w.ownsRow base 5 1 v out.length (Lib.byteCells out)) (hbase : base ≤ w.heap.size) (hlen : out.length ≤ 100000000) (e10 : ((b.toNat : Int) == 10) = false) (e9 : ((b.toNat : Int) == 9) = false) (e34 : ((b.toNat : Int) == 34) = false) (e92 : ((b.toNat : Int) == 92) = true) :
    Calls Tryz.prog 116 #[v,.int .u8 b.toNat,.func (.func g) #[] lb] w (Appended base (out ++ [92,b]) w):=by
  obtain ⟨ao,cv,rfl⟩:=owns_form hown
  obtain ⟨i0,hi,hz0,hz1,hz2⟩:=info_parts Tryz.info5
  have hown2:=hown.alloc (.cells #[.int .u8 92,.int .u8 b.toNat] 5)
  have hlt:=hown2.lt
  go_enter Tryz.func116,Tryz.ntmps116
  go_wp2_with (at_builtin; refine wpList_append_own _ rfl _ _ 37 rfl base 5 i0 _ 1 1 Tryz.underlying37 hi hz0 hz1 hz2 rfl (by decide) _ _ _ rfl hown2 ⟨w.heap.size,0,none⟩ 2 2 [.int .u8 92,.int .u8 b.toNat] rfl rfl ?c1 ?c2 ?c3 ?c4 ?c5 ?_)
  case c1 =>
   intro j u hj
   match j,hj with
   | 0,hj => simp at hj; subst hj; simp [Addr.add]
   | 1,hj => simp at hj; subst hj; simp [Addr.add]
  case c2 => intro u hu; simp at hu; rcases hu with rfl | rfl <;> rfl
  case c3 => unfold maxLen; omega
  case c4 => omega
  case c5 => simp; omega
  intro v5 w5 hown5 hgr5 _
  go_wp2
  go_ret
  exact ⟨v5,rfl,aq_close (more:=[92,b]) ((Below.refl _ _).alloc hbase _) hbase hown5 hlt hgr5 (by simp)⟩
set_option maxRecDepth 20000 in
set_option maxHeartbeats 1000000 in
theorem aq_shown (base : Nat) (v : Value) (out : List UInt8) (b : UInt8) (g : Nat) (lb : Array Value) (w : World) (hown : w.ownsRow base 5 1 v out.length (Lib.byteCells out)) (hbase : base ≤ w.heap.size) (hlen : out.length ≤ 100000000) (e10 : ((b.toNat : Int) == 10) = false) (e9 : ((b.toNat : Int) == 9) = false) (e34 : ((b.toNat : Int) == 34) = false) (e92 : ((b.toNat : Int) == 92) = false) (p : UInt8 → Bool) (he : Enters Tryz.prog g) (hk : Calls Tryz.prog g (#[.int .u8 b.toNat] ++ lb) w fun e w' => e = .returned (.bool (p b)) ∧ ∃ q,w' = w.drewN q) (hp : p b = true) :
    Calls Tryz.prog 116 #[v,.int .u8 b.toNat,.func (.func g) #[] lb] w (Appended base (out ++ [b]) w):=by
  obtain ⟨ao,cv,rfl⟩:=owns_form hown
  obtain ⟨i0,hi,hz0,hz1,hz2⟩:=info_parts Tryz.info5
  have eg : ∀ args w,(callFunc g args).run Tryz.prog w = .ok (.enter g args) w:=he
  rw [hp] at hk
  go_enter Tryz.func116,Tryz.ntmps116
  go_wp2_with fail
  refine hk.mono ?_
  rintro e w' ⟨rfl,q,rfl⟩
  clear hk he hp
  have hown2 : ((w.alloc (.cells #[.int .u8 b.toNat] 5)).drewN q).ownsRow base 5 1 (.slice ao out.length cv) out.length (Lib.byteCells out):=hown.alloc _
  have hlt:=hown2.lt
  go_wp2_with (at_builtin; refine wpList_append_own _ rfl _ _ 37 rfl base 5 i0 _ 1 1 Tryz.underlying37 hi hz0 hz1 hz2 rfl (by decide) _ _ _ rfl hown2 ⟨w.heap.size,0,none⟩ 1 1 [.int .u8 b.toNat] rfl rfl ?c1 ?c2 ?c3 ?c4 ?c5 ?_)
  case c1 =>
   intro j u hj
   match j,hj with
   | 0,hj =>
    simp at hj; subst hj
    show (w.alloc (Obj.cells #[Value.int IntKind.u8 b.toNat] 5)).cell? _ = _
    simp [Addr.add]
  case c2 => intro u hu; simp at hu; subst hu; rfl
  case c3 => unfold maxLen; omega
  case c4 => omega
  case c5 => simp; omega
  intro v5 w5 hown5 hgr5 _
  go_wp2
  go_ret
  exact ⟨v5,rfl,aq_close (more:=[b]) (below_drewN ((Below.refl _ _).alloc hbase _) q) hbase hown5 hlt hgr5 (by simp)⟩
set_option maxRecDepth 20000 in
set_option maxHeartbeats 2000000 in
theorem aq_hex (base : Nat) (v : Value) (out : List UInt8) (b : UInt8) (g : Nat) (lb : Array Value) (w : World) (hown : w.ownsRow base 5 1 v out.length (Lib.byteCells out)) (hbase : base ≤ w.heap.size) (hlen : out.length ≤ 100000000) (e10 : ((b.toNat : Int) == 10) = false) (e9 : ((b.toNat : Int) == 9) = false) (e34 : ((b.toNat : Int) == 34) = false) (e92 : ((b.toNat : Int) == 92) = false) (p : UInt8 → Bool) (he : Enters Tryz.prog g) (hk : Calls Tryz.prog g (#[.int .u8 b.toNat] ++ lb) w fun e w' => e = .returned (.bool (p b)) ∧ ∃ q,w' = w.drewN q) (hp : p b = false) :
    Calls Tryz.prog 116 #[v,.int .u8 b.toNat,.func (.func g) #[] lb] w (Appended base (out ++ [92,120,hexC (b.toNat / 16),hexC (b.toNat % 16)]) w):=by
  obtain ⟨ao,cv,rfl⟩:=owns_form hown
  obtain ⟨i0,hi,hz0,hz1,hz2⟩:=info_parts Tryz.info5
  have eg : ∀ args w,(callFunc g args).run Tryz.prog w = .ok (.enter g args) w:=he
  rw [hp] at hk
  go_enter Tryz.func116,Tryz.ntmps116
  go_wp2_with fail
  refine hk.mono ?_
  rintro e w' ⟨rfl,q,rfl⟩
  clear hk he hp
  have hb256:=b.toNat_lt
  have hx1 : ∀ W,(Instr.index 9 (.string ⟨#[48,49,50,51,52,53,54,55,56,57,97,98,99,100,101,102]⟩) (.int .u8 ((b.toNat : Int) / 16))).run Tryz.prog W = .ok (.int .u8 (hexC (b.toNat / 16)).toNat) W:=fun W => run_hex (b.toNat / 16) (by omega) W
  obtain ⟨m2,hm2⟩ : ∃ m2 : Int,((b.toNat % 16 : Nat) : Int) = m2:=⟨_,rfl⟩
  have hx2 : ∀ W,(Instr.index 9 (.string ⟨#[48,49,50,51,52,53,54,55,56,57,97,98,99,100,101,102]⟩) (.int .u8 m2)).run Tryz.prog W = .ok (.int .u8 (hexC (b.toNat % 16)).toNat) W:=fun W => by rw [← hm2]; exact run_hex (b.toNat % 16) (by omega) W
  have hand : bits .and .u8 (b.toNat : Int) 15 = m2:=(and15 b).trans hm2
  clear hm2
  generalize hexC (b.toNat / 16) = c1 at *
  generalize hexC (b.toNat % 16) = c2 at *
  have hown2 : ((w.drewN (q + 1)).alloc (.cells #[.int .u8 92,.int .u8 120,.int .u8 c1.toNat,.int .u8 c2.toNat] 5)).ownsRow base 5 1 (.slice ao out.length cv) out.length (Lib.byteCells out):=World.ownsRow.alloc (w:=w.drewN (q + 1)) hown _
  have hltR:=hown2.lt
  have hnews : ∀ j u,([.int .u8 92,.int .u8 120,.int .u8 c1.toNat,.int .u8 c2.toNat] : List Value)[j]? = some u → ((w.drewN (q + 1)).alloc (.cells #[.int .u8 92,.int .u8 120,.int .u8 c1.toNat,.int .u8 c2.toNat] 5)).cell? ((⟨w.heap.size,0,none⟩ : Addr).add j) = some u:=by
   intro j u hj
   show (w.alloc (.cells #[.int .u8 92,.int .u8 120,.int .u8 c1.toNat,.int .u8 c2.toNat] 5)).cell? _ = _
   match j,hj with
   | 0,hj => simp at hj; subst hj; simp [Addr.add]
   | 1,hj => simp at hj; subst hj; simp [Addr.add]
   | 2,hj => simp at hj; subst hj; simp [Addr.add]
   | 3,hj => simp at hj; subst hj; simp [Addr.add]
  have hone : ∀ u ∈ ([.int .u8 92,.int .u8 120,.int .u8 c1.toNat,.int .u8 c2.toNat] : List Value),u.oneCell' = true:=by
   intro u hu; simp at hu; rcases hu with rfl | rfl | rfl | rfl <;> rfl
  have h63 : out.length + 4 ≤ maxLen:=by unfold maxLen; omega
  have hby : (out.length + 4) * 1 ≤ 140737488355328:=by omega
  have hbs : base ≤ ((w.drewN (q + 1)).alloc (.cells #[.int .u8 92,.int .u8 120,.int .u8 c1.toNat,.int .u8 c2.toNat] 5)).heap.size:=by
   show base ≤ (w.alloc (.cells #[.int .u8 92,.int .u8 120,.int .u8 c1.toNat,.int .u8 c2.toNat] 5)).heap.size
   simp; omega
  have hbB : Below base w ((w.drewN (q + 1)).alloc (.cells #[.int .u8 92,.int .u8 120,.int .u8 c1.toNat,.int .u8 c2.toNat] 5)):=(below_drewN (Below.refl base w) (q + 1)).alloc hbase _
  have hszB : w.heap.size ≤ ((w.drewN (q + 1)).alloc (.cells #[.int .u8 92,.int .u8 120,.int .u8 c1.toNat,.int .u8 c2.toNat] 5)).heap.size:=hbB.size
  go_wp2_with fail
  go_region_held3 (fun _ => True) (trivial) ((refine step_append_lies _ (by rfl) _ _ _ (by rfl) base 5 i0 _ 1 1 Tryz.underlying37 hi hz0 hz1 hz2 (by rfl) (by omega) _ _ _ (by rfl) hown2 ⟨w.heap.size,0,none⟩ 4 4 [.int .u8 92,.int .u8 120,.int .u8 c1.toNat,.int .u8 c2.toNat] (by rfl) (by rfl) hnews hone (by omega) h63 hby hbs _ rfl ?_; intro gg cap w1 hown1 hgrow hat hltn))
  all_goals
   go_wp2
   go_ret
   exact ⟨_,rfl,aq_close (more:=[92,120,c1,c2]) hbB hbase hown1 hltR hgrow hszB⟩
set_option maxRecDepth 20000 in
theorem beqT {c d : UInt8} {n : Int} (hn : (d.toNat : Int) = n) (h : c = d) : ((c.toNat : Int) == n) = true:=by
 subst h; rw [hn]; exact beq_self_eq_true n
set_option maxRecDepth 20000 in
theorem aq_any (base : Nat) (v : Value) (out : List UInt8) (b : UInt8) (g : Nat) (lb : Array Value) (w : World) (hown : w.ownsRow base 5 1 v out.length (Lib.byteCells out)) (hbase : base ≤ w.heap.size) (hlen : out.length ≤ 100000000)
    (he : Enters Tryz.prog g) (hk : Calls Tryz.prog g (#[.int .u8 b.toNat] ++ lb) w fun e w' => e = .returned (.bool (betweenP 32 126 b)) ∧ ∃ q,w' = w.drewN q) :
    Calls Tryz.prog 116 #[v,.int .u8 b.toNat,.func (.func g) #[] lb] w (Appended base (out ++ quoteB b) w):=by
  unfold quoteB
  by_cases h10 : b = 10
  · rw [if_pos h10]; exact aq_nl base v out b g lb w hown hbase hlen (beqT (d:=10) rfl h10)
  rw [if_neg h10]
  by_cases h9 : b = 9
  · rw [if_pos h9]; exact aq_tab base v out b g lb w hown hbase hlen (beqF (d:=10) rfl h10) (beqT (d:=9) rfl h9)
  rw [if_neg h9]
  by_cases h34 : b = 34
  · rw [if_pos (Or.inl h34)]; exact aq_q base v out b g lb w hown hbase hlen (beqF (d:=10) rfl h10) (beqF (d:=9) rfl h9) (beqT (d:=34) rfl h34)
  by_cases h92 : b = 92
  · rw [if_pos (Or.inr h92)]; exact aq_bs base v out b g lb w hown hbase hlen (beqF (d:=10) rfl h10) (beqF (d:=9) rfl h9) (beqF (d:=34) rfl h34) (beqT (d:=92) rfl h92)
  rw [if_neg (by rintro (h | h); exact h34 h; exact h92 h)]
  by_cases hs : 32 ≤ b.toNat ∧ b.toNat ≤ 126
  · rw [if_pos hs]
    exact aq_shown base v out b g lb w hown hbase hlen (beqF (d:=10) rfl h10) (beqF (d:=9) rfl h9) (beqF (d:=34) rfl h34) (beqF (d:=92) rfl h92) (betweenP 32 126) he hk (by simp [betweenP]; omega)
  · rw [if_neg hs]
    exact aq_hex base v out b g lb w hown hbase hlen (beqF (d:=10) rfl h10) (beqF (d:=9) rfl h9) (beqF (d:=34) rfl h34) (beqF (d:=92) rfl h92) (betweenP 32 126) he hk (by simp [betweenP]; omega)
end Go.Proofs.YtffnaknidofobaaGreatDoor
