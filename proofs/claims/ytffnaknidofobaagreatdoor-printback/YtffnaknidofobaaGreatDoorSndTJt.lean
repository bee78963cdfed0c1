/- A sound tree's texts are short. -/
import Derived.Test.YtffnaknidofobaaGreatDoorSndIJt
import Derived.Test.YtffnaknidofobaaGreatDoorParYJt
import Derived.Test.YtffnaknidofobaaGreatDoorLawBJt
namespace Go.Proofs.YtffnaknidofobaaGreatDoor
abbrev Tx (t : Tr) : Prop:=∀ n,txtT n t
theorem tx_of {t : Tr} (h : t.text.length ≤ 1024) (hk : ∀ k ∈ t.kids,Tx k) : Tx t:=fun n => by
 cases n with
 | zero => trivial
 | succ n => exact ⟨by unfold maxLen; omega,fun k hm => hk k hm n⟩
def Kd (r : Q → Tr → Bool) (t : Tr) : Prop:=t.text.length ≤ 1024 ∧ ∀ k ∈ t.kids,∃ q,r q k = true
theorem rowB_mem : ∀ {ps : List (Tr → Bool)} {ts : List Tr},rowB ps ts = true → ∀ t ∈ ts,∃ p ∈ ps,p t = true
  | [],[],_,t,ht => by cases ht
  | p :: ps,t :: ts,h,u,hu => by
   simp only [rowB,Bool.and_eq_true] at h
   rcases List.mem_cons.1 hu with rfl | hu
   · exact ⟨p,by simp,h.1⟩
   · obtain ⟨q,hq,e⟩:=rowB_mem h.2 u hu
     exact ⟨q,by simp [hq],e⟩
  | [],_ :: _,h,_,_ => by simp [rowB] at h
  | _ :: _,[],h,_,_ => by simp [rowB] at h
theorem parted_mem {ts : List Tr} {n : Int} {p q : Tr → Bool} (h : partedB ts n p q = true) : ∀ t ∈ ts,p t = true ∨ q t = true:=fun t ht => by
 simp only [partedB,Bool.and_eq_true] at h
 rw [← List.take_append_drop n.toNat ts] at ht
 rcases List.mem_append.1 ht with h1 | h1
 · exact .inl (List.all_eq_true.1 h.2.2.1 t h1)
 · exact .inr (List.all_eq_true.1 h.2.2.2 t h1)
section
variable {r : Q → Tr → Bool} {t : Tr} {ts : List Tr} {a b c : Q}
theorem row0 {p : Tr → Prop} (h : rowB [] ts = true) : ∀ k ∈ ts,p k:=fun k hk => by obtain ⟨p,hp,_⟩:=rowB_mem h k hk; cases hp
theorem row1S (h : rowB [r a] ts = true) : ∀ k ∈ ts,∃ q,r q k = true:=fun k hk => by
 obtain ⟨p,hp,e⟩:=rowB_mem h k hk
 simp at hp; subst hp; exact ⟨_,e⟩
theorem row2S (h : rowB [r a,r b] ts = true) : ∀ k ∈ ts,∃ q,r q k = true:=fun k hk => by
 obtain ⟨p,hp,e⟩:=rowB_mem h k hk
 simp at hp; rcases hp with rfl | rfl <;> exact ⟨_,e⟩
theorem row3S (h : rowB [r a,r b,r c] ts = true) : ∀ k ∈ ts,∃ q,r q k = true:=fun k hk => by
 obtain ⟨p,hp,e⟩:=rowB_mem h k hk
 simp at hp; rcases hp with rfl | rfl | rfl <;> exact ⟨_,e⟩
theorem all1 (h : ts.all (r a) = true) : ∀ k ∈ ts,∃ q,r q k = true:=fun k hk => ⟨_,List.all_eq_true.1 h k hk⟩
theorem part2 {n : Int} (h : partedB ts n (r a) (r b) = true) : ∀ k ∈ ts,∃ q,r q k = true:=fun k hk => by rcases parted_mem h k hk with e | e <;> exact ⟨_,e⟩
theorem nameP_lenS {s : List UInt8} (h : nameP s = true) : s.length ≤ 1024:=by
 unfold nameP at h
 split at h
 · cases h
 · rename_i h1; omega
theorem named_lenS (h : namedT t = true) : t.text.length ≤ 1024:=by simp only [namedT,Bool.and_eq_true] at h; exact nameP_lenS h.2
theorem bare_len (h : bareT t = true) : t.text.length ≤ 1024:=by simp only [bareT,Bool.and_eq_true,beq_iff_eq] at h; rw [h.1]; simp
theorem numb_len (h : numberedT t = true) : t.text.length ≤ 1024:=by simp only [numberedT,beq_iff_eq] at h; rw [h]; simp
theorem prefix_lenS {s : List UInt8} (h : prefixL s = true) : s.length ≤ 1024:=by
 simp only [prefixL,Bool.or_eq_true,beq_iff_eq] at h
 rcases h with ((h | h) | h) | h <;> rw [h] <;> simp
theorem rank_lenS {s : List UInt8} (h : 0 < rankL s) : s.length ≤ 1024:=by
 rcases Nat.lt_or_ge s.length 3 with h1 | h1
 · omega
 · exfalso
   have hn : ∀ u : List UInt8,u.length < 3 → (s == u) = false:=fun u hu => by
    rw [beq_eq_false_iff_ne]; intro e; rw [e] at h1; omega
   simp [rankL,hn] at h
theorem typB_k (h : typB r t = true) : Kd r t:=by
 unfold typB at h
 split at h
 · simp only [Bool.and_eq_true] at h; exact ⟨named_lenS h.1,row0 h.2⟩
 · split at h
   · simp only [Bool.and_eq_true] at h; exact ⟨bare_len h.1,row1S h.2⟩
   · split at h
     · simp only [Bool.and_eq_true] at h; exact ⟨numb_len h.1,part2 h.2⟩
     · cases h
theorem parB_k (h : parB r t = true) : Kd r t:=by simp only [parB,Bool.and_eq_true] at h; exact ⟨named_lenS h.2.1,row1S h.2.2⟩
theorem sigB_k (h : sigB r t = true) : Kd r t:=by simp only [sigB,Bool.and_eq_true] at h; exact ⟨numb_len h.2.1,part2 h.2.2⟩
theorem blkB_k (h : blkB r t = true) : Kd r t:=by simp only [blkB,Bool.and_eq_true] at h; exact ⟨bare_len h.2.1,all1 h.2.2⟩
theorem ifB_k (h : ifB r t = true) : Kd r t:=by
 simp only [ifB,Bool.and_eq_true,Bool.or_eq_true] at h
 exact ⟨bare_len h.2.1,h.2.2.elim (fun e => row2S e) (fun e => row3S e)⟩
theorem elsB_k (h : elsB r t = true) : Kd r t:=by
 simp only [elsB,Bool.or_eq_true] at h
 rcases h with h | h
 · exact blkB_k h
 · exact ifB_k h
theorem asgB_k {p : Tr → Bool} (h : asgB r p t = true) : Kd r t:=by simp only [asgB,Bool.and_eq_true] at h; exact ⟨numb_len h.1,all1 h.2.2.2.2⟩
theorem stmB_k (h : stmB r t = true) : Kd r t:=by
 unfold stmB at h
 split at h
 · exact blkB_k h
 · split at h
   · exact ifB_k h
   · split at h
     · simp only [Bool.and_eq_true,Bool.or_eq_true] at h; exact ⟨named_lenS h.1,h.2.elim (fun e => row1S e) (fun e => row2S e)⟩
     · split at h
       · exact asgB_k h
       · split at h
         · exact asgB_k h
         · split at h
           · simp only [Bool.and_eq_true] at h; exact ⟨bare_len h.1,row1S h.2.2⟩
           · split at h
             · simp only [Bool.and_eq_true,Bool.or_eq_true] at h; exact ⟨bare_len h.1,h.2.elim (fun e => row1S e) (fun e => row2S e)⟩
             · split at h
               · simp only [Bool.and_eq_true] at h; exact ⟨bare_len h.1,all1 h.2⟩
               · split at h
                 · simp only [Bool.and_eq_true] at h; exact ⟨bare_len h.1,row0 h.2⟩
                 · cases h
theorem leafB_k (h : leafB t = true) : Kd r t:=by
 unfold leafB at h
 split at h
 · cases h
 · rename_i h0
   have e : t.kids = []:=List.eq_nil_of_length_eq_zero (by omega)
   refine ⟨?_,fun k hk => by rw [e] at hk; cases hk⟩
   split at h
   · simp only [Bool.and_eq_true] at h; exact numb_len h.1
   · split at h
     · simp only [Bool.and_eq_true,decide_eq_true_eq] at h; exact h.2
     · split at h
       · simp only [Bool.and_eq_true] at h; exact numb_len h.1
       · split at h
         · exact named_lenS h
         · exact bare_len h
theorem expB_k (h : expB r t = true) : Kd r t:=by
 unfold expB at h
 split at h
 · exact leafB_k h
 · split at h
   · simp only [Bool.and_eq_true] at h; exact ⟨named_lenS h.1,all1 h.2⟩
   · split at h
     · simp only [Bool.and_eq_true] at h; exact ⟨bare_len h.1,part2 h.2⟩
     · split at h
       · simp only [Bool.and_eq_true] at h; exact ⟨bare_len h.1,row2S h.2⟩
       · split at h
         · simp only [Bool.and_eq_true] at h; exact ⟨named_lenS h.1,row1S h.2⟩
         · split at h
           · simp only [Bool.and_eq_true] at h; exact ⟨bare_len h.1,row2S h.2⟩
           · split at h
             · simp only [Bool.and_eq_true] at h; exact ⟨numb_len h.1,all1 h.2.2⟩
             · split at h
               · simp only [Bool.and_eq_true] at h; exact ⟨bare_len h.1,all1 h.2.2⟩
               · split at h
                 · simp only [Bool.and_eq_true] at h; exact ⟨prefix_lenS h.2.1,row1S h.2.2⟩
                 · split at h
                   · simp only [Bool.and_eq_true,decide_eq_true_eq] at h; exact ⟨rank_lenS h.2.1,row2S h.2.2⟩
                   · cases h
end
theorem snd_tx : ∀ m q t,snd m q t = true → Tx t
  | 0,_,_,h => by simp [snd] at h
  | m + 1,q,t,h => by
   have k : Kd (snd m) t:=by
    cases q with
    | typ => exact typB_k h
    | par => exact parB_k h
    | sig => exact sigB_k h
    | blk => exact blkB_k h
    | ifS => exact ifB_k h
    | els => exact elsB_k h
    | stm => exact stmB_k h
    | exp => exact expB_k h
   exact tx_of k.1 fun u hu => by obtain ⟨q',e⟩:=k.2 u hu; exact snd_tx m q' u e
theorem kd_tx {m : Nat} {t : Tr} (k : Kd (snd m) t) : Tx t:=tx_of k.1 fun u hu => by obtain ⟨q',e⟩:=k.2 u hu; exact snd_tx m q' u e
theorem fldB_tx {m : Nat} {t : Tr} (h : fldB (snd m) t = true) : Tx t:=by simp only [fldB,Bool.and_eq_true] at h; exact kd_tx ⟨named_lenS h.2.1,row1S h.2.2⟩
theorem metB_tx {m : Nat} {t : Tr} (h : metB (snd m) t = true) : Tx t:=by simp only [metB,Bool.and_eq_true] at h; exact kd_tx ⟨named_lenS h.2.1,row1S h.2.2⟩
theorem recB_tx {m : Nat} {t : Tr} (h : recB (snd m) t = true) : Tx t:=by simp only [recB,Bool.and_eq_true] at h; exact kd_tx (parB_k h.1)
theorem decB_tx {m : Nat} {t : Tr} (h : decB m t = true) : Tx t:=by
 unfold decB at h
 split at h
 · simp only [Bool.and_eq_true] at h; exact tx_of (named_lenS h.1) fun k hk => fldB_tx (List.all_eq_true.1 h.2 k hk)
 · split at h
   · simp only [Bool.and_eq_true] at h; exact tx_of (named_lenS h.1) fun k hk => metB_tx (List.all_eq_true.1 h.2 k hk)
   · split at h
     · simp only [Bool.and_eq_true] at h
       exact tx_of (named_lenS h.1) fun k hk => by
        obtain ⟨p,hp,e⟩:=rowB_mem h.2 k hk
        simp at hp; rcases hp with rfl | rfl <;> exact snd_tx _ _ _ e
     · split at h
       · simp only [Bool.and_eq_true] at h
         exact tx_of (named_lenS h.1) fun k hk => by
          obtain ⟨p,hp,e⟩:=rowB_mem h.2 k hk
          simp at hp
          rcases hp with rfl | rfl | rfl
          · exact recB_tx e
          · exact snd_tx _ _ _ e
          · exact snd_tx _ _ _ e
       · cases h
theorem sound_tx {t : Tr} (h : soundT t = true) : Tx t:=by
 simp only [soundT,prgB,Bool.and_eq_true] at h
 exact tx_of (bare_len h.2.2.1) fun k hk => decB_tx (List.all_eq_true.1 h.2.2.2 k hk)
end Go.Proofs.YtffnaknidofobaaGreatDoor

namespace Go.Proofs.YtffnaknidofobaaGreatDoor
open Go.RowKit
theorem tok_alone {l : List UInt8} {a e : Nat} {kd : Int} {t : List UInt8} {n : Int} (ha : a < l.length) (ht : tokL l a = some (kd,t,n,e)) : tokL (seg l a e) 0 = some (kd,t,n,e - a):=by
 have he:=tokL_end ha ht
 rw [tokL_drop] at ht
 cases hy : tokL (l.drop a) 0 with
 | none => rw [hy] at ht; cases ht
 | some x =>
  obtain ⟨kd',t',n',e'⟩:=x
  rw [hy] at ht
  injection ht with ht
  injection ht with h1 ht
  injection ht with h2 ht
  injection ht with h3 ht
  subst h1; subst h2; subst h3
  have : e' = e - a:=by omega
  subst this
  have hc:=tokL_cut (m:=e - a) Ends.nil (drop_ne ha) hy (Nat.le_refl _)
  rw [List.append_nil] at hc
  exact hc
theorem tokL_kinds {l : List UInt8} {a e : Nat} {kd : Int} {t : List UInt8} {n : Int} (ha : a < l.length) (h : tokL l a = some (kd,t,n,e)) : (kd = 1 → nameP t = true) ∧ (kd = 3 → t.length ≤ 1024) ∧ (kd = 2 → 0 ≤ n):=by
 have he:=tokL_end ha h
 have hal:=tok_alone ha h
 unfold tokL at h
 split at h
 · unfold nameL at h
   split at h
   · cases h
   · rename_i h64
     injection h with h; injection h with h1 h; injection h with h2 h; injection h with h3 h4
     refine ⟨fun hk => ?_,fun hk => ?_,fun _ => by rw [← h3]; exact Int.le_refl _⟩
     · have hl : t.length = e - a:=by rw [← h2,h4]; exact piece_len (by omega) he.2
       have ht : seg l a e = t:=by rw [← h2,h4]
       rw [ht] at hal
       unfold nameP
       rw [if_neg (by omega),hal]
       simp [hk,hl]
     · rw [← h1] at hk; unfold kindOf at hk; split at hk <;> cases hk
 · split at h
   · unfold numL at h
     split at h
     · cases h
     · split at h
       · cases h
       · split at h
         · cases h
         · injection h with h; injection h with h1 h; injection h with _ h; injection h with h3 _
           exact ⟨fun hk => by omega,fun hk => by omega,fun _ => by rw [← h3]; exact Int.natCast_nonneg _⟩
   · split at h
     · unfold textL at h
       split at h
       · rename_i t' e' hr
         injection h with h; injection h with h1 h; injection h with h2 h; injection h with h3 _
         refine ⟨fun hk => by omega,fun _ => ?_,fun hk => by omega⟩
         unfold textRes at hr
         split at hr
         · split at hr
           · rename_i hlen
             injection hr with hr; injection hr with hr _
             rw [← h2,← hr]; exact hlen
           · cases hr
         · cases hr
       · cases h
     · unfold markL at h
       split at h
       · injection h with h; injection h with h1 _
         exact ⟨fun hk => by omega,fun hk => by omega,fun hk => by omega⟩
       · split at h
         · injection h with h; injection h with h1 _
           exact ⟨fun hk => by omega,fun hk => by omega,fun hk => by omega⟩
         · cases h
theorem scan_tks {l : List UInt8} (h : (scanRes l).2.2 = 0) (n : Nat) : Tks (withEnd (scanRes l).1 n):=by
 have key : ∀ i,(kindA (withEnd (scanRes l).1 n) i = 1 → nameP (textA (withEnd (scanRes l).1 n) i) = true) ∧ (kindA (withEnd (scanRes l).1 n) i = 3 → (textA (withEnd (scanRes l).1 n) i).length ≤ 1024) ∧ (kindA (withEnd (scanRes l).1 n) i = 2 → 0 ≤ numA (withEnd (scanRes l).1 n) i):=by
  intro i
  rcases Nat.lt_or_ge i (scanRes l).1.length with hi | hi
  · obtain ⟨ha,e,ht⟩:=run_mem _ _ (scan_run h) ((scanRes l).1[i]) (List.getElem_mem hi)
    have:=tokL_kinds ha ht
    simp only [kindA,textA,numA,withEnd_at _ _ hi]; exact this
  · have hk : kindA (withEnd (scanRes l).1 n) i = 4 ∨ kindA (withEnd (scanRes l).1 n) i = 0:=by
     rcases Nat.eq_or_lt_of_le hi with e | e
     · left; rw [← e]; simp [kindA,withEnd_last]
     · right
       have hn : (withEnd (scanRes l).1 n)[i]? = none:=List.getElem?_eq_none (by rw [withEnd_len]; omega)
       simp [kindA,tkA,List.getD_eq_getElem?_getD,hn]
    refine ⟨fun e => ?_,fun e => ?_,fun e => ?_⟩ <;> rcases hk with h1 | h1 <;> rw [h1] at e <;> cases e
 exact ⟨fun i => (key i).1,fun i => (key i).2.1,fun i => (key i).2.2⟩
theorem parse_sound {l : List UInt8} {t : Tr} (h : parseP l = (some t,0,0)) : soundT t = true:=by
 obtain ⟨h0,hs,_,_,j,hj⟩:=parseP_some h
 exact treeR_sound (scan_tks h0 _) hj hs
theorem scanF_code (l : List UInt8) : ∀ f a acc,((scanF l f a acc).2.2 = 0 ∨ (scanF l f a acc).2.2 = 3 ∨ (scanF l f a acc).2.2 = 4) ∧ (scanF l f a acc).2.1 ≤ l.length
  | 0,a,acc => ⟨.inl rfl,Nat.zero_le _⟩
  | f + 1,a,acc => by
   unfold scanF
   split
   · split
     · exact ⟨.inr (.inr rfl),by show a ≤ _; omega⟩
     · split
       · exact ⟨.inr (.inl rfl),by show a ≤ _; omega⟩
       · exact scanF_code l f _ _
   · exact ⟨.inl rfl,Nat.zero_le _⟩
theorem scan_code (l : List UInt8) : ((scanRes l).2.2 = 0 ∨ (scanRes l).2.2 = 3 ∨ (scanRes l).2.2 = 4 ∨ (scanRes l).2.2 = 13) ∧ (scanRes l).2.1 ≤ l.length:=by
 unfold scanRes
 split
 · exact ⟨.inr (.inr (.inr rfl)),Nat.zero_le _⟩
 · obtain ⟨h1,h2⟩:=scanF_code l (l.length + 1) (skipTo l 0) []
   exact ⟨by rcases h1 with h | h | h; exact .inl h; exact .inr (.inl h); exact .inr (.inr (.inl h)),h2⟩
theorem atA_le {l : List UInt8} (h : (scanRes l).2.2 = 0) (j : Nat) (hj : j < (withEnd (scanRes l).1 l.length).length) : atA (withEnd (scanRes l).1 l.length) j ≤ l.length:=by
 rw [withEnd_len] at hj
 rcases Nat.lt_or_ge j (scanRes l).1.length with hi | hi
 · obtain ⟨ha,_⟩:=run_mem _ _ (scan_run h) ((scanRes l).1[j]) (List.getElem_mem hi)
   simp only [atA,withEnd_at _ _ hi]; omega
 · have e : j = (scanRes l).1.length:=by omega
   rw [e]; simp [atA,withEnd_last]
theorem tree_idx {l : List UInt8} {j : Nat} (h : treeR (withEnd (scanRes l).1 l.length) = .bad j) : j < (withEnd (scanRes l).1 l.length).length:=by
 have b : Bd _ (treeR (withEnd (scanRes l).1 l.length)):=progR_b (ended _ _) (ps_b (ended _ _) _) (by rw [withEnd_len]; omega)
 rw [h] at b; exact b
/-- What Parse's answers are, where there is a fault. -/
theorem parse_fault {l : List UInt8} {a : Nat} {er : Int} (h : parseP l = (none,a,er)) : a ≤ l.length ∧ (er = 3 ∨ er = 4 ∨ er = 13):=by
 unfold parseP at h
 split at h
 · rename_i h0
   injection h with _ h; injection h with h1 h2
   obtain ⟨c1,c2⟩:=scan_code l
   rw [h1] at c2; rw [h2] at c1 h0
   exact ⟨c2,by rcases c1 with c | c | c | c; exact absurd c h0; exact .inl c; exact .inr (.inl c); exact .inr (.inr c)⟩
 · rename_i h0
   have h0' : (scanRes l).2.2 = 0:=by simpa using h0
   cases hT : treeR ((scanRes l).1 ++ [(4,[],0,l.length)]) with
   | bad j =>
    rw [hT] at h
    injection h with _ h; injection h with h1 h2
    rw [← h1,← h2]
    exact ⟨atA_le h0' j (tree_idx hT),.inl rfl⟩
   | ok u j =>
    rw [hT] at h
    simp only at h
    split at h
    · cases h
    · injection h with _ h; injection h with h1 h2
      rw [← h1,← h2]; exact ⟨Nat.zero_le _,.inr (.inl rfl)⟩
theorem run_ge {l : List UInt8} : ∀ (us : List TkA) (a : Nat),Run l a us → ∀ u ∈ us,a ≤ u.2.2.2
  | [],_,_,u,hu => by cases hu
  | v :: us,a,h,u,hu => by
   obtain ⟨h1,ha,e,ht,h2⟩:=h
   rcases List.mem_cons.1 hu with rfl | hu
   · omega
   · have:=run_ge us _ h2 u hu
     have:=tokL_end ha ht
     have:=skipTo_ge l e
     omega
theorem run_cut {l : List UInt8} : ∀ (us : List TkA) (a j : Nat) (u : TkA),Run l a us → us[j]? = some u → Run (l.take u.2.2.2) a (us.take j)
  | [],_,_,_,_,hu => by simp at hu
  | v :: us,a,0,u,h,hu => by
   obtain ⟨h1,_⟩:=h
   simp at hu; subst hu
   show (l.take v.2.2.2).length ≤ a
   rw [List.length_take]; omega
  | v :: us,a,j + 1,u,h,hu => by
   obtain ⟨h1,ha,e,ht,h2⟩:=h
   simp at hu
   have hg:=run_ge us _ h2 u (List.mem_of_getElem? hu)
   obtain ⟨hul,_⟩:=run_mem us _ h2 u (List.mem_of_getElem? hu)
   have he:=tokL_end ha ht
   have hs:=skipTo_ge l e
   rw [List.take_succ_cons]
   refine ⟨h1,by rw [List.length_take]; omega,e,tokL_take ha ht (by omega),?_⟩
   rw [skipTo_take hg]
   exact run_cut us _ j u h2 hu
/-- With the tokens ahead of a fault alone, the fault is at the end, or there is none, or the tree is too large. -/
theorem parse_cut {l : List UInt8} {a : Nat} (h : parseP l = (none,a,3)) (hs : (scanRes l).2.2 = 0) (ha : a ≠ l.length) :
    (∃ t,parseP (l.take a) = (some t,0,0)) ∨ parseP (l.take a) = (none,a,3) ∨ parseP (l.take a) = (none,0,4):=by
  have hl:=scan_len hs
  unfold parseP at h
  rw [if_neg (by rw [hs]; decide)] at h
  cases hT : treeR ((scanRes l).1 ++ [(4,[],0,l.length)]) with
  | ok u j =>
   rw [hT] at h
   simp only at h
   split at h
   · cases h
   · injection h with _ h; injection h with _ h; cases h
  | bad j =>
   rw [hT] at h
   injection h with _ h; injection h with h1 _
   have hT' : treeR (withEnd (scanRes l).1 l.length) = .bad j:=hT
   have hj:=tree_idx hT'
   rw [withEnd_len] at hj
   have h1' : atA (withEnd (scanRes l).1 l.length) j = a:=h1
   have hj2 : j < (scanRes l).1.length:=by
    rcases Nat.lt_or_ge j (scanRes l).1.length with h2 | h2
    · exact h2
    · exfalso; apply ha
      have e : j = (scanRes l).1.length:=by omega
      rw [← h1',e]; simp [atA,withEnd_last]
   have ea : ((scanRes l).1[j]).2.2.2 = a:=by rw [← h1']; simp only [atA,withEnd_at _ _ hj2]
   have hr:=run_cut _ _ j ((scanRes l).1[j]) (scan_run hs) (List.getElem?_eq_getElem hj2)
   rw [ea] at hr
   obtain ⟨hal,_⟩:=run_mem _ _ (scan_run hs) ((scanRes l).1[j]) (List.getElem_mem hj2)
   rw [ea] at hal
   have hsk : skipTo l 0 ≤ a:=by
    have:=run_ge _ _ (scan_run hs) ((scanRes l).1[j]) (List.getElem_mem hj2)
    rw [ea] at this; exact this
   rw [← skipTo_take hsk] at hr
   have hlen : (l.take a).length = a:=by rw [List.length_take]; omega
   have hsc:=scan_of_run (l:=l.take a) (ts:=(scanRes l).1.take j) (by omega) (by have:=scanRes_len l; rw [List.length_take]; omega) hr
   have hc:=treeR_cut (scanRes l).1 l.length a j (by rw [hT']; rfl) (by omega)
   unfold parseP
   rw [hsc]
   simp only
   rw [if_neg (by decide),hlen]
   cases hT2 : treeR (((scanRes l).1.take j) ++ [(4,[],0,a)]) with
   | bad k =>
    have hc' : (treeR (((scanRes l).1.take j) ++ [(4,[],0,a)])).idx = j:=hc
    rw [hT2] at hc'
    have e : k = j:=hc'
    subst e
    refine .inr (.inl ?_)
    have e2 : atA (withEnd ((scanRes l).1.take k) a) k = a:=by
     have:=withEnd_last ((scanRes l).1.take k) a
     have hk : ((scanRes l).1.take k).length = k:=by rw [List.length_take]; omega
     rw [hk] at this
     simp only [atA,this]
    have e3 : atA (((scanRes l).1.take k) ++ [(4,[],0,a)]) k = a:=e2
    simp only [e3]
   | ok u k =>
    simp only
    split
    · exact .inl ⟨u,rfl⟩
    · exact .inr (.inr rfl)
end Go.Proofs.YtffnaknidofobaaGreatDoor
