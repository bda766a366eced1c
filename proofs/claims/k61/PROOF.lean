import PyProof.Rows.All
import Wide.All
import OpenK.AllK
import Wide.FinOn
import KE.KSortTup
import PySem.SetOps
import PyProof.Rows.SetFrom
import PyProof.TupleKey
import PyProof.IsRules
import PyProof.Rows.SortRunsK
import Lean
import PyProof.EqAt
import PyProof.EqKinds
import PyProof.TupleCall
import PyProof.NeKinds
import KE.KEqDict
import PyProof.StrLawsIn
import PyProof.StrLaws
import Wide.Seal
import KE.KDictList
import KE.KDictSum
import KE.KDictLaws
import PySem.Challenge.RW_sightbook_k61_whole_secrets_walked
set_option Elab.async false
set_option linter.all false
set_option maxRecDepth 100000
open PySem
variable {a f C b T p T2 c l it:Addr}{fd:FuncData}{pins:List (Addr×Obj)}{Q E:Value->Shared->Prop}{s:Shared}{w:World}{P prog:Program}{i ep j lo mask t':Nat}{A:Around}{u v pm:Value}{o:Obj}{zs ps fl N N':List Str}{x qual z:Str}{h h' base:Heap}{n r:Int}{mg mA:Str->Option Value}{pos pos':PySem.Pos}{scope:Scope}{es:Array DictEntry}{tg e iter elt:Expr}{us vs its:List Value}{ord items:Array Value}{hs:List Int}{body:List Stmt}{ifs:List Expr}{env:Env}
section
open PySem PySem.W PySem.Spec PySem.Calls PyProof.Rows
def E3:=@List.length_map
def E4:=@wpAny_bind
def E5:=@List.mem_map
def E6:=@wpAny_pure
def E7:=@Nat.le_refl
def E8:=@Heap.get?_push_of_some
def E9:=@List.getElem?_map
def Fb:=@List.mem_singleton
def Fc:=@List.map_append
def Fd:=@List.mem_cons_self
def Fe:=@List.mem_of_getElem?
def Ff:=@List.mem_cons_of_mem
def Fg:=@List.getElem?_eq_getElem
def Fh:=@List.length_append
def Fi:=@List.map_cons
def Fj:=@wpS_bind
def Fl:=@Option.map_eq_some_iff
def Fm:=@List.map_map
def Fn:=@List.mem_cons
def Fo:=@Bool.false_eq_true
def Fp:=@List.getElem?_eq_some_iff
def Fq:=@decide_eq_true
def Fs:=@List.mem_append
def Ft:=@Heap.lt_size
def Fu:=@wpS_pure
def Fv:=@Heap.get?_push_size
def Fw:=@Option.some.inj
def Fx:=@Array.length_toList
def Fy:=@List.length_cons
def Fz:=@sizeLine_eq
def FA:=@of_decide_eq_true
def FC:=@Bool.false_ne_true
def FD:=@Nat.ne_of_lt
def FE:=@Array.getElem?_toList
def FG:=@Nat.zero_le
def FH:=@List.mem_filter
def FI:=@decide_eq_false
def FJ:=@Nat.lt_of_lt_of_le
def FK:=@List.mem_map_of_mem
def FL:=@Nat.le_trans
def FN:=@List.filterMap_cons
def FO:=@Array.getElem?_eq_getElem
def FP:=@List.size_toArray
def FQ:=@List.take_of_length_le
def FR:=@List.append_nil
def FT:=@List.mem_range
def FU:=@Bool.eq_iff_iff
def FV:=@Array.toList_append
def FW:=@List.append_assoc
def FX:=@List.getElem?_append_left
def FY:=@Array.getElem?_eq_some_iff
def FZ:=@List.length_singleton
def F0:=@List.mem_append_right
def F1:=@Bool.and_eq_true
def F2:=@List.length_range
def F3:=@List.length_take
def F4:=@List.take_append_drop
def F5:=@getElem?_pos
def F6:=@List.getElem?_append_right
def F7:=@wpAny_holding
def F8:=@wpS_forRange
def F9:=@List.find?_cons
def Ga:=@List.getElem?_eq_none_iff
def Gb:=@List.take_add_one
def Gd:=@List.mem_append_left
def Ge:=@Int.emod_lt_of_pos
def Gf:=@wpAny_mono
def Gg:=@List.nodup_cons
def Gh:=@wpAny_call_entry
def Gi:=@List.pairwise_append
def Gj:=@List.mem_iff_getElem
def Gk:=@List.pairwise_cons
def Gm:=@Nat.lt_irrefl
def Gn:=@List.length_eq_zero_iff
def Gp:=@List.getD_eq_getElem?_getD
def Gq:=@Int.emod_nonneg
def Gr:=@List.drop_eq_getElem_cons
def Gs:=@wpAny_setState_of
def Gu:=@wpAny_newObj_type
def Gv:=@wpS_modify
def Gw:=@wpAny_truthy_bool
def Gx:=@wpS_mono
def Gy:=@Nat.not_lt_zero
def Gz:=@Array.getD_eq_getD_getElem?
def GA:=@List.all_eq_true
def GB:=@Array.toList_extract
def GC:=@List.lookup_cons
def GD:=@List.take_length
def GF:=@Array.getElem?_eq_none_iff
def GG:=@Heap.size_push
def GH:=@List.pairwise_map
def GI:=@List.extract_eq_take_drop
def GJ:=@List.length_drop
def GK:=@wpAny_setField_rec
def GL:=@Nat.le_of_lt
def GN:=@List.map_nil
def GO:=@wpAny_rule
def GP:=@List.length_nil
def GQ:=@List.getElem_of_mem
def GR:=@List.drop_eq_nil_of_le
def GS:=@Array.perm_iff_toList_perm
def GU:=@List.any_cons
def GV:=@List.mem_reverse
def GW:=@List.nodup_nil
def GX:=@List.pairwise_iff_getElem
def GY:=@Nat.ne_of_gt
def GZ:=@Option.isSome_map
def G0:=@Bool.not_true
def G1:=@wpAny_typeNameOfWhole_keyiter
def G2:=@List.map_congr_left
def G3:=@Nat.lt_succ_self
def G4:=@Heap.get?_update_other
def G5:=@List.mem_filterMap
def G6:=@wpAny_Call_Name_kw
end
section
namespace SB
structure cw {α:Type}(ok:α->Prop)(lt:α->α->Bool):Prop where
 tr:∀ a b c,ok a->ok b->ok c->lt a b=true->lt b c=true->lt a c=true
 tot:∀ a b,ok a->ok b->a≠b->lt a b=false->lt b a=true
 asy:∀ a b,ok a->ok b->lt a b=true->lt b a=false
theorem cw.same{α:Type}{ok:α->Prop}{lt:α->α->Bool}(L:cw ok lt):∀{a b:List α},(∀ k∈a,ok k)->a.Perm b->a.Pairwise (fun x y=>lt x y=true)->b.Pairwise (fun x y=>lt x y=true)->a=b
 | [],b,_,p,_,_=>by rw[List.nil_perm.mp p]
 | x::a,[],_,p,_,_=>by have:=p.length_eq;simp at this
 | x::a,y::b,hk,p,ha,hb=>by
  have okx:=hk x (Fd ..);have oky:=hk y (p.mem_iff.mpr (Fd ..));have e:x=y:=Classical.byContradiction fun ne=>by
   have h1:y∈a:=by
    rcases Fn.mp (p.mem_iff.mpr (Fd ..):y∈x::a) with q|q
    ·exact absurd q.symm ne
    ·exact q
   have h2:x∈b:=by
    rcases Fn.mp (p.mem_iff.mp (Fd ..):x∈y::b) with q|q
    ·exact absurd q ne
    ·exact q
   have l1:=(Gk.mp ha).1 y h1;have l2:=(Gk.mp hb).1 x h2
   have:=L.asy _ _ okx oky l1
   rw[l2]at this;cases this
  subst e;rw[cw.same L (fun k hk'=>hk k (Ff _ hk')) p.cons_inv (Gk.mp ha).2 (Gk.mp hb).2]
end SB
end
section
namespace SB
open PySem PySem.SetTable
theorem BK(xs:Array Nat)(j:Nat)(inc:∀ a b:Nat,a<b->b<xs.size->xs.getD a 0<xs.getD b 0) :
  ∀(fuel lo hi:Nat),hi-lo<=fuel->lo<=hi->hi<=xs.size->(∀ i,i<lo->xs.getD i 0<j)->(∀ i,hi<=i->i<xs.size->j<=xs.getD i 0) →
   (below.go xs j fuel lo hi<=xs.size)/\(∀ i,i<below.go xs j fuel lo hi->xs.getD i 0<j)/\(∀ i,below.go xs j fuel lo hi<=i->i<xs.size->j<=xs.getD i 0):=by
 intro fuel;induction fuel with
 | zero=>
  intro lo hi hf hle hs h1 h2;have e:lo=hi:=by lia
  subst e;unfold below.go;exact⟨hs,h1,h2⟩
 | succ f ih=>
  intro lo hi hf hle hs h1 h2;unfold below.go
  by_cases hlt:lo<hi
  ·rw[if_pos hlt];have hm1:(lo+hi) / 2<xs.size:=by lia
   have e:xs.getD ((lo+hi) / 2) j=xs.getD ((lo+hi) / 2) 0:=by
    simp [Array.getD,hm1]
   dsimp only;rw[e]
   by_cases hc:xs.getD ((lo+hi) / 2) 0<j
   ·rw[if_pos hc];refine ih _ _ (by lia) (by lia) hs (fun i hi'=>?_) h2
    by_cases q:i=(lo+hi) / 2
    ·rw[q];exact hc
    ·have:=inc i ((lo+hi) / 2) (by lia) hm1
     lia
   ·rw[if_neg hc];refine ih _ _ (by lia) (by lia) (by lia) h1 (fun i hi' hi2=>?_)
    by_cases q:i=(lo+hi) / 2
    ·rw[q];lia
    ·have:=inc ((lo+hi) / 2) i (by lia) hi2
     lia
  ·rw[if_neg hlt];have e:lo=hi:=by lia
   subst e;exact⟨hs,h1,h2⟩
theorem fN{xs:Array Nat}(h:xs[i]? =some j):xs.getD i 0=j:=by
 rw[Gz,h];rfl
theorem jG{xs:Array Nat}(h:i<xs.size):xs[i]? =some (xs.getD i 0):=by
 rw[Gz,FO h];rfl
noncomputable def Inc (xs:Array Nat):Prop:=∀ a b:Nat,a<b->b<xs.size->xs.getD a 0<xs.getD b 0
theorem gU{xs:Array Nat}(inc:Inc xs)(j:Nat):(below xs j<=xs.size)/\(∀ i,i<below xs j->xs.getD i 0<j)/\(∀ i,below xs j<=i->i<xs.size->j<=xs.getD i 0):=
 BK xs j inc xs.size 0 xs.size (by lia) (FG _) (E7 _) (fun i h=>absurd h (Gy _)) (fun i h h'=>by lia)
theorem below_at{xs:Array Nat}(inc:Inc xs)(h:xs[i]? =some j):below xs j=i:=by
 obtain⟨h1,h2,h3⟩:=gU inc j;have hi:i<xs.size:=(FY.mp h).1;have e:=fN h;rcases Nat.lt_trichotomy (below xs j) i with q|q|q
 ·have a1:=h3 _ (E7 _) (by lia)
  have a2:=inc _ _ q hi;lia
 ·exact q
 ·have:=h2 _ q
  lia
noncomputable def Occ (t:SetTable)(j:Nat):Prop:=∃ i:Nat,t.place[i]? =some j
theorem uB{t:SetTable}(inc:Inc t.place)(h:t.place[i]? =some j):t.slot j=.live i:=by
 unfold SetTable.slot;dsimp only;rw[below_at inc h,h]
 simp
theorem xy{t:SetTable}(hd:t.dummies=#[])(h:¬ Occ t j):t.slot j=.empty:=by
 unfold SetTable.slot;dsimp only;have e1:(t.place[below t.place j]?==some j)=false:=by
  cases q:t.place[below t.place j]? with
  | none=>rfl
  | some x=>
   by_cases z:x=j
   ·exact absurd ⟨_,z▸q⟩ h
   ·simp [z]
 rw[e1,hd]
 simp [SetTable.has]
noncomputable def adv (mask:Nat)(p:Probe):Probe:=
 if p.more > 0 then { p with j:=p.j+1,more:=p.more-1 } else
 { p with j:=(leap mask p.i p.perturb).1,more:=runEnd mask (leap mask p.i p.perturb).1-(leap mask p.i p.perturb).1,i:=(leap mask p.i p.perturb).1,perturb:=(leap mask p.i p.perturb).2 }
noncomputable def st0 (mask:Nat)(b:Nat):Probe:={ j:=b%(mask+1),more:=runEnd mask (b%(mask+1))-b%(mask+1),i:=b%(mask+1),perturb:=b,dummy:=none }
noncomputable def st (mask b:Nat):Nat->Probe
 | 0=>st0 mask b
 | n+1=>adv mask (st mask b n)
theorem mV(mask b:Nat):∀ n,(st mask b n).dummy=none
 | 0=>rfl
 | n+1=>by
  show(adv mask (st mask b n)).dummy=none
  unfold adv
  split
  ·exact mV mask b n
  ·exact mV mask b n
noncomputable def rs (mask b:Nat):Nat->Nat×Nat
 | 0=>(b%(mask+1),b)
 | k+1=>leap mask (rs mask b k).1 (rs mask b k).2
noncomputable def ln (mask i:Nat):Nat:=runEnd mask i-i
theorem BX(mask i:Nat):ln mask i<=9:=by unfold ln runEnd;split <;> lia
theorem p0(mask b k:Nat):(rs mask b k).1<=mask:=by
 cases k with
 | zero=>exact Nat.lt_succ_iff.mp (Nat.mod_lt _ (Nat.succ_pos _))
 | succ k=>
  show(leap mask _ _).1<=mask
  unfold leap;exact Nat.lt_succ_iff.mp (Nat.mod_lt _ (Nat.succ_pos _))
noncomputable def sk (mask b:Nat):Nat->Nat
 | 0=>0
 | k+1=>sk mask b k+ln mask (rs mask b k).1+1
theorem sQ(mask b:Nat):∀ k,sk mask b k<=10*k
 | 0=>E7 _
 | k+1=>by
  have h1:=sQ mask b k;have h2:=BX mask (rs mask b k).1;show sk mask b k+ln mask (rs mask b k).1+1<=10*(k+1)
  lia
noncomputable def gi (mask b k d:Nat):Probe:={ j:=(rs mask b k).1+d,more:=ln mask (rs mask b k).1-d,i:=(rs mask b k).1,perturb:=(rs mask b k).2,dummy:=none }
theorem n5(mask b k:Nat)(h0:st mask b (sk mask b k)=gi mask b k 0):∀ d,d<=ln mask (rs mask b k).1->st mask b (sk mask b k+d)=gi mask b k d
 | 0,_=>h0
 | d+1,h=>by
  show adv mask (st mask b (sk mask b k+d))=_
  rw[n5 mask b k h0 d (by lia)]
  unfold adv gi;dsimp only;rw[if_pos (by lia)]
  simp only[Probe.mk.injEq,and_true];lia
theorem iK(mask b:Nat):∀ k,st mask b (sk mask b k)=gi mask b k 0
 | 0=>rfl
 | k+1=>by
  show adv mask (st mask b (sk mask b k+ln mask (rs mask b k).1))=_
  rw[n5 mask b k (iK mask b k) _ (E7 _)];unfold adv gi;dsimp only;rw[if_neg (by lia)]
  rfl
theorem Ck(mask b k d:Nat)(h:d<=ln mask (rs mask b k).1):st mask b (sk mask b k+d)=gi mask b k d:=n5 mask b k (iK mask b k) d h
theorem pb(mask b k d:Nat)(h:d<=ln mask (rs mask b k).1):(st mask b (sk mask b k+d)).j=(rs mask b k).1+d:=by rw[Ck mask b k d h];rfl
theorem rL(mask b:Nat):∀ k,(rs mask b k).2=b / 32^k
 | 0=>by simp [rs]
 | k+1=>by
  show(rs mask b k).2 / 32=_
  rw[rL mask b k,Nat.div_div_eq_div_mul,Nat.pow_succ]
theorem wq{b:Nat}(hb:b<2^64){k:Nat}(hk:13<=k):(rs mask b k).2=0:=by
 rw[rL];refine Nat.div_eq_of_lt (FJ hb ?_);exact FL (by decide:2^64<=32^13) (Nat.pow_le_pow_right (by decide) hk)
noncomputable def lcg (m i:Nat):Nat:=(i*5+1)%m
noncomputable def orb (m i:Nat):Nat->Nat
 | 0=>i
 | n+1=>lcg m (orb m i n)
theorem qR{b:Nat}(hb:b<2^64):∀ r,(rs mask b (13+r)).1=orb (mask+1) (rs mask b 13).1 r
 | 0=>rfl
 | r+1=>by
  show(leap mask (rs mask b (13+r)).1 (rs mask b (13+r)).2).1=lcg (mask+1) (orb (mask+1) (rs mask b 13).1 r)
  rw[<-qR hb r];unfold leap lcg;dsimp only;rw[wq hb (by lia:13<=13+r)]
theorem pX(m i:Nat):∀ r,orb m (lcg m i) r=orb m i (r+1)
 | 0=>rfl
 | r+1=>by show lcg m (orb m (lcg m i) r)=lcg m (orb m i (r+1));rw[pX m i r]
theorem jM(m i a:Nat):∀ r,orb m (orb m i a) r=orb m i (a+r)
 | 0=>rfl
 | r+1=>by show lcg m (orb m (orb m i a) r)=lcg m (orb m i (a+r));rw[jM m i a r]
noncomputable def meets (m e:Nat):Nat->Nat->Bool
 | 0,i=>i==e
 | n+1,i=>i==e||meets m e n (lcg m i)
theorem mq{m e:Nat}:∀{n i:Nat},meets m e n i=true->∃ r,r<=n/\orb m i r=e
 | 0,i,h=>⟨0,E7 _,by have h:i=e:=(by simpa [meets] using h);exact h⟩
 | n+1,i,h=>by
  rw[meets,Bool.or_eq_true]at h;rcases h with h|h
  ·have h:i=e:=by simpa using h
   exact⟨0,FG _,h⟩
  ·obtain⟨r,hr,q⟩:=mq h;exact⟨r+1,by lia,by rw[<-pX];exact q⟩
noncomputable def cX (mask:Nat):Prop:=mask=7\/mask=31\/mask=127
noncomputable def jf (mask:Nat):Bool:=((List.range (mask+1)).all fun e=>meets (mask+1) e mask 0)&&orb (mask+1) 0 (mask+1)==0
theorem am7:jf 7=true:=by decide +kernel
theorem zS:jf 31=true:=by decide +kernel
theorem CW:jf 127=true:=by decide +kernel
theorem cX.meet(h:cX mask):jf mask=true:=by
 rcases h with rfl|rfl|rfl
 ·exact am7
 ·exact zS
 ·exact CW
theorem cX.wG(h:cX mask){e:Nat}(hi:i<=mask)(he:e<=mask):∃ r,r<=mask/\orb (mask+1) i r=e:=by
 have h:=h.meet;unfold jf at h;rw[F1]at h;obtain⟨h,hz⟩:=h;have hz:orb (mask+1) 0 (mask+1)=0:=by simpa using hz
 obtain⟨a,ha,ea⟩:=mq (GA.mp h i (FT.mpr (Nat.lt_succ_of_le hi)));obtain⟨b,hb,eb⟩:=mq (GA.mp h e (FT.mpr (Nat.lt_succ_of_le he)))
 by_cases q:a<=b
 ·refine⟨b-a,by lia,?_⟩
  rw[<-ea,jM,show a+(b-a)=b by lia,eb]
 ·refine⟨mask+1-a+b,by lia,?_⟩
  rw[<-ea,jM,show a+(mask+1-a+b)=(mask+1)+b by lia,<-jM,hz,eb]
theorem cover{b e:Nat}(hm:cX mask)(hb:b<2^64)(he:e<=mask):∃ k,k<=mask+13/\(rs mask b k).1=e:=by
 obtain⟨r,hr,q⟩:=hm.wG (p0 mask b 13) he;exact⟨13+r,by lia,by rw[qR hb];exact q⟩
theorem AB{b e:Nat}(hm:cX mask)(hb:b<2^64)(he:e<=mask):∃ n,n<10*turns mask/\(st mask b n).j=e:=by
 obtain⟨k,hk,e1⟩:=cover hm hb he;refine⟨sk mask b k,?_,?_⟩
 ·have:=sQ mask b k
  unfold turns;lia
 ·rw[iK];exact e1
theorem oF(h:Int):bits h<2^64:=by
 unfold bits;have h1:=Gq h (show(2^64:Int)≠0 by decide)
 have h2:=Ge h (show(0:Int)<2^64 by decide)
 lia
theorem pj:∀(n:Nat)(f:Nat->Nat),(∀ i,i<=n->f i<n)->(∀ i j,i<=n->j<=n->f i=f j->i=j)->False
 | 0,f,h,_=>absurd (h 0 (E7 _)) (Gy _)
 | n+1,f,h,inj=>by
  refine pj n (fun i=>if f i=n then f (n+1) else f i) (fun i hi=>?_) (fun i j hi hj e=>?_)
  ·try dsimp only
   have h1:=h i (by lia)
   have h2:=h (n+1) (E7 _)
   split
   ·rename_i q
    have:f (n+1)≠n:=fun z=>by
     have:=inj i (n+1) (by lia) (E7 _) (by lia)
     lia
    lia
   ·lia
  ·try dsimp only at e
   split at e
   ·rename_i q
    split at e
    ·rename_i q'
     exact inj i j (by lia) (by lia) (by lia)
    ·have:=inj (n+1) j (E7 _) (by lia) e
     lia
   ·split at e
    ·have:=inj i (n+1) (by lia) (E7 _) e
     lia
    ·exact inj i j (by lia) (by lia) e
theorem C2{P:Nat->Prop}{n:Nat}(h:P n):∃ m,m<=n/\P m/\∀ k,k<m->¬ P k:=by
 induction n using Nat.strongRecOn with
 | ind n ih=>
  by_cases q:∃ k,k<n/\P k
  ·obtain⟨k,hk,pk⟩:=q;obtain⟨m,h1,h2,h3⟩:=ih k hk pk;exact⟨m,by lia,h2,h3⟩
  ·exact⟨n,E7 _,h,fun k hk pk=>q ⟨k,hk,pk⟩⟩
noncomputable def Reach (occ:Nat->Prop)(mask b j:Nat):Prop:=∃ n,(st mask b n).j=j/\∀ m,m<n->occ (st mask b m).j
theorem Reach.mono{occ occ':Nat->Prop}{b:Nat}(h:Reach occ mask b j)(hs:∀ j,occ j->occ' j):Reach occ' mask b j:=
 let ⟨n,h1,h2⟩:=h;⟨n,h1,fun m hm=>hs _ (h2 m hm)⟩
structure TOk (t:SetTable)(hs:List Int):Prop where
 dm:t.dummies=#[]
 siz:cX t.mask
 len:t.place.size=hs.length
 inc:Inc t.place
 le:∀(i j:Nat),t.place[i]? =some j->j<=t.mask
 rch:∀(i:Nat) (h:Int) (j:Nat),hs[i]? =some h->t.place[i]? =some j->Reach (Occ t) t.mask (bits h) j
theorem Inc.inj{xs:Array Nat}(inc:Inc xs){i':Nat}(h:xs[i]? =some j)(h':xs[i']? =some j):i=i':=by
 rw[<-below_at inc h,<-below_at inc h']
theorem TOk.hole{t:SetTable}(T:TOk t hs)(hr:hs.length<=t.mask):∃ e,e<=t.mask/\¬ Occ t e:=by
 refine Classical.byContradiction fun no=>?_
 have all:∀ e,e<=t.mask->Occ t e:=fun e he=>Classical.byContradiction fun z=>no ⟨e,he,z⟩
 refine pj t.mask (fun e=>below t.place e) (fun e he=>?_) (fun i j hi hj e=>?_)
 ·obtain⟨i,h⟩:=all e he
  try dsimp only
  rw[below_at T.inc h]
  have:i<t.place.size:=(FY.mp h).1
  have:=T.len
  lia
 ·obtain⟨a,ha⟩:=all i hi;obtain⟨c,hc⟩:=all j hj
  try dsimp only at e
  rw[below_at T.inc ha,below_at T.inc hc]at e;subst e;rw[ha]at hc;exact Fw hc
structure lE (t:SetTable)(b n:Nat):Prop where
 lt:n<10*turns t.mask
 no:¬ Occ t (st t.mask b n).j
 occ:∀ m,m<n->Occ t (st t.mask b m).j
theorem TOk.free{t:SetTable}(T:TOk t hs)(hr:hs.length<=t.mask){b:Nat}(hb:b<2^64):∃ n,lE t b n:=by
 obtain⟨e,he,no⟩:=T.hole hr;obtain⟨n,hn,q⟩:=AB T.siz hb he;obtain⟨m,h1,h2,h3⟩:=C2 (P:=fun n=>¬ Occ t (st t.mask b n).j) (n:=n) (by rw[q];exact no)
 exact⟨m,by lia,h2,fun k hk=>Classical.byContradiction fun z=>h3 k hk z⟩
theorem oj{t:SetTable}(T:TOk t hs)(hashAt:Nat->Int)(h:Int){b n0:Nat}(F:lE t b n0):∀(d n fuel:Nat),n+d=n0->d<fuel →
  (probe.go t hashAt h fuel (st t.mask b n)=some (.empty (st t.mask b n0).j none)/\∀ m i,n<=m->m<n0->t.place[i]? =some (st t.mask b m).j->¬ hashAt i=h) ∨
  (∃ m i,n<=m/\m<n0/\t.place[i]? =some (st t.mask b m).j/\hashAt i=h/\probe.go t hashAt h fuel (st t.mask b n)=some (.candidate (st t.mask b m).j i (st t.mask b (m+1))) ∧
   ∀ m' i',n<=m'->m'<m->t.place[i']? =some (st t.mask b m').j->¬ hashAt i'=h)
 | 0,n,0,_,hf=>by lia
 | 0,n,f+1,e,_=>by
  have e:n=n0:=by lia
  subst e
  left
  refine⟨?_,fun m i h1 h2=>by lia⟩
  unfold probe.go;rw[xy T.dm F.no,mV]
 | d+1,n,0,_,hf=>by lia
 | d+1,n,f+1,e,hf=>by
  obtain⟨i,hi⟩:=F.occ n (by lia)
  unfold probe.go;rw[uB T.inc hi]
  try dsimp only
  by_cases q:hashAt i=h
  ·right
   refine⟨n,i,E7 _,by lia,hi,q,?_,fun m' i' h1 h2=>by lia⟩
   rw[if_pos (by simp [q])]
   rfl
  ·rw[if_neg (by simp [q])]
   have step:∀ i',t.place[i']? =some (st t.mask b n).j->¬ hashAt i'=h:=fun i' hi'=>by
    rw[<-T.inc.inj hi hi'];exact q
   rcases oj T hashAt h F d (n+1) f (by lia) (by lia) with⟨g,z⟩|⟨m,i2,h1,h2,h3,h4,g,z⟩
   ·left
    refine⟨g,fun m i' h1 h2 h3=>?_⟩
    by_cases w:m=n
    ·subst w;exact step i' h3
    ·exact z m i' (by lia) h2 h3
   ·right
    refine⟨m,i2,by lia,h2,h3,h4,g,fun m' i' k1 k2 k3=>?_⟩
    by_cases w:m'=n
    ·subst w;exact step i' k3
    ·exact z m' i' (by lia) k2 k3
theorem dw{α:Type}(xs:Array α)(p:Nat)(x:α)(hp:p<=xs.size)(i:Nat):(insertAt xs p x)[i]? = if i<p then xs[i]? else if i=p then some x else xs[i-1]?:=by
 have e:(insertAt xs p x).toList=xs.toList.take p++x::xs.toList.drop p:=by
  unfold insertAt
  simp [GB]
  exact FQ (by simp)
 rw[<-FE,e];have hl:(xs.toList.take p).length=p:=by rw[F3];simp;lia
 by_cases h1:i<p
 ·rw[if_pos h1,FX (by lia),List.getElem?_take_of_lt h1,FE]
 ·rw[if_neg h1,F6 (by lia),hl]
  by_cases h2:i=p
  ·subst h2;rw[if_pos rfl]
   simp
  ·rw[if_neg h2];obtain⟨k,hk⟩:∃ k,i-p=k+1:=⟨i-p-1,by lia⟩
   rw[hk,List.getElem?_cons_succ,List.getElem?_drop,FE];congr 1;lia
theorem o8{α:Type}(xs:Array α)(p:Nat)(x:α)(hp:p<=xs.size):(insertAt xs p x).size=xs.size+1:=by
 unfold insertAt
 simp
 lia
theorem iJ{α:Type}(xs:Array α)(p:Nat)(x:α):(insertAt xs p x).toList=xs.toList.take p++x::xs.toList.drop p:=by
  unfold insertAt
  simp [GB]
  exact FQ (by simp)
theorem z9{α:Type}(xs:List α)(p:Nat)(x:α)(hp:p<=xs.length)(i:Nat):(xs.take p++x::xs.drop p)[i]? = if i<p then xs[i]? else if i=p then some x else xs[i-1]?:=by
 have h:=dw xs.toArray p x (by simpa using hp) i
 rw[<-FE,iJ]at h;simpa using h
theorem gb(t:SetTable)(j:Nat):(t.put j).1.place=insertAt t.place (below t.place j) j:=rfl
theorem rK(t:SetTable)(j:Nat):(t.put j).1.mask=t.mask:=rfl
theorem ku(t:SetTable)(j:Nat):(t.put j).2=below t.place j:=rfl
theorem Inc.of_get{xs:Array Nat}(h:∀(a b x y:Nat),a<b->xs[a]? =some x->xs[b]? =some y->x<y):Inc xs:=fun a b hab hb=>
 h a b _ _ hab (jG (by lia)) (jG hb)
theorem Inc.get{xs:Array Nat}(inc:Inc xs){a b x y:Nat}(hab:a<b)(ha:xs[a]? =some x)(hb:xs[b]? =some y):x<y:=by
 have:=inc a b hab (FY.mp hb).1
 rw[fN ha,fN hb]at this;exact this
theorem TOk.put{t:SetTable}(T:TOk t hs){h:Int}{n:Nat}(F:lE t (bits h) n)(hle:(st t.mask (bits h) n).j<=t.mask) :
  TOk (t.put (st t.mask (bits h) n).j).1 (hs.take (t.put (st t.mask (bits h) n).j).2++h::hs.drop (t.put (st t.mask (bits h) n).j).2):=by
 generalize ej:(st t.mask (bits h) n).j=j at *;obtain⟨b1,b2,b3⟩:=gU T.inc j;have hno:¬ Occ t j:=ej▸F.no;have occ':∀ k,Occ t k->Occ (t.put j).1 k:=fun k ⟨i,hi⟩=>by
  have hi':i<t.place.size:=(FY.mp hi).1
  by_cases q:i<below t.place j
  ·exact⟨i,by rw[gb,dw _ _ _ b1,if_pos q];exact hi⟩
  ·exact⟨i+1,by rw[gb,dw _ _ _ b1,if_neg (by lia),if_neg (by lia)];simpa using hi⟩
 have hlen:=T.len;refine⟨?_,T.siz,?_,Inc.of_get fun a b x y hab ha hb=>?_,fun i k hk=>?_,fun i h' k hh hk=>?_⟩
 ·show(if has t.dummies j=true then _ else _)=_
  rw[T.dm];rfl
 ·rw[gb,o8 _ _ _ b1,Fh,Fy,F3,GJ,ku];lia
 ·rw[gb,dw _ _ _ b1]at ha hb
  by_cases qb:b<below t.place j
  ·rw[if_pos qb]at hb;rw[if_pos (by lia)]at ha
   exact T.inc.get hab ha hb
  ·rw[if_neg qb]at hb
   by_cases qb':b=below t.place j
   ·rw[if_pos qb']at hb;rw[if_pos (by lia)]at ha
    have:=b2 a (by lia)
    rw[fN ha]at this
    have:=Fw hb
    lia
   ·rw[if_neg qb']at hb;have hbs:b-1<t.place.size:=(FY.mp hb).1;have hy:j<y:=by
     have h1:=b3 (b-1) (by lia) hbs
     rw[fN hb]at h1
     have:y≠j:=fun z=>hno ⟨b-1,z▸hb⟩
     lia
    by_cases qa:a<below t.place j
    ·rw[if_pos qa]at ha
     have:=b2 a qa
     rw[fN ha]at this;lia
    ·rw[if_neg qa]at ha
     by_cases qa':a=below t.place j
     ·rw[if_pos qa']at ha
      have:=Fw ha
      lia
     ·rw[if_neg qa']at ha;exact T.inc.get (by lia) ha hb
 ·rw[gb,dw _ _ _ b1]at hk;rw[rK]
  by_cases q:i<below t.place j
  ·rw[if_pos q]at hk;exact T.le _ _ hk
  ·rw[if_neg q]at hk
   by_cases q':i=below t.place j
   ·rw[if_pos q']at hk
    have:=Fw hk
    lia
   ·rw[if_neg q']at hk;exact T.le _ _ hk
 ·rw[gb,dw _ _ _ b1]at hk;rw[ku,z9 _ _ _ (by lia)]at hh
  rw[rK]
  by_cases q:i<below t.place j
  ·rw[if_pos q]at hk hh;exact(T.rch _ _ _ hh hk).mono occ'
  ·rw[if_neg q]at hk hh
   by_cases q':i=below t.place j
   ·rw[if_pos q']at hk hh;cases Fw hk
    cases Fw hh
    exact⟨n,ej,fun m hm=>occ' _ (F.occ m hm)⟩
   ·rw[if_neg q']at hk hh;exact(T.rch _ _ _ hh hk).mono occ'
noncomputable def fI (ow:Array (Option Nat))(j:Nat):Prop:=∃ k,ow[j]? =some (some k)
structure LOk (mask:Nat)(ow:Array (Option Nat))(hs:List Int):Prop where
 sz:ow.size=mask+1
 rch:∀(j k:Nat),ow[j]? =some (some k)->∃ h,hs[k]? =some h/\Reach (fI ow) mask (bits h) j
 all:∀ k,k<hs.length->∃ j:Nat,ow[j]? =some (some k)
 one:∀ j j' k:Nat,ow[j]? =some (some k)->ow[j']? =some (some k)->j=j'
theorem LOk.hole{ow:Array (Option Nat)}(L:LOk mask ow hs)(hr:hs.length<=mask):∃ e,e<=mask/\ow[e]? =some none:=by
 refine Classical.byContradiction fun no=>?_
 have all:∀ e,e<=mask->∃ k,ow[e]? =some (some k):=fun e he=>by
  have hlt:e<ow.size:=by rw[L.sz];lia
  cases q:ow[e]? with
  | none=>rw[GF]at q;lia
  | some o=>
   cases o with
   | none=>exact absurd ⟨e,he,q⟩ no
   | some k=>exact⟨k,rfl⟩
 refine pj mask (fun e=>((ow[e]?).getD none).getD 0) (fun e he=>?_) (fun i j hi hj e=>?_)
 ·obtain⟨k,hk⟩:=all e he;obtain⟨h,h1,_⟩:=L.rch e k hk
  have:k<hs.length:=(Fp.mp h1).1
  simp only[hk,Option.getD_some];lia
 ·obtain⟨a,ha⟩:=all i hi;obtain⟨c,hc⟩:=all j hj;simp only[ha,hc,Option.getD_some]at e;subst e;exact L.one _ _ _ ha hc
theorem CF{ow:Array (Option Nat)}(hsz:ow.size=mask+1){b e:Nat}(he:ow[e]? =some none):∀(c k fuel:Nat),(rs mask b (k+c)).1=e->c<fuel →
  (∀ m,m<sk mask b k->fI ow (st mask b m).j) →
  ∃ n,layClean.free mask ow fuel (rs mask b k).1 (rs mask b k).2=some (st mask b n).j/\ow[(st mask b n).j]? =some none/\∀ m,m<n->fI ow (st mask b m).j:=by
 intro c;induction c with
 | zero=>
  intro k fuel hk hf ho;cases fuel with
  | zero=>lia
  | succ f=>
   unfold layClean.free;have h0:((List.range (runEnd mask (rs mask b k).1+1-(rs mask b k).1)).find? fun k_1=>(ow.getD ((rs mask b k).1+k_1) (some 0)).isNone)=some 0:=by
    obtain⟨z,hz⟩:∃ z,runEnd mask (rs mask b k).1+1-(rs mask b k).1=z+1:=⟨runEnd mask (rs mask b k).1-(rs mask b k).1,by unfold runEnd;split <;> lia⟩
    rw[hz,List.range_succ_eq_map]
    have:(ow.getD ((rs mask b k).1+0) (some 0)).isNone=true:=by
     rw[Nat.add_zero,Gz];rw[Nat.add_zero]at hk;rw[hk,he];rfl
    rw[F9,this]
   rw[h0];refine⟨sk mask b k,?_,?_,ho⟩
   ·rw[iK];rfl
   ·rw[iK];show ow[(rs mask b k).1+0]? = _
    rw[Nat.add_zero]at hk ⊢;rw[hk,he]
 | succ c ih=>
  intro k fuel hk hf ho;cases fuel with
  | zero=>lia
  | succ f=>
   unfold layClean.free;have hlen:runEnd mask (rs mask b k).1+1-(rs mask b k).1=ln mask (rs mask b k).1+1:=by unfold ln runEnd;split <;> lia
   have hin:∀ d,d<=ln mask (rs mask b k).1->(rs mask b k).1+d<ow.size:=fun d hd=>by
    have h1:=p0 mask b k;rw[hsz];unfold ln runEnd at hd
    split at hd <;> lia
   have isn:∀ d,d<=ln mask (rs mask b k).1->((ow.getD ((rs mask b k).1+d) (some 0)).isNone=true↔ow[(rs mask b k).1+d]? =some none):=fun d hd=>by
    rw[Gz,FO (hin d hd)]
    simp
   have occ_of:∀ d,d<=ln mask (rs mask b k).1->¬ (ow.getD ((rs mask b k).1+d) (some 0)).isNone=true->fI ow (st mask b (sk mask b k+d)).j:=fun d hd hn=>by
    rw[pb _ _ _ _ hd];rw[isn d hd]at hn
    have:=hin d hd
    cases q:ow[(rs mask b k).1+d]? with
    | none=>rw[GF]at q;lia
    | some o=>
     cases o with
     | none=>exact absurd q hn
     | some k'=>exact⟨k',q⟩
   cases q:((List.range (runEnd mask (rs mask b k).1+1-(rs mask b k).1)).find? fun k_1=>(ow.getD ((rs mask b k).1+k_1) (some 0)).isNone) with
   | some d=>
    dsimp only;rw[List.find?_range_eq_some]at q;obtain⟨q1,q2,q3⟩:=q;rw[hlen,FT]at q2;refine⟨sk mask b k+d,?_,?_,fun m hm=>?_⟩
    ·rw[pb _ _ _ _ (by lia)]
    ·rw[pb _ _ _ _ (by lia)]
     exact(isn d (by lia)).mp q1
    ·by_cases w:m<sk mask b k
     ·exact ho m w
     ·obtain⟨d',rfl⟩:∃ d',m=sk mask b k+d':=⟨m-sk mask b k,by lia⟩
      refine occ_of d' (by lia) ?_
      have:=q3 d' (by lia)
      intro z;rw[z]at this;exact absurd this (by decide)
   | none=>
    dsimp only;rw[List.find?_eq_none]at q;refine ih (k+1) f (by rw[show k+1+c=k+(c+1) by lia];exact hk) (by lia) (fun m hm=>?_)
    by_cases w:m<sk mask b k
    ·exact ho m w
    ·obtain⟨d',rfl⟩:∃ d',m=sk mask b k+d':=⟨m-sk mask b k,by lia⟩
     have hm:sk mask b k+d'<sk mask b k+ln mask (rs mask b k).1+1:=hm;exact occ_of d' (by lia) (q d' (FT.mpr (by lia)))
theorem fZ{ow:Array (Option Nat)}(hj:j<ow.size)(v:Option Nat)(i:Nat):(ow.setIfInBounds j v)[i]? = if i=j then some v else ow[i]?:=by
 rw[Array.getElem?_setIfInBounds]
 by_cases q:j=i
 ·subst q;simp [hj]
 ·rw[if_neg q,if_neg fun z=>q z.symm]
theorem LOk.step{ow:Array (Option Nat)}(L:LOk mask ow hs)(hm:cX mask)(hr:hs.length<=mask)(h:Int) :
  ∃ j,layClean.free mask ow (turns mask) (bits h%(mask+1)) (bits h)=some j/\LOk mask (ow.setIfInBounds j (some hs.length)) (hs++[h]):=by
 obtain⟨e,he,hn⟩:=L.hole hr;obtain⟨c,hc,ec⟩:=cover hm (oF h) he;obtain⟨n,h1,h2,h3⟩:=CF L.sz hn c 0 (turns mask) (by rw[Nat.zero_add];exact ec) (by unfold turns;lia) (fun m hm=>absurd hm (Gy _))
 refine⟨_,h1,?_⟩;generalize ej:(st mask (bits h) n).j=j at *;have hj:j<ow.size:=(FY.mp h2).1;have occ':∀ i,fI ow i->fI (ow.setIfInBounds j (some hs.length)) i:=fun i ⟨k,hk⟩=>by
  by_cases q:i=j
  ·exact⟨hs.length,by rw[fZ hj,if_pos q]⟩
  ·exact⟨k,by rw[fZ hj,if_neg q];exact hk⟩
 refine⟨by rw[Array.size_setIfInBounds];exact L.sz,fun i k hk=>?_,fun k hk=>?_,fun i i' k hk hk'=>?_⟩
 ·rw[fZ hj]at hk
  by_cases q:i=j
  ·rw[if_pos q]at hk;have hk:hs.length=k:=by simpa using hk
   subst hk;refine⟨h,by simp,n,by rw[ej,q],fun m hm=>occ' _ (h3 m hm)⟩
  ·rw[if_neg q]at hk;obtain⟨h',e1,e2⟩:=L.rch i k hk
   have:k<hs.length:=(Fp.mp e1).1
   exact⟨h',by rw[FX this];exact e1,e2.mono occ'⟩
 ·rw[Fh,FZ]at hk
  by_cases q:k=hs.length
  ·exact⟨j,by rw[fZ hj,if_pos rfl,q]⟩
  ·obtain⟨i,hi⟩:=L.all k (by lia)
   refine⟨i,?_⟩;rw[fZ hj,if_neg fun z=>?_]
   ·exact hi
   ·rw[z,h2]at hi;cases hi
 ·rw[fZ hj]at hk hk'
  by_cases q:i=j
  ·by_cases q':i'=j
   ·lia
   ·rw[if_pos q]at hk;rw[if_neg q']at hk';have hk:hs.length=k:=by simpa using hk
    obtain⟨h',e1,_⟩:=L.rch _ _ hk'
    have:k<hs.length:=(Fp.mp e1).1
    lia
  ·rw[if_neg q]at hk
   by_cases q':i'=j
   ·rw[if_pos q']at hk';have hk':hs.length=k:=by simpa using hk'
    obtain⟨h',e1,_⟩:=L.rch _ _ hk
    have:k<hs.length:=(Fp.mp e1).1
    lia
   ·rw[if_neg q']at hk';exact L.one _ _ _ hk hk'
noncomputable def ox (mask:Nat)(acc:Option (Array (Option Nat)×Nat))(h:Int):Option (Array (Option Nat)×Nat):=do
 let (owner,k) <-acc
 let j <-layClean.free mask owner (turns mask) (bits h%(mask+1)) (bits h)
 pure (owner.setIfInBounds j (some k),k+1)
theorem wU(mask:Nat)(hashes:Array Int):layClean mask hashes=(hashes.toList.foldl (ox mask) (some (Array.replicate (mask+1) none,0))).map (·.1):=by
 unfold layClean;rw[Array.foldl_toList];rfl
theorem vz(hm:cX mask):∀(rest hs:List Int)(ow:Array (Option Nat)),LOk mask ow hs->hs.length+rest.length<=mask →
  ∃ ow',rest.foldl (ox mask) (some (ow,hs.length))=some (ow',(hs++rest).length)/\LOk mask ow' (hs++rest)
 | [],hs,ow,L,_=>⟨ow,by simp,by simpa using L⟩
 | h::rest,hs,ow,L,hl=>by
  rw[Fy]at hl;obtain⟨j,h1,L'⟩:=L.step hm (by lia) h
  obtain⟨ow',h2,L2⟩:=vz hm rest (hs++[h]) _ L' (by rw[Fh,FZ];lia)
  refine⟨ow',?_,by simpa using L2⟩
  rw[List.foldl_cons];have e:ox mask (some (ow,hs.length)) h=some (ow.setIfInBounds j (some hs.length),(hs++[h]).length):=by
   show(some (ow,hs.length) >>= fun x=>layClean.free mask x.1 (turns mask) (bits h%(mask+1)) (bits h) >>= fun j=>pure (x.1.setIfInBounds j (some x.2),x.2+1))=_
   show(layClean.free mask ow (turns mask) (bits h%(mask+1)) (bits h) >>= fun j=>pure (ow.setIfInBounds j (some hs.length),hs.length+1))=_
   rw[h1]
   simp
  rw[e,h2]
  simp
theorem LOk.nil(mask:Nat):LOk mask (Array.replicate (mask+1) none) []:=by
 refine⟨by simp,fun j k h=>?_,fun k h=>absurd h (Gy _),fun j j' k h=>?_⟩
 ·rw[Array.getElem?_replicate]at h
  split at h <;> simp at h
 ·rw[Array.getElem?_replicate]at h
  split at h <;> simp at h
theorem yA(hm:cX mask)(hashes:Array Int)(hl:hashes.size<=mask):∃ ow,layClean mask hashes=some ow/\LOk mask ow hashes.toList:=by
 obtain⟨ow,h1,L⟩:=vz hm hashes.toList [] _ (LOk.nil mask) (by simpa using hl)
 refine⟨ow,?_,by simpa using L⟩
 rw[wU];simp only[GP]at h1;rw[h1];rfl
noncomputable def bS (mask:Nat)(ow:Array (Option Nat)):List (Nat×Nat):=(List.range (mask+1)).filterMap fun j=>(ow.getD j none).map (j,·)
theorem fu{ow:Array (Option Nat)}(hsz:ow.size=mask+1){k:Nat}:(j,k)∈bS mask ow↔ow[j]? =some (some k):=by
 unfold bS;rw[G5];constructor
 ·rintro⟨x,hx,e⟩;rw[FT]at hx;rw[Fl]at e;obtain⟨y,e1,e2⟩:=e;cases e2
  rw[Gz,FO (by lia)]at e1
  rw[FO (by lia)]
  simpa using e1
 ·intro h;have hj:j<ow.size:=(FY.mp h).1;refine⟨j,FT.mpr (by lia),?_⟩
  rw[Gz,h];rfl
theorem qE(mask:Nat)(ow:Array (Option Nat)):(bS mask ow).Pairwise (fun a b=>a.1<b.1):=by
 unfold bS;refine List.Pairwise.filterMap _ (fun a a' hlt b hb b' hb'=>?_) List.pairwise_lt_range
 rw[Fl]at hb hb';obtain⟨_,_,rfl⟩:=hb;obtain⟨_,_,rfl⟩:=hb';exact hlt
theorem qf{ow:Array (Option Nat)}(L:LOk mask ow hs):((bS mask ow).map (·.2)).Perm (List.range hs.length):=by
 refine(List.perm_ext_iff_of_nodup ?_ List.nodup_range).mpr fun k=>?_
 ·rw[List.Nodup,GH];refine List.Pairwise.imp_of_mem (fun {a b} ha hb hlt e=>?_) (qE mask ow)
  obtain⟨j,k⟩:=a;obtain⟨j',k'⟩:=b;rw[fu L.sz]at ha hb
  simp only at e hlt
  subst e
  have:=L.one _ _ _ ha hb
  lia
 ·rw[E5,FT];constructor
  ·rintro⟨⟨j,k'⟩,h1,rfl⟩;rw[fu L.sz]at h1;obtain⟨h,e,_⟩:=L.rch _ _ h1
   exact(Fp.mp e).1
  ·intro hk;obtain⟨j,hj⟩:=L.all k hk;exact⟨(j,k),(fu L.sz).mpr hj,rfl⟩
theorem nI{α β:Type}{f:α->Option β}{g:α->β}:∀{l:List α},(∀ x∈l,f x=some (g x))->l.filterMap f=l.map g
 | [],_=>rfl
 | x::l,h=>by
  rw[FN,h x (Fd ..),Fi,nI fun y hy=>h y (Ff _ hy)]
theorem oh{α:Type}:∀ l:List α,(List.range l.length).filterMap (fun i=>l[i]?)=l
 | []=>rfl
 | x::l=>by
  rw[Fy,List.range_succ_eq_map,FN];show x::_=_
  rw[List.filterMap_map];congr 1;exact oh l
theorem tD(hm:cX mask)(finger moves:Nat)(led plain:Bool)(es:Array (Int×Value))(hl:es.size<=mask) :
  ∃ t order,laid mask finger moves led plain (es.map (·.1))=some (t,order)/\t.mask=mask/\t.led=led/\order.toList.Perm (List.range es.size)/\(order.filterMap (es[·]?)).toList.Perm es.toList ∧
   TOk t ((order.filterMap (es[·]?)).toList.map (·.1)):=by
 obtain⟨ow,h1,L⟩:=yA hm (es.map (·.1)) (by simpa using hl)
 have hlen:(es.map (·.1)).toList.length=es.size:=by simp
 have e:((((bS mask ow).map (·.2)).toArray.filterMap (es[·]?))).toList=((bS mask ow).map (·.2)).filterMap (es[·]?):=by simp
 have hsome:∀ p∈bS mask ow,es[p.2]? =some ((es[p.2]?).getD (0,Value.none)):=fun p hp=>by
  obtain⟨j,k⟩:=p;rw[fu L.sz]at hp;obtain⟨h,e1,_⟩:=L.rch _ _ hp;have hk:k<(es.map (·.1)).toList.length:=(Fp.mp e1).1;rw[hlen]at hk;show es[k]? =some ((es[k]?).getD _)
  rw[FO hk];rfl
 have e2:((bS mask ow).map (·.2)).filterMap (es[·]?)=(bS mask ow).map fun p=>(es[p.2]?).getD (0,Value.none):=by
  rw[List.filterMap_map];exact nI hsome
 refine⟨{ mask,place:=((bS mask ow).map (·.1)).toArray,dummies:=#[],finger,led,moves,plain },((bS mask ow).map (·.2)).toArray,?_,rfl,rfl,by have:=qf L;rw[hlen]at this;simpa using this,?_,?_⟩
 ·unfold laid;rw[h1];rfl
 ·rw[e];refine((qf L).filterMap (es[·]?)).trans (List.Perm.of_eq ?_);rw[hlen]
  have:=oh es.toList
  simpa using this
 ·rw[e,e2];have occ:∀ j,fI ow j->Occ { mask,place:=((bS mask ow).map (·.1)).toArray,dummies:=#[],finger,led,moves,plain } j:=fun j ⟨k,hk⟩=>by
   have hmem:=(fu L.sz).mpr hk;obtain⟨i,hi⟩:=List.getElem?_of_mem hmem;exact⟨i,by simp [hi]⟩
  refine⟨rfl,hm,by simp,Inc.of_get fun a b x y hab ha hb=>?_,fun i j hj=>?_,fun i h j hh hj=>?_⟩
  ·have ha:((bS mask ow).map (·.1))[a]? =some x:=by simpa using ha
   have hb:((bS mask ow).map (·.1))[b]? =some y:=by simpa using hb
   have hp:((bS mask ow).map (·.1)).Pairwise (· < ·):=GH.mpr (qE mask ow);obtain⟨la,ea⟩:=Fp.mp ha;obtain⟨lb,eb⟩:=Fp.mp hb
   have:=GX.mp hp a b la lb hab
   rw[ea,eb]at this;exact this
  ·have hj:((bS mask ow).map (·.1))[i]? =some j:=by simpa using hj
   have:=Fe hj
   obtain⟨⟨j',k⟩,hm1,rfl⟩:=E5.mp this;rw[fu L.sz]at hm1
   have:j'<ow.size:=(FY.mp hm1).1
   show j'<=mask
   have:=L.sz
   lia
  ·have hj:((bS mask ow).map (·.1))[i]? =some j:=by simpa using hj
   rw[E9,Fl]at hj;obtain⟨⟨j',k⟩,hi,rfl⟩:=hj;rw[Fm,E9,hi]at hh;have hm1:=(fu L.sz).mp (Fe hi);obtain⟨h',e3,r⟩:=L.rch _ _ hm1
   have:h'=h:=by
    have hh:((es[k]?).getD (0,Value.none)).1=h:=by simpa using hh
    rw[<-hh];have e3:(es.toList.map (·.1))[k]? =some h':=by simpa using e3
    rw[E9,Fl]at e3;obtain⟨p,e4,rfl⟩:=e3;have e4:es[k]? =some p:=by simpa using e4
    rw[e4];rfl
   subst this;exact r.mono occ
section
variable {prog:Program}{w:World}{K:Type} [DecidableEq K] {knd:KeyKind prog w K}{A:Around}{E:Value->Shared->Prop}{s:Shared}
theorem EA{ks:List K}{Q:Bool->Shared->Prop}(hk:IsTupleKey knd s.heap ks a)(h:∀ b,Q b s):wpAny (model prog w) A (hashByValue 8 (.ref a)) Q E s:=by
 have hT:=hk.typeIs;obtain⟨o,items,n,ho,_,hd,hi⟩:=hk;unfold hashByValue;refine E4 (wpAny_specialOf hT F.slot_tuple_hash.lookup ?_);dsimp only;refine E4 (wpAny_seqItems ho hd ?_);refine E4 ?_;show wpAny _ _ (forIn items _ _) _ _ s
 rw[<-Array.forIn_toList];refine wpAny_forIn_list _ (fun rest r s'=>s'=s/\∀ v∈rest,carriedByValue v=true) _ ?_ ?_ _ _ ⟨rfl,hi.byValue⟩
 ·rintro v rest r s' ⟨rfl,hall⟩;have hv:=hall v Fd;have hr:∀ v'∈rest,carriedByValue v'=true:=fun v' h'=>hall v' (Ff _ h')
  have e:∃ b,hashByValue 7 v=pure b:=by
   cases v <;> first|exact⟨_,rfl⟩|exact Bool.noConfusion hv
  obtain⟨b,eb⟩:=e;rw[eb];refine E4 (E6 ?_);cases b
  ·simp only[Bool.not_false,if_true];exact E6 (E6 (h _))
  ·simp only[G0,Fo,if_false];exact E6 ⟨rfl,hr⟩
 ·rintro⟨r1,r2⟩ s' ⟨rfl,_⟩;cases r1
  ·exact E6 (h _)
  ·exact E6 (h _)
theorem pR{ks:List K}{Q:Bool->Shared->Prop}(hk:IsTupleKey knd s.heap ks a)(h:Q false s):wpAny (model prog w) A (ofAClassStatement 8 (.ref a)) Q E s:=by
 have hT:=hk.typeIs;obtain⟨o,items,n,ho,_,hd,hi⟩:=hk;unfold ofAClassStatement;refine E4 (wpAny_typeOf hT ?_);dsimp only;rw[if_pos (by decide)]
 refine E4 (E6 ?_);simp only[G0,Fo,if_false];refine E4 (wpAny_seqItems ho hd ?_);dsimp only;refine E4 ?_;rw[<-Array.forIn_toList];refine wpAny_forIn_list _ (fun rest r s'=>r.1=none/\s'=s/\∀ v∈rest,carriedByValue v=true) _ ?_ ?_ _ _ ⟨rfl,rfl,hi.byValue⟩
 ·rintro v rest r s' ⟨hr,rfl,hall⟩;have hv:=hall v Fd;have hr':∀ v'∈rest,carriedByValue v'=true:=fun v' h'=>hall v' (Ff _ h')
  have e:ofAClassStatement 7 v=pure false:=by
   cases v <;> first|rfl|exact Bool.noConfusion hv
  rw[e];refine E4 (E6 ?_);simp only[Fo,if_false];exact E6 ⟨rfl,rfl,hr'⟩
 ·rintro⟨r1,r2⟩ s' ⟨hr,rfl,_⟩
  simp only at hr
  subst hr;exact E6 h
theorem zX{ks:List K}{Q:Bool->Shared->Prop}(hk:IsTupleKey knd s.heap ks a){ys:List Value}(hy:∀ y∈ys,∃ ks' b,y=.ref b/\IsTupleKey knd s.heap ks' b)(h:Q false s) :
  wpAny (model prog w) A (searchCouldBeSeen (.ref a) ys) Q E s:=by
 unfold searchCouldBeSeen;refine E4 ?_;refine wpAny_forIn_list _ (fun rest r s'=>r.1=none/\s'=s/\∀ y∈rest,∃ ks' b,y=.ref b/\IsTupleKey knd s.heap ks' b) _ ?_ ?_ _ _ ⟨rfl,rfl,hy⟩
 ·rintro v rest r s' ⟨hr,rfl,hall⟩;obtain⟨ks',b,rfl,hb⟩:=hall v Fd;have hr':=fun v' h'=>hall v' (Ff _ h')
  dsimp only
  by_cases q:(a==b||carriedByValue (.ref a)&&carriedByValue (.ref b))=true
  ·rw[if_pos q];exact E6 ⟨rfl,rfl,hr'⟩
  ·rw[if_neg q];refine E4 (wpAny_eqIsQuiet_tuple hk ?_);simp only[G0,Fo,if_false];refine E4 (wpAny_eqIsQuiet_tuple hb ?_);simp only[G0,Fo,if_false];refine E4 (pR hk ?_);simp only[Fo,if_false];refine E4 (pR hb ?_);simp only[Fo,if_false];exact E6 ⟨rfl,rfl,hr'⟩
 ·rintro⟨r1,r2⟩ s' ⟨hr,rfl,_⟩
  simp only at hr
  subst hr;exact E6 h
noncomputable def hsh (es:Array (Int×Value))(i:Nat):Int:=(es[i]?.map (·.1)).getD 0
noncomputable def ur (knd:KeyKind prog w K)(h:Heap)(es:List (Int×Value)):Prop:=∀ e∈es,∃ ks b,e=(tupleKeyHash knd ks,.ref b)/\IsTupleKey knd h ks b
theorem BI{es:Array (Int×Value)}{t:SetTable}(ho:s.heap.get? a=some o)(hd:o.data=.set es ep t)(hf:t.fits es.size=true)(T:TOk t (es.toList.map (·.1)))(hent:ur knd s.heap es.toList){k:List K}{b0:Addr}(hk:IsTupleKey knd s.heap k b0)(hu:A.units<cLine){n0:Nat}(F:lE t (bits (tupleKeyHash knd k)) n0){Q:SetFound->Shared->Prop}(h1:(∃ b,(tupleKeyHash knd k,Value.ref b)∈es.toList/\IsTupleKey knd s.heap k b)->Q (.there none) s)(h2:(∀ b,(tupleKeyHash knd k,Value.ref b)∈es.toList->¬ IsTupleKey knd s.heap k b)->Q (.free (st t.mask (bits (tupleKeyHash knd k)) n0).j false) s) :
  ∀(d n fuel:Nat) (stand:Option Probe),n+d=n0->d<fuel->stand.getD (t.probeStart (tupleKeyHash knd k))=st t.mask (bits (tupleKeyHash knd k)) n →
   (∀(m i:Nat) (b:Addr),m<n->t.place[i]? =some (st t.mask (bits (tupleKeyHash knd k)) m).j->es[i]? =some (tupleKeyHash knd k,Value.ref b)->¬ IsTupleKey knd s.heap k b) →
   wpAny (model prog w) A (setSearchFrom a (.ref b0) (tupleKeyHash knd k) true fuel stand) Q E s:=by
 intro d;induction d using Nat.strongRecOn with
 | ind d ih=>
  intro n fuel stand hn hfu hst hseen;cases fuel with
  | zero=>lia
  | succ f=>
   unfold setSearchFrom;refine E4 (Gs ho hd hf ?_);dsimp only;have hodd:t.gaveWay=false:=by
    unfold SetTable.gaveWay;rcases T.siz with e|e|e <;> rw[e] <;> decide
   rw[hodd];simp only[Fo,if_false];rw[hst];have hlen:t.place.size=es.size:=by have:=T.len;simpa using this
   rcases oj T (hsh es) (tupleKeyHash knd k) F d n (10*turns t.mask) hn (by have:=F.lt;lia) with⟨g,no⟩|⟨m,i,m1,m2,m3,m4,g,no⟩
   ·have hp:t.probe (hsh es) (tupleKeyHash knd k) (st t.mask (bits (tupleKeyHash knd k)) n)=some (.empty (st t.mask (bits (tupleKeyHash knd k)) n0).j none):=g
    erw[hp]
    dsimp only;refine E6 (h2 fun b hb hkb=>?_)
    obtain⟨i,hi⟩:=List.getElem?_of_mem hb;have hi:es[i]? =some (tupleKeyHash knd k,Value.ref b):=by simpa using hi
    have hil:i<es.size:=(FY.mp hi).1;have hpl:t.place[i]? =some (t.place.getD i 0):=jG (by lia)
    obtain⟨n',e1,e2⟩:=T.rch i (tupleKeyHash knd k) _ (by rw[E9,FE,hi];rfl) hpl
    have hlt:n'<n0:=by
     rcases Nat.lt_trichotomy n' n0 with q|q|q
     ·exact q
     ·subst q;exact absurd ⟨i,by rw[e1];exact hpl⟩ F.no
     ·exact absurd (e2 n0 q) F.no
    by_cases q:n'<n
    ·exact hseen n' i b q (by rw[e1];exact hpl) hi hkb
    ·refine no n' i (by lia) hlt (by rw[e1];exact hpl) ?_
     unfold hsh;rw[hi];rfl
   ·have hp:t.probe (hsh es) (tupleKeyHash knd k) (st t.mask (bits (tupleKeyHash knd k)) n)=some (.candidate (st t.mask (bits (tupleKeyHash knd k)) m).j i (st t.mask (bits (tupleKeyHash knd k)) (m+1))):=g
    erw[hp]
    dsimp only;have hil:i<es.size:=by rw[<-hlen];exact(FY.mp m3).1
    obtain⟨e,he⟩:∃ e,es[i]? =some e:=⟨_,FO hil⟩;obtain⟨ks,b,rfl,hkb⟩:=hent e (by rw[<-FE]at he;exact Fe he)
    have eh:tupleKeyHash knd ks=tupleKeyHash knd k:=by
     unfold hsh at m4;rw[he]at m4;exact m4
    have go:wpAny (model prog w) A (do
      let some (_,y):=es[i]? | unsupported "internal:set-entry"
      let equal <-holding [y] (eqBool y (.ref b0))
      let (es',_,t') <-setState a
      if true&&equal then return .there none
      let some same:=t'.sameMemory t.moves t.mask|unsupported "set.changed-during-lookup:is-the-new-block-at-the-old-address"
      let still <-match (if same then t'.slot (st t.mask (bits (tupleKeyHash knd k)) m).j else .empty) with
       | .live i'=>match es'[i']? with
        | some (_,y')=>do pure (if <-isSame y' y then some i' else none)
        | none=>pure none
       | _=>pure none
      match still with
      | none=>rule "set.search.anew";setSearchFrom a (.ref b0) (tupleKeyHash knd k) true f none
      | some i'=>if equal then return .there (some i') else setSearchFrom a (.ref b0) (tupleKeyHash knd k) true f (some (st t.mask (bits (tupleKeyHash knd k)) (m+1)))) Q E s:=by
     rw[he];dsimp only;refine E4 (F7 (wpAny_eqBool_tuple hu hkb hk ?_));refine E4 (Gs ho hd hf ?_);dsimp only
     by_cases q:ks=k
     ·subst q;simp only[decide_true,Bool.and_true,if_true];refine E6 (h1 ⟨b,?_,hkb⟩);rw[<-FE]at he;exact Fe he
     ·rw[FI q];simp only[Bool.and_false,Fo,if_false];have hsm:t.sameMemory t.moves t.mask=some true:=by unfold SetTable.sameMemory;simp
      rw[hsm];dsimp only;simp only[if_true];rw[uB T.inc m3];dsimp only;rw[he];dsimp only;refine E4 (wpAny_isSame_ref_self (E4 (E6 ?_)));simp only[if_true];refine ih (n0-(m+1)) (by lia) (m+1) f _ (by lia) (by lia) rfl fun m' i' b' hm' hp' he'=>?_
      by_cases q1:m'<n
      ·exact hseen m' i' b' q1 hp' he'
      ·by_cases q2:m'=m
       ·subst q2
        have:=T.inc.inj m3 hp'
        subst this;rw[he]at he';have eb:b=b':=by
         have z:=congrArg Prod.snd (Fw he');exact Value.ref.inj z
        subst eb;intro z;exact q (hkb.inj z)
       ·intro _;refine no m' i' (by lia) (by lia) hp' ?_
        unfold hsh;rw[he'];rfl
    by_cases hl:t.led=true
    ·rw[hl];simp only[G0,Fo,if_false];exact go
    ·have hl:t.led=false:=by simpa using hl
     rw[hl];simp only[Bool.not_false,if_true];refine E4 (zX hk (fun y hy=>?_) ?_)
     ·obtain⟨p,hp1,rfl⟩:=E5.mp hy;have hp1:p∈es.toList:=by
       have:=hp1
       simp at this;simpa using this.1
      obtain⟨ks',b',rfl,hb'⟩:=hent p hp1;exact⟨ks',b',rfl,hb'⟩
     ·simp only[Fo,if_false];exact go
theorem sW(mask b:Nat):∀ n,(st mask b n).j+(st mask b n).more<=mask
 | 0=>by
  show b%(mask+1)+(runEnd mask (b%(mask+1))-b%(mask+1))<=mask
  have:b%(mask+1)<mask+1:=Nat.mod_lt b (Nat.succ_pos mask)
  unfold runEnd
  split <;> lia
 | n+1=>by
  have h:=sW mask b n
  show(adv mask (st mask b n)).j+(adv mask (st mask b n)).more<=mask
  unfold adv
  split
  ·dsimp only;lia
  ·dsimp only;have h2:(leap mask (st mask b n).i (st mask b n).perturb).1<mask+1:=by
    unfold leap;exact Nat.mod_lt _ (Nat.succ_pos mask)
   unfold runEnd
   split <;> lia
theorem pI(mask b n:Nat):(st mask b n).j<=mask:=by have:=sW mask b n;lia
theorem TOk.fits{t:SetTable}{es:Array (Int×Value)}(T:TOk t (es.toList.map (·.1)))(hr:es.size<=t.mask):t.fits es.size=true:=by
 unfold SetTable.fits SetTable.fill
 have:=T.len
 rw[E3,Fx]at this;rw[T.dm,this]
 simp [hr]
noncomputable def oz (knd:KeyKind prog w K)(h:Heap)(a:Addr)(led:Bool)(xs:List (List K×Addr)):Prop:=
 ∃ o es ep t,h.get? a=some o/\o.ExactSet/\o.data=.set es ep t/\TOk t (es.toList.map (·.1))/\es.size*5<t.mask*3/\t.led=led/\es.toList=xs.map (fun p=>(tupleKeyHash knd p.1,Value.ref p.2)) ∧
  (xs.map (·.1)).Nodup/\∀ p∈xs,IsTupleKey knd h p.1 p.2
theorem IsTupleKey.DH{ks:List K}{d:Addr} {es ep t}(x:IsTupleKey knd h ks a)(ho:h.get? d=some o)(hd:o.data=.set es ep t)(hs:Heap.SameBut d h h'):IsTupleKey knd h' ks a:=by
 obtain⟨o',items,n,ho',hc,hd',hi⟩:=x;have hne:a≠d:=by
  rintro rfl;obtain rfl:o'=o:=Fw (ho'.symm.trans ho);rw[hd]at hd';exact nomatch hd'
 exact⟨o',items,n,(hs.2 a hne).trans ho',hc,hd',hi⟩
theorem rn{α:Type}{l:List α}{x:α}(h:l.Nodup)(hx:x∉l):(l++[x]).Nodup:=by
 rw[List.nodup_append];exact⟨h,by simp,fun a ha b hb=>by rw[Fb]at hb;subst hb;intro z;subst z;exact hx ha⟩
theorem tG{es:Array (Int×Value)}{t:SetTable}(ho:s.heap.get? a=some o)(hex:o.ExactSet)(hd:o.data=.set es ep t){xs:List (List K×Addr)}(hx:∀ p∈xs,IsTupleKey knd s.heap p.1 p.2){es':Array (Int×Value)}{t':SetTable}(T:TOk t' (es'.toList.map (·.1)))(hs:es'.toList=xs.map (fun p=>(tupleKeyHash knd p.1,Value.ref p.2)))(hl:xs.length<=100){Q:Unit->Shared->Prop}(h:∀ h',Heap.SameBut a s.heap h'->h'.get? a=some { o with data:=.set es' (ep+1) t' }->(∀ p∈xs,IsTupleKey knd h' p.1 p.2)->Q () { s with heap:=h' }) :
  wpAny (model prog w) A (storeSet a es' t') Q E s:=by
 have hsz:es'.size=xs.length:=by rw[<-Fx,hs,E3]
 refine wpAny_storeSet_of ho hd (h _ (Heap.SameBut.update s.heap a (Obj.putSet es' t')) ?_ fun p hp=>IsTupleKey.DH (hx p hp) ho hd (Heap.SameBut.update s.heap a (Obj.putSet es' t'))) (by rw[hsz,Fz];lia)
 have:=Heap.get?_update_self (Obj.putSet es' t') ho (by rw[putSet_of es' t' hd];rfl)
 rw[putSet_of es' t' hd]at this;exact this
theorem g0{α β:Type}{f:α->β}:∀{l:List β}{xs:List α},l.Perm (xs.map f)->∃ ys:List α,ys.Perm xs/\l=ys.map f
 | [],xs,h=>⟨[],by
   have:=h.length_eq
   rw[E3]at this
   have:xs=[]:=Gn.mp this.symm
   rw[this],rfl⟩
 | y::l,xs,h=>by
  have hy:y∈xs.map f:=h.mem_iff.mp (Fd ..);obtain⟨x,hx,rfl⟩:=E5.mp hy;obtain⟨s,t,rfl⟩:=List.append_of_mem hx;have h2:l.Perm ((s++t).map f):=by
   have e:((s++x::t).map f).Perm (f x::(s++t).map f):=by
    rw[Fc,Fi,Fc];exact List.perm_middle
   exact(h.trans e).cons_inv
  obtain⟨ys,h3,rfl⟩:=g0 h2;exact⟨x::ys,(h3.cons x).trans List.perm_middle.symm,rfl⟩
theorem xf{led:Bool}{xs:List (List K×Addr)}{k:List K}{b0:Addr}(hS:oz knd s.heap a led xs)(hk:IsTupleKey knd s.heap k b0)(hu:A.units<cLine)(hl:xs.length<=60){Q:Bool->Shared->Prop}(h:∀ h' xs' r,Heap.SameBut a s.heap h'->oz knd h' a led xs'->xs'.Perm (if k∈xs.map (·.1) then xs else xs++[(k,b0)])->Q r { s with heap:=h' }) :
  wpAny (model prog w) A (setAddHashed a (.ref b0) (tupleKeyHash knd k)) Q E s:=by
 obtain⟨o,es,ep,t,ho,hex,hd,T,hroom,hled,hes,hnd,hkeys⟩:=id hS;have hsz:es.size=xs.length:=by rw[<-Fx,hes,E3]
 have hle:es.size<=t.mask:=by lia
 have hf:=T.fits hle;have hent:ur knd s.heap es.toList:=fun e he=>by
  rw[hes]at he;obtain⟨p,hp,rfl⟩:=E5.mp he;exact⟨p.1,p.2,rfl,hkeys p hp⟩
 obtain⟨n0,F⟩:=T.free (by rw[E3,Fx];exact hle) (oF (tupleKeyHash knd k))
 have eS:s={ s with heap:=s.heap }:=by cases s;rfl
 unfold setAddHashed setAddHashedIn;refine F7 (E4 (Gs ho hd hf ?_));dsimp only;have hby:byScan (.ref b0) es=false:=by unfold byScan;rfl
 rw[hby];simp only[Fo,if_false];refine E4 ?_;unfold setSearch;refine BI ho hd hf T hent hk hu F ?_ ?_ n0 0 100000 none (by lia) (by have:=F.lt;unfold turns at this;rcases T.siz with e|e|e <;> rw[e]at this <;> lia) rfl (fun m i b hm=>absurd hm (Gy _))
 ·rintro⟨b,hb,hkb⟩;dsimp only;refine E6 ?_;rw[eS];refine h s.heap xs _ (Heap.SameBut.refl a s.heap) hS ?_;rw[hes]at hb;obtain⟨p,hp,ep'⟩:=E5.mp hb;have e2:p.2=b:=by injection ep' with _ z;injection z
  have e1:p.1=k:=(hkeys p hp).inj (e2▸hkb);rw[if_pos (E5.mpr ⟨p,hp,e1⟩)]
 ·intro hno;dsimp only;have hnk:k∉xs.map (·.1):=fun hm=>by
   obtain⟨p,hp,rfl⟩:=E5.mp hm;exact hno p.2 (by rw[hes];exact E5.mpr ⟨p,hp,rfl⟩) (hkeys p hp)
  refine E4 (Gs ho hd hf ?_);dsimp only;generalize hj:(st t.mask (bits (tupleKeyHash knd k)) n0).j=j at *;have hTp:TOk (t.put j).1 ((insertAt es (t.put j).2 (tupleKeyHash knd k,Value.ref b0)).toList.map (·.1)):=by
   have:=T.put F (pI _ _ _)
   rw[hj]at this;rw[iJ,Fc,Fi,List.map_take,List.map_drop];exact this
  have hput:t.put j=((t.put j).1,(t.put j).2):=rfl;have hpl:(t.put j).2<=es.size:=by
   have:=(gU T.inc j).1
   have h2:=T.len;rw[E3,Fx]at h2;rw[ku];lia
  have hmk:(t.put j).1.mask=t.mask:=rfl;have hlk:(t.put j).1.led=led:=hled;generalize (t.put j).1=t1 at *;generalize (t.put j).2=p at *;have hxs:(insertAt es p (tupleKeyHash knd k,Value.ref b0)).toList=(xs.take p++(k,b0)::xs.drop p).map (fun p=>(tupleKeyHash knd p.1,Value.ref p.2)):=by
   rw[iJ,hes,Fc,Fi,List.map_take,List.map_drop]
  have hperm:(xs.take p++(k,b0)::xs.drop p).Perm (xs++[(k,b0)]):=by
   refine List.perm_middle.trans ?_;rw[F4]
   exact(List.perm_append_comm (l₁:=[(k,b0)]) (l₂:=xs))
  have hndp:((xs++[(k,b0)]).map (·.1)).Nodup:=by
   rw[Fc];exact rn hnd hnk
  have hkp:∀ q∈xs++[(k,b0)],IsTupleKey knd s.heap q.1 q.2:=fun q hq=>by
   rcases Fs.mp hq with hq|hq
   ·exact hkeys q hq
   ·rw[Fb]at hq;subst hq;exact hk
  have hlp:(xs++[(k,b0)]).length<=61:=by rw[Fh,FZ];lia
  generalize xs.take p++(k,b0)::xs.drop p=xs1 at *;have hsz1:(insertAt es p (tupleKeyHash knd k,Value.ref b0)).size=xs.length+1:=by rw[o8 _ _ _ hpl,hsz]
  generalize insertAt es p (tupleKeyHash knd k,Value.ref b0)=es1 at *;have hl1:xs1.length<=61:=by rw[hperm.length_eq];exact hlp
  have hnd1:(xs1.map (·.1)).Nodup:=(hperm.map (·.1)).nodup_iff.mpr hndp;have hk1:∀ q∈xs1,IsTupleKey knd s.heap q.1 q.2:=fun q hq=>hkp q (hperm.mem_iff.mp hq)
  have tail:∀(t2:SetTable),t2.mask=t.mask->t2.led=led->TOk t2 (es1.toList.map (·.1))->wpAny (model prog w) A (do
    storeSet a es1 t2
    if !false&&t2.tooFull then setRelay a (SetTable.grown (es.size+1))
    return true) Q E s:=fun t2 hm2 hl2 T2=>by
   refine E4 (tG ho hex hd hk1 T2 hxs (by lia) fun h1 hsb1 hg1 hkk1=>?_)
   have hfill:t2.fill=xs.length+1:=by
    unfold SetTable.fill
    have:=T2.len
    rw[E3,Fx]at this;rw[T2.dm,this,hsz1];rfl
   by_cases hfull:t2.tooFull=true
   ·rw[hfull];simp only[Bool.not_false,Bool.and_self,if_true];refine E4 ?_;unfold setRelay;have hle1:es1.size<=t2.mask:=by lia
    refine E4 (Gs hg1 rfl (T2.fits hle1) ?_);dsimp only;obtain⟨M,hM1,hM2,hM3⟩:∃ M,SetTable.sizeAbove (SetTable.grown (es.size+1))=M+1/\cX M/\(xs.length+1)*5<M*3:=by
     unfold SetTable.tooFull at hfull;have hfull:=FA hfull;rw[hfill,hm2]at hfull;have hs7:SetTable.sizeAbove (SetTable.grown 5)=32:=by decide +kernel
     have hs31:SetTable.sizeAbove (SetTable.grown 19)=128:=by decide +kernel
     rcases T.siz with e|e|e
     ·rw[e]at hfull hroom
      have:es.size=4:=by lia
      exact⟨31,by rw[this];exact hs7,.inr (.inl rfl),by lia⟩
     ·rw[e]at hfull hroom
      have:es.size=18:=by lia
      exact⟨127,by rw[this];exact hs31,.inr (.inr rfl),by lia⟩
     ·rw[e]at hfull hroom;lia
    rw[hM1];have hline:¬ (M+1 > sizeLine):=by rw[Fz];rcases hM2 with e|e|e <;> rw[e] <;> decide
    rw[if_neg hline];obtain⟨t3,order,hlaid,hmask3,hled3,_,hperm3,T3⟩:=tD hM2 t2.finger (t2.movedTo M) t2.led t2.plain es1 (by lia)
    have hrel:t2.relaid (es1.map (·.1)) (SetTable.grown (es.size+1))=some (t3,order):=by
     unfold SetTable.relaid;rw[hM1];exact hlaid
    rw[hrel];have hsz3:(order.filterMap (es1[·]?)).size=es1.size:=by rw[<-Fx,hperm3.length_eq,Fx]
    show wpAny (model prog w) A ((do
      if (order.filterMap (es1[·]?)).size !=es1.size then unsupported "internal:set-table-lost-an-element"
      pure (order.filterMap (es1[·]?),t3)) >>= fun x=>storeSet a x.1 x.2) _ E _
    rw[hsz3];simp only[bne_self_eq_false,Fo,if_false];refine E4 (E4 (E6 (E6 ?_)));dsimp only;generalize order.filterMap (es1[·]?)=es3 at *;obtain⟨xs3,hp3,he3⟩:∃ xs3:List (List K×Addr),xs3.Perm xs1/\es3.toList=xs3.map (fun p=>(tupleKeyHash knd p.1,Value.ref p.2)):=by
     rw[hxs]at hperm3;exact g0 hperm3
    refine tG (s:={ s with heap:=h1 }) (es:=es1) (t:=t2) (ep:=ep+1) hg1 hex rfl (fun q hq=>hkk1 q (hp3.mem_iff.mp hq)) T3 he3 (by rw[hp3.length_eq];lia) fun h2 hsb2 hg2 hkk2=>?_
    refine E6 (h h2 xs3 _ (hsb1.trans hsb2) ⟨_,es3,_,t3,hg2,hex,rfl,T3,?_,hled3.trans hl2,he3,(hp3.map (·.1)).nodup_iff.mpr hnd1,hkk2⟩ ?_)
    ·rw[hsz3,hsz1,hmask3];exact hM3
    ·rw[if_neg hnk];exact hp3.trans hperm
   ·have hfull:t2.tooFull=false:=by simpa using hfull
    rw[hfull];simp only[Bool.not_false,Bool.and_false,Fo,if_false];refine E6 (h h1 xs1 _ hsb1 ⟨_,es1,_,t2,hg1,hex,rfl,T2,?_,hl2,hxs,hnd1,hkk1⟩ ?_)
    ·unfold SetTable.tooFull at hfull;have hfull:=of_decide_eq_false hfull;rw[hfill]at hfull;rw[hsz1];lia
    ·rw[if_neg hnk];exact hperm
  by_cases hpl1:t1.plain=true
  ·rw[hpl1];simp only[if_true];refine E4 (EA hk fun bv=>?_)
   cases bv
   ·simp only[Fo,if_false];exact tail { t1 with plain:=false } hmk hlk ⟨hTp.dm,hTp.siz,hTp.len,hTp.inc,hTp.le,hTp.rch⟩
   ·simp only[if_true];exact tail t1 hmk hlk hTp
  ·have hpl1:t1.plain=false:=by simpa using hpl1
   rw[hpl1];simp only[Fo,if_false];refine E4 (E6 ?_);simp only[if_true];exact tail t1 hmk hlk hTp
noncomputable def lQ (knd:KeyKind prog w K)(h:Heap)(a:Addr)(led:Bool)(xs:List (K×Value)):Prop:=
 ∃ o es ep t,h.get? a=some o/\o.ExactSet/\o.data=.set es ep t/\TOk t (es.toList.map (·.1))/\es.size*5<t.mask*3/\t.led=led/\es.toList=xs.map (fun p=>(knd.hash p.1,p.2)) ∧
  (xs.map (·.1)).Nodup/\∀ p∈xs,knd.is p.1 p.2=true/\p.2.scannable=true
theorem vb{es:Array (Int×Value)}{t:SetTable}(ho:s.heap.get? a=some o)(hd:o.data=.set es ep t){es':Array (Int×Value)}{t':SetTable}(hl:es'.size<=100){Q:Unit->Shared->Prop}(h:∀ h',Heap.SameBut a s.heap h'->h'.get? a=some { o with data:=.set es' (ep+1) t' }->Q () { s with heap:=h' }) :
  wpAny (model prog w) A (storeSet a es' t') Q E s:=by
 refine wpAny_storeSet_of ho hd (h _ (Heap.SameBut.update s.heap a (Obj.putSet es' t')) ?_) (by rw[Fz];lia)
 have:=Heap.get?_update_self (Obj.putSet es' t') ho (by rw[putSet_of es' t' hd];rfl)
 rw[putSet_of es' t' hd]at this;exact this
theorem EF{led:Bool}{xs:List (K×Value)}{k:K}(hS:lQ knd s.heap a led xs)(hk:knd.is k v=true)(hsc:v.scannable=true)(hl:xs.length<=60){Q:Bool->Shared->Prop}(h:∀ h' xs' r,Heap.SameBut a s.heap h'->lQ knd h' a led xs'->xs'.Perm (if k∈xs.map (·.1) then xs else xs++[(k,v)])->Q r { s with heap:=h' }) :
  wpAny (model prog w) A (setAddHashed a v (knd.hash k)) Q E s:=by
 obtain⟨o,es,ep,t,ho,hex,hd,T,hroom,hled,hes,hnd,hkeys⟩:=id hS;have hsz:es.size=xs.length:=by rw[<-Fx,hes,E3]
 have hle:es.size<=t.mask:=by lia
 have hf:=T.fits hle;have hel:ElemsOf knd es.toList:=fun e he=>by
  rw[hes]at he;obtain⟨p,hp,rfl⟩:=E5.mp he;exact⟨⟨p.1,(hkeys p hp).1,rfl⟩,(hkeys p hp).2⟩
 have eS:s={ s with heap:=s.heap }:=by cases s;rfl
 unfold setAddHashed setAddHashedIn;refine F7 (E4 (Gs ho hd hf ?_));dsimp only;rw[byScan_of hsc (by unfold scanBound;lia) hel]
 simp only[↓reduceIte];unfold setAddByScan;refine E4 ?_;refine E4 (GO ?_);refine E4 (wpAny_setScan_of hk ho hd hf hel ?_);cases hr:List.findIdx? (fun e=>knd.is k e.2) es.toList with
 | some j=>
  dsimp only;obtain⟨hj,hpj,_⟩:=List.findIdx?_eq_some_iff_getElem.mp hr;have hm:k∈xs.map (·.1):=by
   have hmem:=List.getElem_mem hj;generalize es.toList[j]=x at hmem hpj;rw[hes]at hmem;obtain⟨p,hp,rfl⟩:=E5.mp hmem;exact E5.mpr ⟨p,hp,knd.inj _ _ _ (hkeys p hp).1 hpj⟩
  refine E6 (E6 ?_);rw[eS];refine h s.heap xs _ (Heap.SameBut.refl a s.heap) hS ?_;rw[if_pos hm]
 | none=>
  dsimp only;have hnk:k∉xs.map (·.1):=fun hm=>by
   obtain⟨p,hp,rfl⟩:=E5.mp hm
   have:=List.findIdx?_eq_none_iff.mp hr (knd.hash p.1,p.2) (by rw[hes];exact E5.mpr ⟨p,hp,rfl⟩)
   rw[(hkeys p hp).1]at this;exact Bool.noConfusion this
  have hgw:∀(b:Bool) {s₁:Shared} {Q':Unit->Shared->Prop},Q' () s₁->wpAny (model prog w) A (match b with|true=>rule "set.scan.the-table-gave-way" | false=>pure ()) Q' E s₁:=
   fun b s₁ Q' hq=>by cases b <;> first|exact E6 hq|exact GO hq
  obtain⟨n0,F⟩:=T.free (by rw[E3,Fx];exact hle) (oF (knd.hash k))
  have hfree:t.freeSlot (knd.hash k)=some ((st t.mask (bits (knd.hash k)) n0).j,false):=by
   unfold SetTable.freeSlot;have hp:t.probe (fun _=>knd.hash k+1) (knd.hash k) (t.probeStart (knd.hash k))=some (.empty (st t.mask (bits (knd.hash k)) n0).j none):=by
    rcases oj T (fun _=>knd.hash k+1) (knd.hash k) F n0 0 (10*turns t.mask) (by lia) (by have:=F.lt;lia) with⟨g,_⟩|⟨_,_,_,_,_,m4,_⟩
    ·exact g
    ·exact absurd m4 (by lia)
   rw[hp];rfl
  generalize hj:(st t.mask (bits (knd.hash k)) n0).j=j at *;have hTp:TOk (t.put j).1 ((insertAt es (t.put j).2 (knd.hash k,v)).toList.map (·.1)):=by
   have:=T.put F (pI _ _ _)
   rw[hj]at this;rw[iJ,Fc,Fi,List.map_take,List.map_drop];exact this
  have hpl:(t.put j).2<=es.size:=by
   have:=(gU T.inc j).1
   have h2:=T.len;rw[E3,Fx]at h2;rw[ku];lia
  have hmk:(t.put j).1.mask=t.mask:=rfl;have hlk:(t.put j).1.led=led:=hled;have hsz1:(insertAt es (t.put j).2 (knd.hash k,v)).size=xs.length+1:=by rw[o8 _ _ _ hpl,hsz]
  have hfit1:(t.put j).1.fits (insertAt es (t.put j).2 (knd.hash k,v)).size=true:=hTp.fits (by rw[hsz1,hmk];lia)
  have hlay:layNew t es (knd.hash k) v=(insertAt es (t.put j).2 (knd.hash k,v),(t.put j).1,false,false):=by
   unfold layNew;rw[hfree];dsimp only;unfold SetTable.orStandIn;rw[hfit1];rfl
  rw[hlay];dsimp only;generalize (t.put j).1=t1 at *;generalize (t.put j).2=p at *;have hxs:(insertAt es p (knd.hash k,v)).toList=(xs.take p++(k,v)::xs.drop p).map (fun p=>(knd.hash p.1,p.2)):=by
   rw[iJ,hes,Fc,Fi,List.map_take,List.map_drop]
  have hperm:(xs.take p++(k,v)::xs.drop p).Perm (xs++[(k,v)]):=by
   refine List.perm_middle.trans ?_;rw[F4]
   exact(List.perm_append_comm (l₁:=[(k,v)]) (l₂:=xs))
  have hndp:((xs++[(k,v)]).map (·.1)).Nodup:=by
   rw[Fc];exact rn hnd hnk
  have hkp:∀ q∈xs++[(k,v)],knd.is q.1 q.2=true/\q.2.scannable=true:=fun q hq=>by
   rcases Fs.mp hq with hq|hq
   ·exact hkeys q hq
   ·rw[Fb]at hq;subst hq;exact⟨hk,hsc⟩
  generalize xs.take p++(k,v)::xs.drop p=xs1 at *;generalize insertAt es p (knd.hash k,v)=es1 at *;have hnd1:(xs1.map (·.1)).Nodup:=(hperm.map (·.1)).nodup_iff.mpr hndp;have hk1:∀ q∈xs1,knd.is q.1 q.2=true/\q.2.scannable=true:=fun q hq=>hkp q (hperm.mem_iff.mp hq)
  refine E4 (hgw false ?_);have tail:∀(t2:SetTable),t2.mask=t.mask->t2.led=led->TOk t2 (es1.toList.map (·.1))->∀(gv:Bool->Sem Unit),(∀(b:Bool) (s₁:Shared) (Q':Unit->Shared->Prop),Q' () s₁->wpAny (model prog w) A (gv b) Q' E s₁)->wpAny (model prog w) A (do
    storeSet a es1 t2
    if (!false&&t2.tooFull)=true then do
      gv (relayAll t2 es1 (SetTable.grown es1.size)).2.2
      storeSet a (relayAll t2 es1 (SetTable.grown es1.size)).1 (relayAll t2 es1 (SetTable.grown es1.size)).2.1
      pure (some true)
     else pure (some true)) (fun r s'=>wpAny (model prog w) A (match r with|some added=>pure added|none=>setAddHashedIn a v (knd.hash k) 99999) Q E s') E s:=fun t2 hm2 hl2 T2 gv hgv=>by
   refine E4 (vb ho hd (by lia) fun h1 hsb1 hg1=>?_)
   have hfill:t2.fill=xs.length+1:=by
    unfold SetTable.fill
    have:=T2.len
    rw[E3,Fx]at this;rw[T2.dm,this,hsz1];rfl
   by_cases hfull:t2.tooFull=true
   ·rw[hfull];simp only[Bool.not_false,Bool.and_self,if_true];obtain⟨M,hM1,hM2,hM3⟩:∃ M,SetTable.sizeAbove (SetTable.grown es1.size)=M+1/\cX M/\(xs.length+1)*5<M*3:=by
     unfold SetTable.tooFull at hfull;have hfull:=FA hfull;rw[hfill,hm2]at hfull;have hs7:SetTable.sizeAbove (SetTable.grown 5)=32:=by decide +kernel
     have hs31:SetTable.sizeAbove (SetTable.grown 19)=128:=by decide +kernel
     rcases T.siz with e|e|e
     ·rw[e]at hfull hroom
      have:es1.size=5:=by lia
      exact⟨31,by rw[this];exact hs7,.inr (.inl rfl),by lia⟩
     ·rw[e]at hfull hroom
      have:es1.size=19:=by lia
      exact⟨127,by rw[this];exact hs31,.inr (.inr rfl),by lia⟩
     ·rw[e]at hfull hroom;lia
    obtain⟨t3,order,hlaid,hmask3,hled3,hord,hperm3,T3⟩:=tD hM2 t2.finger (t2.movedTo M) t2.led t2.plain es1 (by lia)
    have hrel:t2.relaid (es1.map (·.1)) (SetTable.grown es1.size)=some (t3,order):=by
     unfold SetTable.relaid;rw[hM1];exact hlaid
    have hsz3:(order.filterMap (es1[·]?)).size=es1.size:=by rw[<-Fx,hperm3.length_eq,Fx]
    have hra:relayAll t2 es1 (SetTable.grown es1.size)=(order.filterMap (es1[·]?),t3,false):=by
     unfold relayAll;rw[hrel];dsimp only;have hc:coversAll order es1.size=true:=by
      unfold coversAll;exact List.isPerm_iff.mpr hord
     have hft:t3.fits (order.filterMap (es1[·]?)).size=true:=T3.fits (by rw[hsz3,hmask3];lia)
     rw[hc,hft];rfl
    rw[hra];dsimp only;refine E4 (hgv _ _ _ ?_);generalize order.filterMap (es1[·]?)=es3 at *;obtain⟨xs3,hp3,he3⟩:∃ xs3:List (K×Value),xs3.Perm xs1/\es3.toList=xs3.map (fun p=>(knd.hash p.1,p.2)):=by
     rw[hxs]at hperm3;exact g0 hperm3
    refine E4 (vb (s:={ s with heap:=h1 }) (es:=es1) (t:=t2) (ep:=ep+1) hg1 rfl (by lia) fun h2 hsb2 hg2=>?_)
    refine E6 (E6 (h h2 xs3 _ (hsb1.trans hsb2) ⟨_,es3,_,t3,hg2,hex,rfl,T3,?_,hled3.trans hl2,he3,(hp3.map (·.1)).nodup_iff.mpr hnd1,fun q hq=>hk1 q (hp3.mem_iff.mp hq)⟩ ?_))
    ·rw[hsz3,hsz1,hmask3];exact hM3
    ·rw[if_neg hnk];exact hp3.trans hperm
   ·have hfull:t2.tooFull=false:=by simpa using hfull
    rw[hfull];simp only[Bool.not_false,Bool.and_false,Fo,if_false];refine E6 (E6 (h h1 xs1 _ hsb1 ⟨_,es1,_,t2,hg1,hex,rfl,T2,?_,hl2,hxs,hnd1,hk1⟩ ?_))
    ·unfold SetTable.tooFull at hfull;have hfull:=of_decide_eq_false hfull;rw[hfill]at hfull;rw[hsz1];lia
    ·rw[if_neg hnk];exact hperm
  split
  ·refine E4 ?_;rw[hashByValue_scannable 8 hsc];refine E6 ?_
   split
   ·exact tail t1 hmk hlk hTp _ (fun b s₁ Q' hq=>by cases b <;> first|exact E6 hq|exact GO hq)
   ·exact tail { t1 with plain:=false } hmk hlk ⟨hTp.dm,hTp.siz,hTp.len,hTp.inc,hTp.le,hTp.rch⟩ _ (fun b s₁ Q' hq=>by cases b <;> first|exact E6 hq|exact GO hq)
  ·refine E4 (E6 ?_);simp only[↓reduceIte];exact tail t1 hmk hlk hTp _ (fun b s₁ Q' hq=>by cases b <;> first|exact E6 hq|exact GO hq)
end
section
variable {prog:Program}{w:World}{A:Around}{R:Result->Shared->Prop}{I:Addr}{fp wr:List Addr}{G:Array GenState->Array GenState->Prop}{n:Nat}{P:Nat->Value->Prop}{St:Nat->Shared->Prop}
theorem BH(W:WalksS prog w A.in1 I fp wr G n P St)(S:Addr)(hSf:S∉fp)(J:Nat->Heap->Prop)(keep:∀ i h h',J i h->(∀ b o,b∉wr->h.get? b=some o->h'.get? b=some o)->J i h')(step:∀(i:Nat)(v:Value)(s:Shared)(Q:Bool->Shared->Prop)(E:Value->Shared->Prop),i<n->P i v->J i s.heap →
   (∀ h' tk r,Heap.SameBut S s.heap h'->s.toks<=tk->J (i+1) h'->Q r { s with heap:=h',toks:=tk })->wpAny (model prog w) A.in1 (setAdd S v) Q E s) :
  ∀(k i:Nat) (s:Shared),n-i=k->i<=n->St i s->J i s.heap →
   (∀ s',Moved (S::wr) G s s'->J n s'.heap->R (.ok (.ret .none)) s') →
   codeAny (model prog w) A (.builtin "set.update.loop" ⟨[.ref S,.ref I],[]⟩) R s:=by
 have hsub:∀ b∈wr,b∈S::wr:=fun b hb=>Ff _ hb
 intro k;induction k with
 | zero=>
  intro i s hk hi hst hJ hR;obtain rfl:i=n:=by lia
  refine codeAny_builtin PyProof.Rows.F.entry_set_update_loop ?_;rw[Around.under_plainId PyProof.Rows.F.plain_set_update_loop _];show wpAny _ A.in1 (pyNext (.ref I) >>= _) _ _ s
  refine E4 (W.done s _ _ hst fun s' hm=>?_)
  show wpAny _ A.in1 (ret Value.none) _ _ s'
  exact E6 (hR s' (hm.mono hsub) (keep _ _ _ hJ fun b o hb e=>hm.heap b o hb e))
 | succ k ih=>
  intro i s hk hi hst hJ hR;have hlt:i<n:=by lia
  refine codeAny_builtin PyProof.Rows.F.entry_set_update_loop ?_;rw[Around.under_plainId PyProof.Rows.F.plain_set_update_loop _];show wpAny _ A.in1 (pyNext (.ref I) >>= _) _ _ s
  refine E4 (W.item i s _ _ hlt hst fun v s' hP hst' hm=>?_)
  have hJ':J i s'.heap:=keep _ _ _ hJ fun b o hb e=>hm.heap b o hb e
  show wpAny _ A.in1 (holding [v] (setAdd S v) >>= _) _ _ s'
  refine E4 (F7 (step i v s' _ _ hlt hP hJ' fun h' tk r hsb htk hJ2=>?_))
  refine E6 ⟨plainId_quiet PyProof.Rows.F.plain_set_update_loop _,ih (i+1) _ (by lia) hlt (W.frame _ s' _ _ hst' htk fun b hb o e=>?_) hJ2 fun s'' hm'' hJ''=>?_⟩
  ·rw[hsb.2 b (fun z:b=S=>hSf (by rw[<-z];exact hb))];exact e
  ·refine hR s'' (Moved.trans W.gtrans ((hm.mono hsub).then_heap htk fun b o hb e=>?_) hm'') hJ''
   rw[hsb.2 b (fun z:b=S=>hb (by rw[z];exact Fd))];exact e
end
noncomputable def cV (led:Bool):Obj:={ cls:=.type "set",dict:=none,data:=.set #[] 0 (.fresh 0 0 led) }
noncomputable def cp (w:World):Bool:=!(w.params.followText "set-order")
section
variable {prog:Program}{w:World}{A:Around}{E:Value->Shared->Prop}{s:Shared}
theorem zV(a:Value){Q₁:Value->Shared->Prop}(h:Q₁ (.ref s.heap.objs.size) { s with heap:=s.heap.push (cV (cp w)) }) :
  codeAny (model prog w) A (.call (.builtin "set.__new__") ⟨[.type "set",a],[]⟩) (wants Q₁ E) s:=by
 refine codeAny_of_tree ?_;show wpAny _ A.in1 (do checkBuiltinCall "set.__new__" ⟨[.type "set",a],[]⟩;again (.builtin "set.__new__" ⟨[.type "set",a],[]⟩)) _ _ s
 refine E4 (wpAny_of_eq (F.newCall_set_1 a) (E6 ⟨plainId_quiet F.plain_set_new _,codeAny_builtin F.entry_set_new ?_⟩));rw[Around.under_plainId F.plain_set_new _];unfold Builtin.«set.__new__» Builtin.Frozenset.newClass;have hsub:=sub_set_self;obtain⟨hp,g,d,tk,os⟩:=s;dsimp only
 wp_walk
 refine wpAny_askSetting (E6 ?_);dsimp only;simp only[newObj];refine E4 (wpAny_alloc (E6 ?_));exact E6 h
set_option maxRecDepth 100000 in
set_option maxHeartbeats 3200000 in
theorem sX(hh:A.handled=none)(hl:s.heap.IsList l items)(J:Nat->Heap->Prop)(start:∀ h':Heap,h'.get? s.heap.objs.size=some (cV (cp w))->(∀ b o,s.heap.get? b=some o->h'.get? b=some o)->J 0 h')(keep:∀ i h h',J i h->(∀ b o,b≠s.heap.objs.size+1->h.get? b=some o->h'.get? b=some o)->J i h')(step:∀(i:Nat)(v:Value)(A':Around)(s':Shared)(Q:Bool->Shared->Prop)(E:Value->Shared->Prop),A'.units<=A.units+8->items[i]? =some v->J i s'.heap →
   (∀ h' tk r,Heap.SameBut s.heap.objs.size s'.heap h'->s'.toks<=tk->J (i+1) h'->Q r { s' with heap:=h',toks:=tk })->wpAny (model prog w) A' (setAdd s.heap.objs.size v) Q E s') (h:∀(h':Heap) (tk:Nat),J items.size h'->(∀ b o,s.heap.get? b=some o->h'.get? b=some o)->Q (.ref s.heap.objs.size) { s with heap:=h',toks:=tk }) :
  wpAny (model prog w) A (call (.type "set") [.ref l]) Q E s:=by
 obtain⟨c,tl,hmro⟩:=F.called_set.mro;have hmade:=F.called_set.made;have hsub:=F.called_set.sub;refine wpAny_call (codeAny_of_tree ?_);show wpAny _ _ (callAny (.type "set") _) _ _ _
 refine E6 ⟨Code.quiet_builtin _ (by decide +kernel),codeAny_builtin F.entry_type_call ?_⟩
 rw[Around.under_plain (weight_type_call_type "set" [.ref l] []) rfl]
 have h1:=F.called_set.notType;have h2:=F.called_set.canCreate;have hct:=F.typeCall_set_1 (.ref l)
 repeat (any_goals (first|assumption|wp_step))
 refine codeAny_mono (zV (.ref l) (E:=E) (Q₁:=fun obj s₁=>obj=.ref s.heap.objs.size/\s₁={ s with heap:=s.heap.push (cV (cp w)) }) ⟨rfl,rfl⟩) fun r s₁ hr=>?_
 cases r with
 | error e=>exact hr
 | ok fl=>
  cases fl with
  | ret obj=>
   obtain⟨rfl,rfl⟩:=hr;have hS:(s.heap.push (cV (cp w))).get? s.heap.objs.size=some (cV (cp w)):=Fv _ rfl;have hT:Shared.TypeIs { s with heap:=s.heap.push (cV (cp w)) } (.ref s.heap.objs.size) "set":=⟨_,hS,rfl⟩
   have hli:=F.called_set.init.lookup;have hbi:=F.called_set.init.bind (.ref s.heap.objs.size)
   repeat (any_goals (first|assumption|wp_step))
   refine codeAny_mono (codeAny_call_builtin (R:=wants (fun r s₂=>r=.none/\∃ h' tk,s₂={ s with heap:=h',toks:=tk }/\J items.size h'/\(∀ b o,s.heap.get? b=some o->h'.get? b=some o)) E)
    F.called_set.init.plain F.entry_set_init (check_set_init_1 hT ?_)) fun r₂ s₂ hr₂=>?_
   ·obtain⟨ol,hol,hcl,nl,hdl⟩:=hl;obtain⟨ocls,odict,odata,oslots⟩:=ol
    simp only at hcl hdl
    subst hcl;subst hdl
    have hol':(s.heap.push (cV (cp w))).get? l=some { cls:=.type "list",dict:=odict,data:=.seq items nl,slots:=oslots }:=E8 _ hol
    have hsls:=F.sub_list_set;have hslf:=F.sub_list_frozenset;have hne:(Value.type "list"==Value.type "dict")=false:=by decide
    have hl1:(s.heap.push (cV (cp w))).IsList l items:=⟨_,hol',rfl,nl,rfl⟩;unfold Builtin.«set.__init__» noKeywords Builtin.Frozenset.updateFrom;generalize hPI:pyIter=PI
    wp_walk
    subst hPI;refine wpAny_pyIter_list hl1 ?_;refine E4 (wpAny_runValue ?_);have hlS:l<s.heap.objs.size:=Ft hol;have hh3:A.in1.in1.in1.handled=none:=by simp [hh]
    have hsz:(s.heap.push (cV (cp w))).objs.size=s.heap.objs.size+1:=GG ..;have hneI:l≠(s.heap.push (cV (cp w))).objs.size:=by rw[hsz];exact FD (Nat.lt_succ_of_lt hlS)
    have hSf:s.heap.objs.size∉[(s.heap.push (cV (cp w))).objs.size,l]:=by
     rw[hsz];simp only[Fn,List.not_mem_nil,or_false,not_or]
     exact⟨FD (G3 _),GY hlS⟩
    have hgS:((s.heap.push (cV (cp w))).push { cls:=.type "list_iterator",data:=.fields #[.ref l,.int 0 0] }).get? s.heap.objs.size=some (cV (cp w)):=E8 _ hS
    refine BH ((Walks.list hh3 _ l hneI items).toS) s.heap.objs.size hSf J (fun i h h' hJ hk=>keep i h h' hJ fun b o hb e=>hk b o (by rw[hsz];simpa using hb) e)
     (fun i v s' Q' E' _ hP hJ k=>step i v _ s' Q' E' (by simp) hP hJ k) (items.size-0) 0 _ (by lia) (FG _)
     ⟨⟨_,Fv _ rfl,rfl,rfl⟩,(hl1.push _)⟩ (start _ hgS fun b o e=>E8 _ (E8 _ e)) ?hR
    case hR=>
     intro s' hm hS';obtain⟨h',g',d',tk',os'⟩:=s';have eg:g'=s.gens:=hm.gens;have ed:d'=s.drawn:=hm.drawn;have eo:os'=s.os:=hm.os;subst eg;subst ed;subst eo
     show wpAny _ _ _ _ _ _
     refine E6 ?_;show wpAny _ _ (ret Value.none) _ _ _
     refine E6 ⟨rfl,h',tk',rfl,hS',fun b o e=>?_⟩
     have hb:b<s.heap.objs.size:=Ft e;exact hm.heap b o (by rw[hsz];simp only[Fn,List.not_mem_nil,or_false,not_or];exact⟨FD hb,FD (Nat.lt_succ_of_lt hb)⟩) (E8 _ (E8 _ e))
   ·cases r₂ with
    | error e=>exact hr₂
    | ok fl₂=>
     cases fl₂ with
     | ret r=>
      obtain⟨rfl,h',tk,rfl,hS',hk'⟩:=hr₂
      repeat (any_goals (first|assumption|wp_step))
      exact h _ _ hS' hk'
     | _=>exact hr₂.elim
  | _=>exact hr.elim
end
theorem gj:Slot "set_iterator" "__next__" "set_iterator.__next__":=
 .of (owner:="set_iterator") (n:="__next__") (by rw[typeLookup_type,builtinLookup_eq_fast];kernel_rfl) (by decide +kernel) (by decide +kernel) (by decide +kernel)
  (by first|exact .inl (by decide +kernel)|exact .inr (by decide +kernel)) (by rw[isSubtype_type];kernel_rfl)
theorem rJ:Slot "set_iterator" "__iter__" "set_iterator.__iter__":=
 .of (owner:="set_iterator") (n:="__iter__") (by rw[typeLookup_type,builtinLookup_eq_fast];kernel_rfl) (by decide +kernel) (by decide +kernel) (by decide +kernel)
  (by first|exact .inl (by decide +kernel)|exact .inr (by decide +kernel)) (by rw[isSubtype_type];kernel_rfl)
theorem rZ:entryFor table "set_iterator.__next__" = some Builtin.«set_iterator.__next__»:=entryFor_of_tree (by kernel_rfl)
theorem A6:entryFor table "set_iterator.__iter__" = some Builtin.«dict_keyiterator.__iter__»:=
 entryFor_alias (id':="dict_keyiterator.__iter__") (by kernel_rfl) rfl (by decide +kernel) (by kernel_rfl)
theorem EZ(a:Value):argsOk "set_iterator.__iter__" ⟨[a],[]⟩:=by unfold argsOk;kernel_rfl
theorem qx(a:Value):argsOk "set_iterator.__next__" ⟨[a],[]⟩:=by unfold argsOk;kernel_rfl
theorem Cs:entryFor table "set.__iter__" = some Builtin.«frozenset.__iter__»:=
 entryFor_alias (id':="frozenset.__iter__") (by kernel_rfl) rfl (by decide +kernel) (by kernel_rfl)
theorem ti{α:Type}{l:List α}(h:i<l.length):(l[i]::l.eraseIdx i).Perm l:=by
 rw[List.eraseIdx_eq_take_drop_succ];refine List.perm_middle.symm.trans (List.Perm.of_eq ?_);rw[<-Gr h,F4]
theorem rD{α:Type}(next:Nat->Nat):∀(fuel k:Nat)(left:List α)(out:Array α),left.length=fuel->(pickOrder.go next fuel k left out).toList.Perm (out.toList++left)
 | 0,k,left,out,h=>by
  have e:left=[]:=Gn.mp h;subst e;unfold pickOrder.go
  simp
 | fuel+1,k,left,out,h=>by
  unfold pickOrder.go;have hlt:next k%left.length<left.length:=Nat.mod_lt _ (by lia)
  rw[Fg hlt];dsimp only;refine(rD next fuel (k+1) _ _ (by rw[List.length_eraseIdx_of_lt hlt];lia)).trans ?_
  rw[Array.toList_push,FW];refine List.Perm.append_left _ ?_
  exact(ti hlt)
theorem Ep{α:Type}(next:Nat->Nat)(xs:Array α):(pickOrder next xs).toList.Perm xs.toList:=by
 have:=rD next xs.size 0 xs.toList #[] (by simp)
 unfold pickOrder;simpa using this
section
variable {prog:Program}{w:World}{A:Around}{E:Value->Shared->Prop}
theorem wp_choose{src:Source}{n:Nat}{Q:Nat->Shared->Prop}(hn:n≠0)(h:∀ i d,i<n->Q i { s with drawn:=d }):wpAny (model prog w) A (choose src n) Q E s:=fun Γ p hΓ=>by
 show n≠0/\_
 exact⟨hn,h _ _ (Nat.mod_lt _ (Nat.pos_of_ne_zero hn))⟩
theorem vk{α:Type}:∀(n:Nat)(xs:List α)(s:Shared)(Q:List α->Shared->Prop),xs.length=n->(∀ ys d,ys.Perm xs->Q ys { s with drawn:=d })->wpAny (model prog w) A (drawOrder n xs) Q E s
 | 0,xs,s,Q,hl,h=>by
  have e:xs=[]:=Gn.mp hl;subst e;unfold drawOrder;exact E6 (h [] s.drawn (List.Perm.refl _))
 | n+1,[],s,Q,hl,h=>by simp at hl
 | n+1,x::xs,s,Q,hl,h=>by
  unfold drawOrder;refine E4 (wp_choose (by simp) fun i d hi=>?_)
  rw[Fg hi];dsimp only;refine E4 (vk n _ _ _ (by rw[List.length_eraseIdx_of_lt hi];simp at hl ⊢;lia) fun ys d' hp=>?_)
  refine E6 (h _ d' ?_)
  exact(hp.cons _).trans (ti hi)
theorem sub_set_set:isSubtype (.type "set") (.type "set")=pure true:=sub_set_self
structure bK (w:World)(h:Heap)(a:Addr)(o:Obj)(es:Array (Int×Value))(ep:Nat)(t:SetTable):Prop where
 ho:h.get? a=some o
 ex:o.ExactSet
 hd:o.data=.set es ep t
 T:TOk t (es.toList.map (·.1))
 room:es.size<=t.mask
 led:t.led=cp w
theorem bK.keep{es:Array (Int×Value)}{t:SetTable}(S:bK w h a o es ep t)(k:∀ o,h.get? a=some o->h'.get? a=some o):bK w h' a o es ep t:=
 ⟨k _ S.ho,S.ex,S.hd,S.T,S.room,S.led⟩
theorem bK.fits{es:Array (Int×Value)}{t:SetTable}(S:bK w h a o es ep t):t.fits es.size=true:=S.T.fits S.room
noncomputable def fY (first:Value)(i:Nat)(a:Addr)(n ep:Nat):Obj:={ cls:=.type "set_iterator",data:=.fields #[first,.int i 0,.ref a,.int n 0,.int ep 0] }
noncomputable def cK (w:World)(h:Heap)(a tp:Addr)(es:Array (Int×Value))(ep:Nat)(t:SetTable)(ord:Array Value)(i:Nat)(first:Value):Prop:=
 (w.params.followText "set-order" = true/\(∃ k:Nat,first=.int k 0)/\ord=(pickOrder (w.params.setOrder a ep) es).map (·.2)) ∨
 (w.params.followText "set-order" = false/\(!t.plain&&decide (es.size > 1))=false/\(∃ k:Nat,first=.int k 0/\below t.place k=i)/\ord=es.map (·.2)) ∨
 (∃(πs:List Nat) (c:Nat),first=.ref tp/\tp≠a/\πs.Perm (List.range es.size)/\h.get? tp=some { cls:=.type "tuple",data:=.seq (πs.map fun(i:Nat)=>rawInt i).toArray c }/\ord=(πs.filterMap fun i=>es[i]?.map (·.2)).toArray)
theorem CV{xs:Array Nat}(inc:Inc xs):below xs 0=0:=by
 obtain⟨h1,h2,_⟩:=gU inc 0;rcases Nat.eq_zero_or_pos (below xs 0) with h|h
 ·exact h
 ·exact absurd (h2 0 h) (Gy _)
theorem AI{xs:Array Nat}(inc:Inc xs)(h:xs[i]? =some j):below xs (j+1)=i+1:=by
 obtain⟨h1,h2,h3⟩:=gU inc (j+1);have hi:i<xs.size:=(FY.mp h).1;have e:=fN h;rcases Nat.lt_trichotomy (below xs (j+1)) (i+1) with q|q|q
 ·have a1:=h3 i (by lia) hi
  lia
 ·exact q
 ·have:=h2 (i+1) q
  have a2:=inc i (i+1) (by lia) (by lia)
  lia
theorem CC{es:Array (Int×Value)}{t:SetTable}(S:bK w s.heap a o es ep t)(h:∀(h':Heap)(d:Drawn)(it tp:Addr)(ord:Array Value)(first:Value),ord.toList.Perm (es.toList.map (·.2))->s.heap.objs.size<=it->(∀ b o,s.heap.get? b=some o->h'.get? b=some o)->h'.get? it=some (fY first 0 a es.size ep) →
   cK w h' a tp es ep t ord 0 first->tp≠it->(tp=a\/s.heap.objs.size<=tp)->Q (.ref it) { s with heap:=h',drawn:=d }) (hn:es.size<=100):wpAny (model prog w) A (pyIter (.ref a)) Q E s:=by
 have hT:s.TypeIs (.ref a) "set":=⟨o,S.ho,S.ex.1⟩
 refine wpAny_pyIter_slot hT F.slot_set_iter (Gh F.slot_set_iter hT Cs ?_ (F.args_set_iter_1 _));unfold Builtin.«frozenset.__iter__» Builtin.Frozenset.slot0 slotArgs;simp only[List.isEmpty_nil,G0,Fo,↓reduceIte,bind_assoc,GP,bne_self_eq_false];unfold Builtin.Frozenset.addrOf Builtin.Frozenset.sizeOf;refine E4 (E6 ?_)
 try dsimp only
 refine E4 (E6 ?_);refine E4 (E4 (wpAny_setEntries_of S.ho S.hd S.fits (E6 ?_)));unfold setDrawn setsByText;refine E4 (E4 (Gs S.ho S.hd S.fits (E4 (E4 (wpAny_askSetting (E6 (E6 ?_)))))));have fin:∀(s1:Shared) (first:Value) (tp:Addr) (ord:Array Value),bK w s1.heap a o es ep t->s.heap.objs.size<=s1.heap.objs.size->(∀ b o,s.heap.get? b=some o->s1.heap.get? b=some o)->(∃ h' d,s1={ s with heap:=h',drawn:=d })->ord.toList.Perm (es.toList.map (·.2)) →
   cK w s1.heap a tp es ep t ord 0 first->tp<s1.heap.objs.size->(tp=a\/s.heap.objs.size<=tp)->wpAny (model prog w) A.in1 (do
    let e <-setEpoch a
    let r <-newFields "set_iterator" [first,rawInt 0,.ref a,rawInt es.size,rawInt e]
    ret r) (fun fin s'=>∃ r,fin=.done (.ret r)/\∃ T' r',s'.TypeIs r T'/\typeLookup (.type T') "__next__" = pure (some r')/\Q r s') E s1:=by
  rintro s1 first tp ord S1 hsz keep ⟨h',d,rfl⟩ hp hst htp htq;refine E4 (wpAny_setEpoch_of S1.ho S1.hd S1.fits ?_);refine E4 (Gu ?_);refine E6 ⟨_,rfl,"set_iterator",_,⟨_,Fv _ rfl,rfl⟩,gj.lookup,?_⟩
  refine h _ d _ tp ord first hp hsz (fun b o e=>E8 _ (keep b o e)) (Fv _ rfl) ?_ (FD htp) htq
  rcases hst with x|x|⟨πs,c,x1,x2,x3,x4,x5⟩
  ·exact .inl x
  ·exact .inr (.inl x)
  ·exact .inr (.inr ⟨πs,c,x1,x2,x3,E8 _ x4,x5⟩)
 have es0:s={ s with heap:=s.heap,drawn:=s.drawn }:=by cases s;rfl
 split
 ·rename_i hdr
  have hdr:(!w.params.followText "set-order"&&(!t.plain&&decide (es.size > 1)))=true:=hdr
  refine E4 (vk es.size (List.range es.size) s _ (by simp) fun πs d hp=>?_)
  refine E4 (Gu ?_ (by show((πs.map fun(i:Nat)=>rawInt i).toArray).size<=sizeLine;rw[FP,E3,hp.length_eq,F2,Fz];lia))
  refine fin _ _ s.heap.objs.size (πs.filterMap fun i=>es[i]?.map (·.2)).toArray (S.keep fun o e=>E8 _ e) (by rw[GG];exact Nat.le_succ _) (fun b o e=>E8 _ e) ⟨_,d,rfl⟩ ?_ (.inr (.inr ⟨πs,0,rfl,GY (Ft S.ho),hp,Fv _ rfl,rfl⟩)) (by rw[GG];exact G3 _) (.inr (E7 _))
  have h1:=hp.filterMap (fun i=>es[i]?.map (·.2))
  refine(show(πs.filterMap fun i=>es[i]?.map (·.2)).toArray.toList.Perm _ from ?_)
  refine h1.trans (List.Perm.of_eq ?_);have h2:=oh (es.toList.map (·.2));rw[E3,Fx]at h2;refine Eq.trans ?_ h2;congr 1;funext i
  simp
 ·rename_i hdr
  have hdr:¬ (!w.params.followText "set-order"&&(!t.plain&&decide (es.size > 1)))=true:=hdr
  refine E4 (E6 ?_);cases hb:w.params.followText "set-order" with
  | true=>exact fin s _ a _ S (E7 _) (fun _ _ e=>e) ⟨s.heap,s.drawn,es0⟩ (by rw[Array.toList_map];exact(Ep _ es).map _) (.inl ⟨hb,⟨0,rfl⟩,rfl⟩) (Ft S.ho) (.inl rfl)
  | false=>
   rw[hb]at hdr;refine fin s _ a _ S (E7 _) (fun _ _ e=>e) ⟨s.heap,s.drawn,es0⟩ (by rw[Array.toList_map]) (.inr (.inl ⟨hb,by simpa using hdr,⟨0,rfl,CV S.T.inc⟩,rfl⟩)) (Ft S.ho) (.inl rfl)
theorem tI{tp:Addr}{es:Array (Int×Value)}{t:SetTable}{k:Nat}(S:bK w s.heap a o es ep t)(st:cK w s.heap a tp es ep t ord i (.int k 0)){Q:Option (Value×Nat)->Shared->Prop}(h1:∀ x k',ord[i]? =some x->cK w s.heap a tp es ep t ord (i+1) (.int (k':Nat) 0)->Q (some (x,k')) s)(h2:ord[i]? =none->Q none s):wpAny (model prog w) A (setNext a k i ep) Q E s:=by
 unfold setNext setsByText;refine E4 (Gs S.ho S.hd S.fits ?_);dsimp only;refine E4 (E4 (wpAny_askSetting (E6 ?_)));rcases st with⟨e1,⟨k',e2⟩,e3⟩|⟨e1,e2,⟨k',e3,e4⟩,e5⟩|⟨πs,c,e1,_⟩
 ·have e1':(model prog w).w.params.followText "set-order" = true:=e1
  rw[e1'];simp only[if_true,bne_self_eq_false,Fo,if_false];unfold setWalk setsByText;refine E4 (E4 (Gs S.ho S.hd S.fits ?_));dsimp only;refine E4 (E4 (wpAny_askSetting (E6 ?_)));rw[e1'];simp only[if_true];refine E4 (wpAny_askSetting (E6 ?_));have eo:ord[i]? = ((pickOrder (w.params.setOrder a ep) es)[i]?).map (·.2):=by rw[e3,Array.getElem?_map]
  show wpAny (model prog w) A (pure (((pickOrder (w.params.setOrder a ep) es)[i]?).map fun e=>(e.2,k))) Q E s
  cases q:(pickOrder (w.params.setOrder a ep) es)[i]? with
  | none=>
   rw[q]at eo;exact E6 (h2 eo)
  | some e=>
   rw[q]at eo;exact E6 (h1 e.2 k eo (.inl ⟨e1,⟨k,rfl⟩,e3⟩))
 ·have e1':(model prog w).w.params.followText "set-order" = false:=e1
  rw[e1'];simp only[Fo,if_false];obtain rfl:k=k':=by
   have:=e3
   simp only[Value.int.injEq,Int.natCast_inj,and_true]at this;exact this
  split
  ·rename_i q
   have q:(!t.plain&&decide (es.size > 1))=true:=q;rw[e2]at q;exact Bool.noConfusion q
  ·have hl:t.led=true:=by rw[S.led];unfold cp;rw[e1];rfl
   have hm:∀{β:Type} (f:Unit->Sem β) (Q':β->Shared->Prop),wpAny (model prog w) A (f ()) Q' E s->wpAny (model prog w) A ((do if (!t.led&&!es.isEmpty)=true then unsupported "set:maker-not-led") >>= f) Q' E s:=fun f Q' hf=>by
    rw[hl];exact E4 (E6 hf)
   refine hm _ _ ?_;rw[e4];have hlen:t.place.size=es.size:=by have:=S.T.len;simpa using this
   have eo:ord[i]? = (es[i]?).map (·.2):=by rw[e5,Array.getElem?_map]
   by_cases hi:i<es.size
   ·have q1:es[i]? =some es[i]:=FO hi;have q2:t.place[i]? =some (t.place.getD i 0):=jG (by lia)
    rw[q1]at eo;rw[q1,q2];exact E6 (h1 _ _ eo (.inr (.inl ⟨e1,e2,⟨_,rfl,AI S.T.inc q2⟩,e5⟩)))
   ·have q1:es[i]? =none:=GF.mpr (by lia)
    rw[q1]at eo;rw[q1];exact E6 (h2 eo)
 ·cases e1
theorem cK.keep{tp:Addr}{es:Array (Int×Value)}{t:SetTable}{first:Value}(x:cK w h a tp es ep t ord i first)(k:∀ o,h.get? tp=some o->h'.get? tp=some o):cK w h' a tp es ep t ord i first:=by
 rcases x with x|x|⟨πs,c,x1,x2,x3,x4,x5⟩
 ·exact .inl x
 ·exact .inr (.inl x)
 ·exact .inr (.inr ⟨πs,c,x1,x2,x3,k _ x4,x5⟩)
theorem cK.drawn{tp:Addr}{es:Array (Int×Value)}{t:SetTable}{first:Value}(x:cK w h a tp es ep t ord i first) :
  (∃ k:Nat,first=.int k 0)\/∃(πs:List Nat) (c:Nat),first=.ref tp/\tp≠a/\πs.Perm (List.range es.size)/\h.get? tp=some { cls:=.type "tuple",data:=.seq (πs.map fun(i:Nat)=>rawInt i).toArray c }/\ord=(πs.filterMap fun i=>es[i]?.map (·.2)).toArray:=by
 rcases x with⟨_,⟨k,x⟩,_⟩|⟨_,_,⟨k,x,_⟩,_⟩|x
 ·exact .inl ⟨k,x⟩
 ·exact .inl ⟨k,x⟩
 ·exact .inr x
theorem sV{es:Array (Int×Value)}{πs:List Nat}(hp:πs.Perm (List.range es.size))(i:Nat):(πs.filterMap fun i=>es[i]?.map (·.2)).toArray[i]? = (πs[i]?).bind fun j=>es[j]?.map (·.2):=by
 have hall:∀ j∈πs,j<es.size:=fun j hj=>FT.mp (hp.mem_iff.mp hj)
 have e:(πs.filterMap fun i=>es[i]?.map (·.2))=πs.map fun j=>((es[j]?).getD (0,Value.none)).2:=nI fun j hj=>by
  rw[FO (hall j hj)];rfl
 rw[e];simp only[List.getElem?_toArray,E9];cases q:πs[i]? with
 | none=>rfl
 | some j=>
  have hj:=hall j (Fe q);simp only[Option.map_some,Option.bind_some];rw[FO hj];rfl
theorem DB{tp:Addr}{es:Array (Int×Value)}{t:SetTable}{first x:Value}(S:bK w s.heap a o es ep t)(hit:s.heap.get? it=some (fY first i a es.size ep))(st:cK w s.heap a tp es ep t ord i first)(htp:tp≠it)(hx:ord[i]? =some x){Q:Option Value->Shared->Prop}(h:∀ h' first',Heap.SameBut it s.heap h'->h'.get? it=some (fY first' (i+1) a es.size ep)->cK w h' a tp es ep t ord (i+1) first'->Q (some x) { s with heap:=h' }) :
  wpAny (model prog w) A (pyNext (.ref it)) Q E s:=by
 have hT:s.TypeIs (.ref it) "set_iterator":=⟨_,hit,rfl⟩
 unfold pyNext;refine E4 (wpAny_attempt (wpAny_callSpecial?_slot (name:=Str.ofString "__next__") hT gj (Gh gj hT rZ ?_ (qx _))))
 unfold Builtin.«set_iterator.__next__» slotArgs;simp only[List.isEmpty_nil,G0,Fo,↓reduceIte,bind_assoc,GP,bne_self_eq_false];refine E4 (E6 ?_)
 try dsimp only
 refine E4 (wpAny_fieldsOf hit rfl ?_);dsimp only;refine E4 (wpAny_setEntries_of S.ho S.hd S.fits ?_);simp only[bne_self_eq_false,Fo,if_false];rcases st.drawn with⟨k,rfl⟩|⟨πs,c,rfl,e2,e3,e4,e5⟩
 ·dsimp only;refine E4 ?_;show wpAny (model prog w) A.in1 (setNext a k i ep) _ _ s
  refine tI S st (fun x' k' hx' st'=>?_) (fun hn=>by rw[hx]at hn;cases hn)
  obtain rfl:x=x':=by rw[hx]at hx';exact Fw hx'
  dsimp only;refine E4 (GK (vs:=#[.int k 0,.int i 0,.ref a,.int es.size 0,.int ep 0]) hit (by simp) fun h1 hg1 hs1=>?_)
  refine E4 (GK hg1 (by simp) fun h2 hg2 hs2=>?_)
  refine E6 ⟨_,rfl,E6 ?_⟩;exact h h2 (.int k' 0) (hs1.trans hs2) hg2 (st'.keep fun o e=>(hs2.2 tp htp).trans ((hs1.2 tp htp).trans e))
 ·dsimp only;refine E4 (wpAny_seqItems e4 rfl ?_);dsimp only;have hx':=hx;rw[e5,sV e3]at hx';have hpl:(πs.map fun(i:Nat)=>rawInt i).toArray[(i:Int).toNat]? = (πs[i]?).map fun(i:Nat)=>rawInt i:=by simp
  rw[hpl];cases q:πs[i]? with
  | none=>rw[q]at hx';cases hx'
  | some j=>
   rw[q]at hx';dsimp only[Option.map_some,rawInt];have hx2:es[j]?.map (·.2)=some x:=hx';refine E4 ?_;unfold setNextDrawn;refine E4 (Gs S.ho S.hd S.fits ?_);dsimp only;simp only[Int.toNat_natCast,bne_self_eq_false,Fo,if_false];cases q2:es[j]? with
   | none=>rw[q2]at hx2;cases hx2
   | some e=>
    rw[q2]at hx2;obtain rfl:e.2=x:=Fw hx2;dsimp only;refine E6 ?_;refine E4 (GK (vs:=#[.ref tp,.int i 0,.ref a,.int es.size 0,.int ep 0]) hit (by simp) fun h1 hg1 hs1=>?_)
    refine E6 ⟨_,rfl,E6 ?_⟩;exact h h1 (.ref tp) hs1 hg1 (.inr (.inr ⟨πs,c,rfl,e2,e3,(hs1.2 tp htp).trans e4,e5⟩))
theorem vQ{tp:Addr}{es:Array (Int×Value)}{t:SetTable}{first:Value}(hh:A.handled=none)(S:bK w s.heap a o es ep t)(hit:s.heap.get? it=some (fY first i a es.size ep))(st:cK w s.heap a tp es ep t ord i first)(hx:ord[i]? =none){Q:Option Value->Shared->Prop}(h:∀ h',Heap.ExtBut it s.heap h'->Q none { s with heap:=h' }) :
  wpAny (model prog w) A (pyNext (.ref it)) Q E s:=by
 have hT:s.TypeIs (.ref it) "set_iterator":=⟨_,hit,rfl⟩
 unfold pyNext;refine E4 (wpAny_attempt (wpAny_callSpecial?_slot (name:=Str.ofString "__next__") hT gj (Gh gj hT rZ ?_ (qx _))))
 unfold Builtin.«set_iterator.__next__» slotArgs;simp only[List.isEmpty_nil,G0,Fo,↓reduceIte,bind_assoc,GP,bne_self_eq_false];refine E4 (E6 ?_)
 try dsimp only
 refine E4 (wpAny_fieldsOf hit rfl ?_);dsimp only;refine E4 (wpAny_setEntries_of S.ho S.hd S.fits ?_);simp only[bne_self_eq_false,Fo,if_false];have stop:∀(h1:Heap),Heap.ExtBut it s.heap h1->wpAny (model prog w) A.in1 (do
   let e <-newExc (.type "StopIteration") []
   raiseNew e) (fun fin s'=>∃ v,fin=Fin.done (Flow.ret v)/\wpAny (model prog w) A (pure (some v)) Q E s')
   (fun e s'=>wpAny (model prog w) A (do if <-isInstance e (.type "StopIteration") then pure none else throw e) Q E s') { s with heap:=h1 }:=fun h1 hx1=>by
  refine E4 ?_;simp only[newExc,newTuple];refine E4 (Gu ?_ (by size_fits))
  refine E4 (m:=firstArgMember _ _) (wpAny_of_eq (a:=Value.none) (by first|rfl|(simp only[firstArgMember];rfl)) ?_)
  refine Gu ?_ (by size_fits)
  simp only[raiseNew];refine E4 (wpAny_handled ?_);rw[show A.in1.handled=none from hh]
  refine E4 (E6 (wpAny_throw ?_));refine E4 (wpAny_isInstance (T:="StopIteration") (b:=true) ⟨_,Fv _ rfl,rfl⟩ isSubtype_stop ?_)
  exact E6 (h _ ((hx1.push _).push _))
 rcases st.drawn with⟨k,rfl⟩|⟨πs,c,rfl,e2,e3,e4,e5⟩
 ·dsimp only;refine E4 ?_;show wpAny (model prog w) A.in1 (setNext a k i ep) _ _ s
  refine tI S st (fun x' k' hx' st'=>by rw[hx]at hx';cases hx') (fun hn=>?_)
  dsimp only;refine E4 (GK (vs:=#[.int k 0,.int i 0,.ref a,.int es.size 0,.int ep 0]) hit (by simp) fun h1 hg1 hs1=>?_)
  exact stop h1 hs1.extBut
 ·dsimp only;refine E4 (wpAny_seqItems e4 rfl ?_);dsimp only;have hx':=hx;rw[e5,sV e3]at hx';have hpl:(πs.map fun(i:Nat)=>rawInt i).toArray[(i:Int).toNat]? = (πs[i]?).map fun(i:Nat)=>rawInt i:=by simp
  rw[hpl];cases q:πs[i]? with
  | some j=>
   rw[q]at hx';have hj:j<es.size:=FT.mp (e3.mem_iff.mp (Fe q));have hx2:es[j]?.map (·.2)=none:=hx';rw[FO hj]at hx2;cases hx2
  | none=>
   dsimp only[Option.map_none];refine E4 (GK (vs:=#[.ref tp,.int i 0,.ref a,.int es.size 0,.int ep 0]) hit (by simp) fun h1 hg1 hs1=>?_)
   refine E4 (GK hg1 (by simp) fun h2 hg2 hs2=>?_)
   exact stop h2 (hs1.trans hs2).extBut
theorem nX{es:Array (Int×Value)}(hp:ord.toList.Perm (es.toList.map (·.2))):ord.size=es.size:=by
 have:=hp.length_eq
 simpa using this
theorem BJ{tp:Addr}{es:Array (Int×Value)}{t:SetTable}(hh:A.handled=none)(htp:tp≠it)(ha:a≠it)(hp:ord.toList.Perm (es.toList.map (·.2))) :
  Walks prog w A it [it,a,tp] [it] es.size (fun i v=>ord[i]? =some v) (fun i h=>bK w h a o es ep t/\∃ first,h.get? it=some (fY first i a es.size ep)/\cK w h a tp es ep t ord i first) where
 sub:=fun b hb=>by simp at hb;simp [hb]
 frame:=fun _ _ _ st hk=>let ⟨S,first,hit,sd⟩:=st;⟨S.keep fun o e=>hk a (by simp) o e,first,hk it (by simp) _ hit,sd.keep fun o e=>hk tp (by simp) o e⟩
 item:=fun i s Q E hi st hQ=>by
  obtain⟨S,first,hit,sd⟩:=st;have hx:ord[i]? =some (ord[i]'(by rw[nX hp];exact hi)):=FO _
  refine DB S hit sd htp hx fun h' first' hs hit' sd'=>?_
  exact hQ _ h' s.toks hx ⟨S.keep fun o e=>(hs.2 a ha).trans e,first',hit',sd'⟩ fun b o hb e=>(hs.2 b (fun z=>hb (by simp [z]))).trans e
 done:=fun s Q E st hQ=>by
  obtain⟨S,first,hit,sd⟩:=st;have hx:ord[es.size]? =none:=GF.mpr (by rw[nX hp];exact E7 _)
  exact vQ hh S hit sd hx fun h' he=>hQ h' s.toks fun b o hb e=>he b o (fun z=>hb (by simp [z])) e
 self:=fun i s Q E st hQ=>by
  obtain⟨S,first,hit,sd⟩:=st;have hT:s.TypeIs (.ref it) "set_iterator":=⟨_,hit,rfl⟩
  refine wpAny_pyIter_slot hT rJ (Gh rJ hT A6 ?_ (EZ _));show wpAny _ _ (ret (.ref it)) _ _ s
  exact E6 ⟨_,rfl,"set_iterator",_,hT,gj.lookup,hQ⟩
theorem EJ{es:Array (Int×Value)}{t:SetTable}(hh:A.handled=none)(S:bK w s.heap a o es ep t)(hn:es.size<=100){Q:List Value->Shared->Prop}(h:∀(h':Heap)(d:Drawn)(tk:Nat)(vs:List Value),vs.Perm (es.toList.map (·.2))->(∀ b o,s.heap.get? b=some o->h'.get? b=some o)->s.heap.objs.size<=h'.objs.size->Q vs { s with heap:=h',drawn:=d,toks:=tk }) :
  wpAny (model prog w) A (collect (.ref a)) Q E s:=by
 have hT:s.TypeIs (.ref a) "set":=⟨o,S.ho,S.ex.1⟩
 have haz:a<s.heap.objs.size:=Ft S.ho;unfold collect;refine E4 (wpAny_runValue (codeAny_builtin F.entry_proto_collect ?_));rw[Around.under_plainId F.plain_proto_collect _];show wpAny _ A.in1 (newList [] >>= fun l=>again (.builtin "list.__iadd__" ⟨[l,.ref a],[]⟩)) _ _ s
 refine E4 (Gu ?_);refine E6 ⟨plainId_quiet F.plain_list_iadd _,codeAny_builtin F.entry_list_iadd ?_⟩;rw[Around.under_plainId F.plain_list_iadd _];have S1:bK w (s.heap.push { cls:=.type "list",data:=.seq ([]:List Value).toArray }) a o es ep t:=S.keep fun o e=>E8 _ e
 show wpAny _ A.in1 (Builtin.List.listExtendWith (.ref s.heap.objs.size) (.ref a) (.ref s.heap.objs.size)) _ _ { s with heap:=s.heap.push { cls:=.type "list",data:=.seq ([]:List Value).toArray } }
 unfold Builtin.List.listExtendWith;have hT1:Shared.TypeIs { s with heap:=s.heap.push { cls:=.type "list",data:=.seq ([]:List Value).toArray } } (.ref a) "set":=⟨o,S1.ho,S1.ex.1⟩
 refine E4 (wpAny_typeOf hT1 ?_);have h1:Builtin.List.listSameRef (.ref s.heap.objs.size) (.ref a)=false:=by simp [Builtin.List.listSameRef,GY haz]
 have h2:(Value.type "set"==Value.type "list")=false:=by decide
 have h3:(Value.type "set"==Value.type "tuple")=false:=by decide
 simp only[h1,h2,h3,Bool.or_false,Fo,if_false];refine E4 (CC S1 (fun h' d it tp ord first hp hit0 keep hit sd htp htq=>?_) hn)
 have hS0:h'.get? s.heap.objs.size=some { cls:=.type "list",data:=.seq ([]:List Value).toArray }:=keep _ _ (Fv _ rfl)
 have hs0i:s.heap.objs.size≠it:=fun z=>by
  rw[GG,<-z]at hit0;exact absurd hit0 (Nat.not_succ_le_self _)
 have S2:bK w h' a o es ep t:=S1.keep fun o e=>keep _ _ e
 have hT2:Shared.TypeIs { s with heap:=h',drawn:=d } (.ref a) "set":=⟨o,S2.ho,S2.ex.1⟩
 have hai:a≠it:=fun z=>by
  rw[GG,<-z]at hit0;exact absurd (FJ haz (Nat.le_of_succ_le hit0)) (Gm _)
 refine E4 (F7 ?_);unfold Builtin.List.listLengthHint;refine E4 (wpAny_specialOf hT2 F.slot_set_len.lookup ?_);have hsp:splitId "set.__len__" = some ("set","__len__"):=by kernel_rfl
 dsimp only;rw[hsp];dsimp only;refine E4 (wpAny_isInstance hT2 sub_set_set ?_);simp only[G0,Fo,if_false];show wpAny _ A.in1 (typeOf (.ref a) >>= _) _ _ _
 refine E4 (wpAny_typeOf hT2 ?_);refine E6 ?_;show wpAny _ A.in1 (rule "list.extend.makes-room" >>= fun _=>Builtin.List.listTouch (.ref s.heap.objs.size) >>= fun _=>
  again (.builtin "list.extend.loop" ⟨[.ref s.heap.objs.size,.ref it,.ref s.heap.objs.size],[]⟩)) _ _ _
 refine E4 (GO ?_);refine E4 ?_;show wpAny _ A.in1 (updateSeq s.heap.objs.size (·.push .none) >>= fun _=>updateSeq s.heap.objs.size (·.pop)) _ _ _
 refine E4 (wpAny_updateSeq hS0 rfl ?_);have hS2:=Heap.get?_update_self (Obj.mapSeq (·.push Value.none)) hS0 rfl;refine wpAny_updateSeq hS2 rfl ?_;have hS3:=Heap.get?_update_self (Obj.mapSeq (·.pop)) hS2 rfl;have oth:∀ b o,b≠s.heap.objs.size->h'.get? b=some o->((h'.update s.heap.objs.size (Obj.mapSeq (·.push Value.none))).update s.heap.objs.size (Obj.mapSeq (·.pop))).get? b=some o:=
  fun b o hb e=>(G4 _ _ (Ne.symm hb)).trans ((G4 _ _ (Ne.symm hb)).trans e)
 have hts:s.heap.objs.size≠tp:=fun z=>by
  rcases htq with e|e
  ·exact FD haz (e.symm.trans z.symm)
  ·rw[GG,<-z]at e;exact absurd e (Nat.not_succ_le_self _)
 have hSf:s.heap.objs.size∉[it,a,tp]:=by
  simp only[Fn,List.not_mem_nil,or_false,not_or];exact⟨hs0i,GY haz,hts⟩
 have W:=BJ (prog:=prog) (w:=w) (A:=A.in1) (o:=o) (ep:=ep) (t:=t) (by simp [hh]) htp hai hp
 have hst0:bK w h' a o es ep t/\∃ first,h'.get? it=some (fY first 0 a es.size ep)/\cK w h' a tp es ep t ord 0 first:=⟨S2,first,hit,sd⟩;have hst1:=W.frame 0 h' ((h'.update s.heap.objs.size (Obj.mapSeq (·.push Value.none))).update s.heap.objs.size (Obj.mapSeq (·.pop))) hst0 fun b hb o e=>oth b o (fun z=>hSf (z▸hb)) e
 refine E6 ⟨plainId_quiet F.plain_extend_loop _,codeAny_extend_loopS W.toS (by rw[Fz];lia) _ hSf _ es.size 0 _ _ _ rfl (FG _) hst1 hS3 (ItemsOf.nil _) fun s' acc' c' hm hS' hacc=>?_⟩
 show wpAny _ A (load s.heap.objs.size >>= _) _ _ s'
 refine E4 (wpAny_load hS' ?_);have eacc:acc'=ord:=by
  apply Array.ext_getElem?;intro i
  by_cases hi:i<es.size
  ·have e1:acc'[i]? =some (acc'[i]'(by rw[hacc.1];exact hi)):=FO _
   rw[e1]
   exact(hacc.2 i _ e1).symm
  ·rw[GF.mpr (by rw[hacc.1];lia),GF.mpr (by rw[nX hp];lia)]
 subst eacc;obtain⟨h2,g2,d2,tk2,os2⟩:=s';have eg:g2=s.gens:=hm.gens;have eo:os2=s.os:=hm.os;subst eg;subst eo
 refine E6 (h h2 d2 tk2 _ hp (fun b o e=>?_) ?_)
 ·have hb:b<s.heap.objs.size:=Ft e;have hbi:b≠it:=fun z=>by
   rw[GG,<-z]at hit0;exact absurd (FJ hb (Nat.le_of_succ_le hit0)) (Gm _)
  exact hm.heap b o (by simp only[Fn,List.not_mem_nil,or_false,not_or];exact⟨FD hb,hbi⟩) (oth b o (FD hb) (keep _ _ (E8 _ e)))
 ·exact GL (Ft hS')
end
end SB
end
section
namespace SB
open PySem PySem.W PySem.Calls PyProof.Rows
structure br (R:Keyed->Keyed->Bool):Prop where
 ir:∀ p,R p p=false
 tr:∀ p q r,R p q=true->R q r=true->R p r=true
 ng:∀ p q r,R p r=true->R p q=true\/R q r=true
noncomputable def Told (prog:Program)(w:World)(A:Around)(s:Shared)(κ0:SortKind)(dom:Keyed->Prop)(R:Keyed->Keyed->Bool):Prop:=
 ∀ p q,dom p->dom q->∀ C:Bool->Shared->Prop,C (R p q) s->wpAny (model prog w) A (keyLt' κ0 p.1 q.1) C (fun _ _=>False) s
noncomputable abbrev ST (κ0:SortKind)(xs:Array Keyed)(p:Array (Nat×Nat×Nat))(g:Nat):SortSt:=SortSt.mk' κ0 xs p g none
theorem br.le_trans{R:Keyed->Keyed->Bool}(W:br R){p q r:Keyed}(h1:R q p=false)(h2:R r q=false):R r p=false:=by
 cases h:R r p with
 | false=>rfl
 | true=>rcases W.ng r q p h with x|x <;> simp_all
theorem br.le_of_lt{R:Keyed->Keyed->Bool}(W:br R){p q:Keyed}(h:R p q=true):R q p=false:=by
 cases h':R q p with
 | false=>rfl
 | true=>have:=W.tr _ _ _ h h';rw[W.ir]at this;exact absurd this (by simp)
theorem br.w8{R:Keyed->Keyed->Bool}(W:br R){p q r:Keyed}(h1:R p q=true)(h2:R r q=false):R p r=true:=by
 rcases W.ng p r q h1 with x|x
 ·exact x
 ·rw[h2]at x;exact absurd x (by simp)
theorem br.Am{R:Keyed->Keyed->Bool}(W:br R){p q r:Keyed}(h1:R q p=false)(h2:R q r=true):R p r=true:=by
 rcases W.ng q p r h2 with x|x
 ·rw[h1]at x;exact absurd x (by simp)
 ·exact x
section
variable {prog:Program}{w:World}{A:Around}{E:Value->Shared->Prop}{s:Shared}{κ0:SortKind}{dom:Keyed->Prop}{R:Keyed->Keyed->Bool}{xs:Array Keyed}{pd:Array (Nat×Nat×Nat)}{g:Nat}
theorem iY(T:Told prog w A s κ0 dom R){p q:Keyed}(hp:dom p)(hq:dom q){Q:Option Bool->SortSt->Prop}(h:Q (some (R p q)) (ST κ0 xs pd g)) :
  wpS (model prog w) A E s (lt' p q) Q (ST κ0 xs pd g):=by
 rw[lt'_eq];refine Fj (wpS_get ?_);refine Fj (wpS_lift (wpAny_attempt (Gf (T p q hp hq (fun b s'=>s'=s/\b=R p q) ⟨rfl,rfl⟩) (fun b s' hb=>?_) fun _ _ e=>e.elim)))
 obtain⟨rfl,rfl⟩:=hb;exact⟨rfl,Fu h⟩
theorem bF{arr:Array Keyed}{p:Keyed}(e:arr[i]? =some p){Q:Keyed->SortSt->Prop}{st:SortSt}(h:Q p st):wpS (model prog w) A E s (elem' arr i) Q st:=by
 rw[elem'_eq,e];exact Fu h
theorem zO(T:Told prog w A s κ0 dom R){p q:Keyed}(ep:xs[i]? =some p)(eq:xs[j]? =some q)(hp:dom p)(hq:dom q){Q:Option Bool->SortSt->Prop}(h:Q (some (R p q)) (ST κ0 xs pd g)) :
  wpS (model prog w) A E s (ltAt' i j) Q (ST κ0 xs pd g):=by
 rw[ltAt'_eq];refine Fj (wpS_get ?_);exact Fj (bF ep (Fj (bF eq (iY T hp hq h))))
noncomputable def wV:Bool->Keyed->Array Keyed->Nat->Nat->Nat->StateT SortSt Sem (Option Nat):=sortPriv% PySem.Builtin.gallop
noncomputable def bey (R:Keyed->Keyed->Bool)(left:Bool)(key x:Keyed):Bool:=if left then R x key else !(R key x)
theorem iG(T:Told prog w A s κ0 dom R){left:Bool}{key p:Keyed}{arr:Array Keyed}(e:arr[i]? =some p)(hp:dom p)(hk:dom key){Q:Option Bool->SortSt->Prop}(h:Q (some (bey R left key p)) (ST κ0 xs pd g)) :
  wpS (model prog w) A E s (do
   let x <-elem' arr i
   if left=true then lt' x key else do
    let y <-lt' key x
    pure (y.map (!·))) Q (ST κ0 xs pd g):=by
 refine Fj (bF e ?_);unfold bey at h;cases left with
 | true=>exact iY T hp hk h
 | false=>exact Fj (iY T hk hp (Fu h))
theorem rO(T:Told prog w A s κ0 dom R){left:Bool}{key:Keyed}{arr:Array Keyed}{base n hi:Nat}(hk:dom key){el:Nat->Keyed}(he:∀ i,i<n->arr[base+i]? =some (el i))(hd:∀ i,i<n->dom (el i))(mono:∀ i j,i<=j->j<n->bey R left key (el j)=true->bey R left key (el i)=true){Q:Option Nat->SortSt->Prop}(h:∀ k,k<=n->(∀ i,i<k->bey R left key (el i)=true)->(∀ i,k<=i->i<n->bey R left key (el i)=false)->Q (some k) (ST κ0 xs pd g))(k1:∀ i,i<lo->bey R left key (el i)=true)(k2:∀ i,hi<=i->i<n->bey R left key (el i)=false)(k3:lo<=hi)(k4:hi<=n){f:Nat->Option (Option Nat)×Nat×Nat->StateT SortSt Sem (ForInStep (Option (Option Nat)×Nat×Nat))}(hf1:∀ x l r,l ≥ r->f x (none,l,r)=pure (ForInStep.done (none,l,r)))(hf2:∀ x l r,l<r->r<=n->∀ Q':ForInStep (Option (Option Nat)×Nat×Nat)->SortSt->Prop,
   (bey R left key (el (l+(r-l) / 2))=true->Q' (ForInStep.yield (none,l+(r-l) / 2+1,r)) (ST κ0 xs pd g)) →
   (bey R left key (el (l+(r-l) / 2))=false->Q' (ForInStep.yield (none,l,l+(r-l) / 2)) (ST κ0 xs pd g))->wpS (model prog w) A E s (f x (none,l,r)) Q' (ST κ0 xs pd g)) :
  wpS (model prog w) A E s (forIn [:n] ((none,lo,hi):Option (Option Nat)×Nat×Nat) f) (fun c st'=>∃ k,c=(none,k,k)/\Q (some k) st') (ST κ0 xs pd g):=by
 refine(Gx (F8 (I:=fun x c st'=>st'=ST κ0 xs pd g/\∃ l r,c=(none,l,r)/\l<=r/\r<=n/\r-l<=n-x/\(∀ i,i<l->bey R left key (el i)=true)/\(∀ i,r<=i->i<n->bey R left key (el i)=false))
  (Q:=fun c st'=>st'=ST κ0 xs pd g/\∃ r,c=(none,r,r)/\r<=n/\(∀ i,i<r->bey R left key (el i)=true)/\(∀ i,r<=i->i<n->bey R left key (el i)=false)) ?_ ?_ ?_) ?_)
 ·rintro x c st' _ hx ⟨rfl,l,r,rfl,h1,h2,h3,h4,h5⟩
  by_cases hge:l ≥ r
  ·rw[hf1 x l r hge]
   have:l=r:=by lia
   subst this;exact Fu ⟨rfl,l,rfl,h2,h4,h5⟩
  ·refine hf2 x l r (by lia) h2 _ (fun hb=>?_) (fun hb=>?_)
   ·refine⟨rfl,l+(r-l) / 2+1,r,rfl,by lia,h2,by lia,fun i hi=>?_,h5⟩
    exact mono i _ (by lia) (by lia) hb
   ·refine⟨rfl,l,l+(r-l) / 2,rfl,by lia,by lia,by lia,h4,fun i h6 hi=>?_⟩
    cases hb':bey R left key (el i) with
    | false=>rfl
    | true=>rw[mono _ i h6 hi hb']at hb;exact hb
 ·rintro c st' ⟨rfl,l,r,rfl,h1,h2,h3,h4,h5⟩
  have:l=r:=by lia
  subst this;exact⟨rfl,l,rfl,h2,h4,h5⟩
 ·exact⟨rfl,lo,hi,rfl,k3,k4,by lia,k1,k2⟩
 ·rintro c st' ⟨rfl,r,rfl,h2,h4,h5⟩;exact⟨r,rfl,h r h2 h4 h5⟩
theorem gk(T:Told prog w A s κ0 dom R){left:Bool}{key:Keyed}{arr:Array Keyed}{base n hint:Nat}(hk:dom key)(hh:hint<n)(el:Nat->Keyed)(he:∀ i,i<n->arr[base+i]? =some (el i))(hd:∀ i,i<n->dom (el i))(mono:∀ i j,i<=j->j<n->bey R left key (el j)=true->bey R left key (el i)=true){Q:Option Nat->SortSt->Prop}(h:∀ k,k<=n->(∀ i,i<k->bey R left key (el i)=true)->(∀ i,k<=i->i<n->bey R left key (el i)=false)->Q (some k) (ST κ0 xs pd g)) :
  wpS (model prog w) A E s (wV left key arr base n hint) Q (ST κ0 xs pd g):=by
 refine Fj (iG T (he hint hh) (hd hint hh) hk ?_);cases hr:bey R left key (el hint)
 ·dsimp only;simp only[Fo,if_false];refine Fj (Gx (F8 (I:=fun x c st'=>st'=ST κ0 xs pd g/\∃ la of,c=(none,la,of)/\x+1<=of/\la<of/\la<=hint/\bey R left key (el (hint-la))=false)
   (Q:=fun c st'=>st'=ST κ0 xs pd g/\∃ la of,c=(none,la,of)/\la<of/\la<=hint/\bey R left key (el (hint-la))=false/\(hint+1<=of\/of<=hint/\bey R left key (el (hint-of))=true)) ?_ ?_ ?_) ?_)
  ·rintro x c st' _ hx ⟨rfl,la,of,rfl,h1,h2,h3,h4⟩;dsimp only
   by_cases hge:of ≥ hint+1
   ·rw[if_pos hge];exact Fu ⟨rfl,la,of,rfl,h2,h3,h4,.inl hge⟩
   ·rw[if_neg hge];refine Fj (iG T (he (hint-of) (by lia)) (hd _ (by lia)) hk ?_)
    cases hb:bey R left key (el (hint-of)) with
    | true=>exact Fu ⟨rfl,la,of,rfl,h2,h3,h4,.inr ⟨by lia,hb⟩⟩
    | false=>exact Fu ⟨rfl,of,2*of+1,rfl,by lia,by lia,by lia,hb⟩
  ·rintro c st' ⟨rfl,la,of,rfl,h1,h2,h3,h4⟩;exact⟨rfl,la,of,rfl,h2,h3,h4,.inl (by lia)⟩
  ·exact⟨rfl,0,1,rfl,by lia,by lia,by lia,hr⟩
  ·rintro c st' ⟨rfl,la,of,rfl,h2,h3,h4,h5⟩;dsimp only;have k1:∀ i,i<hint+1-min of (hint+1)->bey R left key (el i)=true:=fun i hi=>by
    rcases h5 with h5|⟨h5,h6⟩
    ·lia
    ·exact mono i (hint-of) (by lia) (by lia) h6
   have k2:∀ i,hint-la<=i->i<n->bey R left key (el i)=false:=fun i h1 hi=>by
    cases hb:bey R left key (el i) with
    | false=>rfl
    | true=>rw[mono _ i h1 hi hb]at h4;exact h4
   have k3:hint+1-min of (hint+1)<=hint-la:=by
    rcases h5 with h5|h5
    ·rw[Nat.min_eq_right h5,Nat.sub_self];exact FG _
    ·rw[Nat.min_eq_left (Nat.le_succ_of_le h5.1)];exact FL (Nat.sub_le_sub_left h2 _) (Nat.le_of_eq (Nat.add_sub_add_right hint 1 la))
   have k4:hint-la<=n:=by lia
   refine Fj (Gx (rO T hk he hd mono h k1 k2 k3 k4 ?_ ?_) ?_)
   ·exact fun x l r hx=>if_pos hx
   ·intro x l r hx hr Q' q1 q2;dsimp only;rw[if_neg (by lia)]
    refine Fj (iG T (he _ (by lia)) (hd _ (by lia)) hk ?_)
    cases hb:bey R left key (el (l+(r-l) / 2)) with
    | true=>exact Fu (q1 hb)
    | false=>exact Fu (q2 hb)
   ·rintro c st' ⟨k,rfl,hq⟩;exact Fu hq
 ·dsimp only;simp only[if_true];refine Fj (Gx (F8 (I:=fun x c st'=>st'=ST κ0 xs pd g/\∃ la of,c=(none,la,of)/\x+1<=of/\la<of/\hint+la<n/\bey R left key (el (hint+la))=true)
   (Q:=fun c st'=>st'=ST κ0 xs pd g/\∃ la of,c=(none,la,of)/\la<of/\hint+la<n/\bey R left key (el (hint+la))=true/\(n-hint<=of\/hint+of<n/\bey R left key (el (hint+of))=false)) ?_ ?_ ?_) ?_)
  ·rintro x c st' _ hx ⟨rfl,la,of,rfl,h1,h2,h3,h4⟩;dsimp only
   by_cases hge:of ≥ n-hint
   ·rw[if_pos hge];exact Fu ⟨rfl,la,of,rfl,h2,h3,h4,.inl hge⟩
   ·rw[if_neg hge];refine Fj (iG T (he (hint+of) (by lia)) (hd _ (by lia)) hk ?_)
    cases hb:bey R left key (el (hint+of)) with
    | false=>exact Fu ⟨rfl,la,of,rfl,h2,h3,h4,.inr ⟨by lia,hb⟩⟩
    | true=>exact Fu ⟨rfl,of,2*of+1,rfl,by lia,by lia,by lia,hb⟩
  ·rintro c st' ⟨rfl,la,of,rfl,h1,h2,h3,h4⟩;exact⟨rfl,la,of,rfl,h2,h3,h4,.inl (by lia)⟩
  ·exact⟨rfl,0,1,rfl,by lia,by lia,by lia,hr⟩
  ·rintro c st' ⟨rfl,la,of,rfl,h2,h3,h4,h5⟩;dsimp only;have k1:∀ i,i<hint+la+1->bey R left key (el i)=true:=fun i hi=>mono i (hint+la) (by lia) (by lia) h4
   have k2:∀ i,hint+min of (n-hint)<=i->i<n->bey R left key (el i)=false:=fun i h1 hi=>by
    rcases h5 with h5|⟨h5,h6⟩
    ·lia
    ·cases hb:bey R left key (el i) with
     | false=>rfl
     | true=>rw[mono (hint+of) i (by lia) hi hb]at h6;exact h6
   have k3:hint+la+1<=hint+min of (n-hint):=by lia
   have k4:hint+min of (n-hint)<=n:=FL (Nat.add_le_add_left (Nat.min_le_right _ _) _) (Nat.le_of_eq (Nat.add_sub_of_le (GL hh)));refine Fj (Gx (rO T hk he hd mono h k1 k2 k3 k4 ?_ ?_) ?_)
   ·exact fun x l r hx=>if_pos hx
   ·intro x l r hx hr Q' q1 q2;dsimp only;rw[if_neg (by lia)]
    refine Fj (iG T (he _ (by lia)) (hd _ (by lia)) hk ?_)
    cases hb:bey R left key (el (l+(r-l) / 2)) with
    | true=>exact Fu (q1 hb)
    | false=>exact Fu (q2 hb)
   ·rintro c st' ⟨k,rfl,hq⟩;exact Fu hq
end
set_option maxHeartbeats 4000000
structure ML (R:Keyed->Keyed->Bool)(a b out A' B':List Keyed):Prop where
 pm:(out++(A'++B')).Perm (a++b)
 up:out.Pairwise (fun x y=>R y x=false)
 le:∀ x∈out,∀ y∈A'++B',R y x=false
 sa:A'.Pairwise (fun x y=>R y x=false)
 sb:B'.Pairwise (fun x y=>R y x=false)
 hl:∀ y∈B',∀ z∈A'.getLast?,R z y=false
theorem ML.hE{R:Keyed->Keyed->Bool}{a b out P A' B':List Keyed}(h:ML R a b out (P++A') B')(hx:∀ x∈P,∀ y∈B',R y x=false):ML R a b (out++P) A' B':=by
 have s1:=Gi.mp h.sa;refine⟨?_,Gi.mpr ⟨h.up,s1.1,fun x hx y hy=>h.le x hx y (by simp [hy])⟩,fun x h1 y h2=>?_,s1.2.1,h.sb,fun y hy z hz=>h.hl y hy z ?_⟩
 ·have:=h.pm
  simpa [FW] using this
 ·rcases Fs.mp h1 with h1|h1
  ·exact h.le x h1 y (by rcases Fs.mp h2 with h2|h2 <;> simp [h2])
  ·rcases Fs.mp h2 with h2|h2
   ·exact s1.2.2 x h1 y h2
   ·exact hx x h1 y h2
 ·rw[List.getLast?_append];rw[Option.mem_def]at hz ⊢;rw[hz];rfl
theorem ML.i9{R:Keyed->Keyed->Bool}{a b out P A' B':List Keyed}(h:ML R a b out A' (P++B'))(hx:∀ y∈P,∀ x∈A',R x y=false):ML R a b (out++P) A' B':=by
 have s1:=Gi.mp h.sb;refine⟨?_,Gi.mpr ⟨h.up,s1.1,fun x hx y hy=>h.le x hx y (by simp [hy])⟩,fun x h1 y h2=>?_,h.sa,s1.2.1,fun y hy z hz=>h.hl y (by simp [hy]) z hz⟩
 ·refine List.Perm.trans ?_ h.pm;rw[FW];exact List.Perm.append_left _ (List.perm_append_comm_assoc ..)
 ·rcases Fs.mp h1 with h1|h1
  ·exact h.le x h1 y (by rcases Fs.mp h2 with h2|h2 <;> simp [h2])
  ·rcases Fs.mp h2 with h2|h2
   ·exact hx x h1 y h2
   ·exact s1.2.2 x h1 y h2
noncomputable def Mrg (R:Keyed->Keyed->Bool)(a b m:List Keyed):Prop:=m.Perm (a++b)/\m.Pairwise (fun x y=>R y x=false)
theorem ML.dQ{R:Keyed->Keyed->Bool}{a b out A':List Keyed}(h:ML R a b out A' []):Mrg R a b (out++A'):=by
 refine⟨by simpa using h.pm,Gi.mpr ⟨h.up,h.sa,fun x hx y hy=>h.le x hx y (by simp [hy])⟩⟩
theorem ML.en{R:Keyed->Keyed->Bool}{a b out B':List Keyed}(h:ML R a b out [] B'):Mrg R a b (out++B'):=by
 refine⟨by simpa using h.pm,Gi.mpr ⟨h.up,h.sb,fun x hx y hy=>h.le x hx y (by simp [hy])⟩⟩
theorem ML.last{R:Keyed->Keyed->Bool}{a b out B':List Keyed}{z:Keyed}(h:ML R a b out [z] B'):Mrg R a b (out++B'++[z]):=by
 have h0:ML R a b out [z] (B'++[]):=by rw[FR];exact h
 have h1:ML R a b (out++B') ([z]++[]) []:=h0.i9 fun y hy x hx=>by
  rw[Fb]at hx;subst hx;exact h.hl y hy _ rfl
 have h2:=(h1.hE fun _ _ y hy=>by simp at hy).dQ
 rw[FR]at h2;exact h2
theorem dZ{b:Array Keyed}(h:i<b.size):b.toList.drop i=b[i]::b.toList.drop (i+1):=by
 rw[Gr (by simpa using h)]
 simp
theorem upTo{R:Keyed->Keyed->Bool}(W:br R){x y:Keyed}{l:List Keyed}(hs:(x::l).Pairwise (fun x y=>R y x=false))(h:R x y=false):∀ z∈x::l,R z y=false:=by
 intro z hz;rcases Fn.mp hz with rfl|hz
 ·exact h
 ·exact W.le_trans h (List.rel_of_pairwise_cons hs hz)
theorem gS{R:Keyed->Keyed->Bool}(W:br R){a:Array Keyed}(hs:a.toList.Pairwise (fun x y=>R y x=false))(hij:i<=j)(hj:j<a.size):R (a[j]) (a[i]'(by lia))=false:=by
 rcases Nat.eq_or_lt_of_le hij with rfl|hlt
 ·exact W.ir _
 ·exact GX.mp hs i j (by simp;lia) (by simpa using hj) hlt
theorem gu{R:Keyed->Keyed->Bool}(W:br R){left:Bool}{key x y:Keyed}(h:R y x=false)(hb:bey R left key y=true):bey R left key x=true:=by
 unfold bey at hb ⊢;cases left with
 | true=>exact W.Am h hb
 | false=>
  simp only[Fo,if_false,Bool.not_eq_true']at hb ⊢;exact W.le_trans h hb
theorem sY{a:Array Keyed}{k:Nat}(h:i+k<=a.size):a.toList.drop i=(a.extract i (i+k)).toList++a.toList.drop (i+k):=by
 rw[GB,GI,show i+k-i=k by lia,<-List.drop_drop,F4]
theorem pV{a:Array Keyed}{k:Nat}{x:Keyed}(hx:x∈(a.extract i (i+k)).toList)(h:i+k<=a.size):∃ j,∃ q:j<k,x=a[i+j]'(by lia):=by
 obtain⟨j,hj,rfl⟩:=Gj.mp hx;have hj':j<k:=by simp at hj;lia
 exact⟨j,hj',by simp⟩
theorem uZ{a:Array Keyed}{x:Keyed}(hx:x∈a.toList.drop i):∃ j,∃ q:i+j<a.size,x=a[i+j]'q:=by
 obtain⟨j,hj,rfl⟩:=Gj.mp hx;have hj':i+j<a.size:=by simp at hj;lia
 exact⟨j,hj',by simp⟩
section
variable {prog:Program}{w:World}{A:Around}{E:Value->Shared->Prop}{s:Shared}{κ0:SortKind}{dom:Keyed->Prop}{R:Keyed->Keyed->Bool}{xs:Array Keyed}{pd:Array (Nat×Nat×Nat)}{g:Nat}
noncomputable def xn:Array Keyed->Array Keyed->StateT SortSt Sem (Array Keyed):=sortPriv% PySem.Builtin.mergeLo
noncomputable abbrev MLa (R:Keyed->Keyed->Bool)(a b out:Array Keyed)(ia ib:Nat):Prop:=ML R a.toList b.toList out.toList (a.toList.drop ia) (b.toList.drop ib)
theorem gM{a:Array Keyed}:(a.extract i).toList=a.toList.drop i:=by
 rw[GB,GI];exact FQ (by simp)
noncomputable def elD (a:Array Keyed)(d:Keyed)(i:Nat):Keyed:=(a[i]?).getD d
theorem bN{a:Array Keyed}{d:Keyed}(h:i<a.size):elD a d i=a[i]:=by unfold elD;rw[F5 a i h];rfl
theorem gO{a:Array Keyed}{d:Keyed}(h:i<a.size):a[i]? =some (elD a d i):=by rw[bN h];exact F5 a i h
theorem gY{R:Keyed->Keyed->Bool}{key x:Keyed}:bey R false key x = !(R key x):=rfl
theorem gN{R:Keyed->Keyed->Bool}{key x:Keyed}:bey R true key x=R x key:=rfl
theorem MLa.o5{a b out:Array Keyed}{ia ib k:Nat}(W:br R)(h:MLa R a b out ia ib)(hb:ib<b.size)(hk:ia+k<=a.size)(hx:∀ i (q:i<k),R b[ib] (a[ia+i]'(by lia))=false):MLa R a b (out++a.extract ia (ia+k)) (ia+k) ib:=by
 unfold MLa at h ⊢;rw[sY hk]at h;rw[FV];refine h.hE fun x hx' y hy=>?_
 obtain⟨j,q,rfl⟩:=pV hx' hk
 have:=h.sb
 rw[dZ hb]at this hy;exact upTo W this (hx j q) y hy
theorem MLa.nO{a b out:Array Keyed}{ia ib k:Nat}(W:br R)(h:MLa R a b out ia ib)(ha:ia<a.size)(hk:ib+k<=b.size)(hx:∀ i (q:i<k),R a[ia] (b[ib+i]'(by lia))=false):MLa R a b (out++b.extract ib (ib+k)) ia (ib+k):=by
 unfold MLa at h ⊢;rw[sY hk]at h;rw[FV];refine h.i9 fun x hx' y hy=>?_
 obtain⟨j,q,rfl⟩:=pV hx' hk
 have:=h.sa
 rw[dZ ha]at this hy;exact upTo W this (hx j q) y hy
theorem MLa.gQ{a b out:Array Keyed}{ia ib:Nat}(W:br R)(h:MLa R a b out ia ib)(hb:ib<b.size)(hy:∀ x∈a.toList.drop ia,R x b[ib]=false):MLa R a b (out.push b[ib]) ia (ib+1):=by
 unfold MLa at h ⊢;rw[dZ hb]at h;rw[Array.toList_push];exact ML.i9 (P:=[b[ib]]) h fun y hy' x hx=>by rw[Fb]at hy';subst hy';exact hy x hx
theorem MLa.gI{a b out:Array Keyed}{ia ib:Nat}(W:br R)(h:MLa R a b out ia ib)(ha:ia<a.size)(hx:∀ y∈b.toList.drop ib,R y a[ia]=false):MLa R a b (out.push a[ia]) (ia+1) ib:=by
 unfold MLa at h ⊢;rw[dZ ha]at h;rw[Array.toList_push];exact ML.hE (P:=[a[ia]]) h fun y hy' x hx'=>by rw[Fb]at hy';subst hy';exact hx x hx'
theorem MLa.dQ{a b out:Array Keyed}{ia ib:Nat}(h:MLa R a b out ia ib)(hb:ib=b.size):Mrg R a.toList b.toList (out++a.extract ia++b.extract ib).toList:=by
 unfold MLa at h;rw[GR (as:=b.toList) (by simp [hb])]at h
 have e:(out++a.extract ia++b.extract ib).toList=out.toList++a.toList.drop ia:=by
  rw[FV,FV,gM,gM,GR (as:=b.toList) (by simp [hb]),FR]
 rw[e];exact h.dQ
theorem MLa.en{a b out:Array Keyed}{ia ib:Nat}(h:MLa R a b out ia ib)(ha:ia=a.size):Mrg R a.toList b.toList (out++a.extract ia++b.extract ib).toList:=by
 unfold MLa at h;rw[GR (as:=a.toList) (by simp [ha])]at h
 have e:(out++a.extract ia++b.extract ib).toList=out.toList++b.toList.drop ib:=by
  rw[FV,FV,gM,gM,GR (as:=a.toList) (by simp [ha]),FR]
 rw[e];exact h.en
theorem MLa.last{a b out:Array Keyed}{ia ib:Nat}(h:MLa R a b out ia ib)(ha:ia+1=a.size):Mrg R a.toList b.toList (out++b.extract ib++a.extract ia).toList:=by
 unfold MLa at h;rw[dZ (show ia<a.size by lia),GR (as:=a.toList) (i:=ia+1) (by simp [ha])]at h
 have e:(out++b.extract ib++a.extract ia).toList=out.toList++b.toList.drop ib++[a[ia]'(by lia)]:=by
  have e1:a.toList.drop ia=[a[ia]'(by lia)]:=by rw[dZ (show ia<a.size by lia),GR (by simp [ha])]
  rw[<-e1];rw[FV,FV,gM,gM]
 rw[e];exact h.last
theorem tE{σ' α:Type}{c:Prop}{dc:Decidable c}{G:StateT σ' Sem α}{F:Nat->StateT σ' Sem α}{x:Nat}(y:Nat){Q:α->σ'->Prop}{st:σ'}(h:∀ z,wpS (model prog w) A E s (F z) Q st)(hG:G=F x):wpS (model prog w) A E s (@ite _ c dc G (F y)) Q st:=by
 split
 ·rw[hG];exact h _
 ·exact h _
theorem jv{σ' α:Type}{c:Prop}{dc:Decidable c}{G:StateT σ' Sem α}{F:Array Keyed->Nat->StateT σ' Sem α}(pre:Array Keyed->Nat->Prop)(o:Array Keyed)(i:Nat){Q:α->σ'->Prop}{st:σ'}(h:∀ o' i',pre o' i'->wpS (model prog w) A E s (F o' i') Q st)(hG:c->(∀ o' i',pre o' i'->wpS (model prog w) A E s (F o' i') Q st)->wpS (model prog w) A E s G Q st)(hN:¬ c->pre o i):wpS (model prog w) A E s (@ite _ c dc G (F o i)) Q st:=by
 split
 ·rename_i hc
  exact hG hc h
 ·rename_i hc
  exact h _ _ (hN hc)
theorem D9(T:Told prog w A s κ0 dom R)(W:br R){a b:Array Keyed}(hb:0<b.size)(ha:0<a.size)(da:∀ p∈a.toList,dom p)(db:∀ p∈b.toList,dom p)(sa:a.toList.Pairwise (fun x y=>R y x=false))(sb:b.toList.Pairwise (fun x y=>R y x=false))(h0:∀ x∈a.toList,R x b[0]=false)(hl:∀ y∈b.toList,∀ z∈a.toList.getLast?,R z y=false){Q:Array Keyed->SortSt->Prop}(h:∀ m g',Mrg R a.toList b.toList m.toList->Q m (ST κ0 xs pd g')) :
  wpS (model prog w) A E s (xn a b) Q (ST κ0 xs pd g):=by
 have da':∀ i (q:i<a.size),dom a[i]:=fun i q=>da _ (by simp)
 have db':∀ i (q:i<b.size),dom b[i]:=fun i q=>db _ (by simp)
 have start:MLa R a b #[b[0]] 0 1:=by
  have z:MLa R a b #[] 0 0:=⟨by simp,by simp,by simp,sa,sb,hl⟩
  exact z.gQ W hb fun x hx=>h0 x (by simpa using hx)
 refine Fj (wpS_lift (GO ⟨rfl,?_⟩));refine Fj (bF (F5 b 0 hb) ?_);dsimp only
 by_cases h1:(1==b.size)=true
 ·rw[if_pos h1];exact Fu (h _ _ (start.dQ (by simpa using h1)))
 rw[if_neg h1];have h1':1<b.size:=by simp at h1;lia
 by_cases h2:(0+1==a.size)=true
 ·rw[if_pos h2];exact Fu (h _ _ (start.last (by simpa using h2)))
 rw[if_neg h2];have h2':1<a.size:=by simp at h2;lia
 refine Fj (wpS_get ?_);refine Fj (Gx (F8
  (I:=fun x c st'=>∃ out ia ib mg g',c=(none,out,ia,ib,mg)/\st'=ST κ0 xs pd g'/\MLa R a b out ia ib/\ia+1<a.size/\ib<b.size/\(a.size-ia)+(b.size-ib)+x<=a.size+b.size)
  (Q:=fun c st'=>∃ m r g',c=(some m,r)/\st'=ST κ0 xs pd g'/\Mrg R a.toList b.toList m.toList) ?_ ?_ ?_) ?_)
 rotate_left
 ·rintro c st' ⟨out,ia,ib,mg,g',rfl,rfl,k1,k2,k3,k4⟩;lia
 ·exact⟨_,_,_,_,_,rfl,rfl,start,h2',h1',by lia⟩
 ·rintro c st' ⟨m,r,g',rfl,rfl,k⟩;exact Fu (h m g' k)
 rintro x c st' _ hx ⟨out,ia,ib,mg,g',rfl,rfl,k1,k2,k3,k4⟩;dsimp only;refine Fj (Gx (F8
  (I:=fun x' c st'=>∃ out ia' ib' ac bc,c=(none,out,ia',ib',ac,bc)/\st'=ST κ0 xs pd g'/\MLa R a b out ia' ib'/\ia'+1<a.size/\ib'<b.size/\(a.size-ia')+(b.size-ib')+x'<=(a.size-ia)+(b.size-ib))
  (Q:=fun c st'=>st'=ST κ0 xs pd g'/\((∃ m r,c=(some m,r)/\Mrg R a.toList b.toList m.toList)\/∃ out ia' ib' ac bc,c=(none,out,ia',ib',ac,bc)/\MLa R a b out ia' ib'/\ia'+1<a.size/\ib'<b.size/\(a.size-ia')+(b.size-ib')+1<=(a.size-ia)+(b.size-ib))) ?_ ?_ ?_) ?_)
 ·rintro x' c st' _ hx' ⟨out,ia',ib',ac,bc,rfl,rfl,m1,m2,m3,m4⟩;dsimp only;refine Fj (bF (F5 b ib' m3) ?_);refine Fj (bF (F5 a ia' (by lia)) ?_)
  refine Fj (iY T (db' _ _) (da' _ _) ?_);cases hw:R b[ib'] (a[ia']'(by lia)) with
  | true=>
   dsimp only;simp only[if_true];refine Fj (bF (F5 b ib' m3) ?_);have m5:=m1.gQ W m3 (by
    have:=m1.sa
    rw[dZ (show ia'<a.size by lia)]at this ⊢
    exact upTo W this (W.le_of_lt hw))
   by_cases q1:(ib'+1==b.size)=true
   ·rw[if_pos q1];exact Fu ⟨rfl,.inl ⟨_,_,rfl,m5.dQ (by simpa using q1)⟩⟩
   ·rw[if_neg q1];have q1':ib'+1<b.size:=by simp at q1;lia
    split
    ·exact Fu ⟨rfl,.inr ⟨_,_,_,_,_,rfl,m5,m2,q1',by lia⟩⟩
    ·exact Fu ⟨_,_,_,_,_,rfl,rfl,m5,m2,q1',by lia⟩
  | false=>
   dsimp only;simp only[Fo,if_false];refine Fj (bF (F5 a ia' (by lia)) ?_)
   have m5:=m1.gI W (by lia) (by
    have:=m1.sb
    rw[dZ m3]at this ⊢;exact upTo W this hw)
   by_cases q1:(ia'+1+1==a.size)=true
   ·rw[if_pos q1];exact Fu ⟨rfl,.inl ⟨_,_,rfl,m5.last (by simpa using q1)⟩⟩
   ·rw[if_neg q1];have q1':ia'+1+1<a.size:=by simp at q1;lia
    split
    ·exact Fu ⟨rfl,.inr ⟨_,_,_,_,_,rfl,m5,q1',m3,by lia⟩⟩
    ·exact Fu ⟨_,_,_,_,_,rfl,rfl,m5,q1',m3,by lia⟩
 ·rintro c st' ⟨out,ia',ib',ac,bc,rfl,rfl,m1,m2,m3,m4⟩;lia
 ·exact⟨_,_,_,_,_,rfl,rfl,k1,k2,k3,by lia⟩
 rintro c st' ⟨rfl,⟨m,r,rfl,hm⟩|⟨out,ia',ib',ac,bc,rfl,m1,m2,m3,m4⟩⟩
 ·exact Fu ⟨m,_,_,rfl,rfl,hm⟩
 dsimp only;refine Fj (wpS_lift (GO ⟨rfl,?_⟩));refine Fj (Gx (F8
  (I:=fun x' c st'=>∃ out ia2 ib2 mg ac bc g',c=(none,out,ia2,ib2,mg,ac,bc)/\st'=ST κ0 xs pd g'/\MLa R a b out ia2 ib2/\ia2+1<a.size/\ib2<b.size/\(a.size-ia2)+(b.size-ib2)+x'<=(a.size-ia')+(b.size-ib'))
  (Q:=fun c st'=>∃ g',st'=ST κ0 xs pd g'/\((∃ m r,c=(some m,r)/\Mrg R a.toList b.toList m.toList)\/∃ out ia2 ib2 mg ac bc,c=(none,out,ia2,ib2,mg,ac,bc)/\MLa R a b out ia2 ib2/\ia2+1<a.size/\ib2<b.size/\(a.size-ia2)+(b.size-ib2)<=(a.size-ia')+(b.size-ib'))) ?_ ?_ ?_) ?_)
 rotate_left
 ·rintro c st' ⟨out,ia',ib',mg,ac,bc,g',rfl,rfl,m1,m2,m3,m4⟩;lia
 ·exact⟨_,_,_,_,_,_,_,rfl,rfl,m1,m2,m3,by lia⟩
 ·rintro c st' ⟨g',rfl,⟨m,r,rfl,hm⟩|⟨out,ia2,ib2,mg,ac,bc,rfl,n1,n2,n3,n4⟩⟩
  ·exact Fu ⟨m,_,_,rfl,rfl,hm⟩
  ·refine Fj (Gv ?_);exact Fu ⟨out,ia2,ib2,_,_,rfl,rfl,n1,n2,n3,by lia⟩
 rintro x' c st' _ hx' ⟨out,ia2,ib2,mg,ac,bc,g',rfl,rfl,n1,n2,n3,n4⟩;dsimp only;apply tE (x:=mg-1) mg
 case hG=>rfl
 intro mg';refine Fj (Gv ?_);refine Fj (bF (F5 b ib2 n3) ?_);refine Fj (gk T (db' _ n3) (by lia) (fun i=>elD a b[0] (ia2+i)) (fun i hi=>gO (by lia)) (fun i hi=>by rw[bN (by lia)];exact da' _ _) ?_ fun k hk1 hk2 hk3=>?_)
 ·intro i j hij hj hb';rw[bN (by lia)]at hb' ⊢
  exact gu W (gS W sa (by lia) (by lia)) hb'
 have pA:MLa R a b (out++a.extract ia2 (ia2+k)) (ia2+k) ib2:=n1.o5 W n3 (by lia) fun i q=>by
  have:=hk2 i q
  rw[bN (by lia),gY]at this
  simpa using this
 have pB:∀ x∈a.toList.drop (ia2+k),R x b[ib2]=false:=fun x hx=>by
  obtain⟨j,q,rfl⟩:=uZ hx
  have:=hk3 (k+j) (by lia) (by lia)
  rw[bN (by lia),gY]at this
  refine W.le_of_lt ?_;simpa only[Nat.add_assoc,Bool.not_eq_false'] using this
 dsimp only;apply jv (fun o' i'=>MLa R a b o' i' ib2/\i'+1<a.size/\(∀ x∈a.toList.drop i',R x b[ib2]=false)/\ia2<=i') out ia2
 case hN=>
  intro hk0;obtain rfl:k=0:=by lia
  exact⟨n1,n2,pB,E7 _⟩
 case hG=>
  intro hk0 hF
  by_cases r1:(ia2+k+1==a.size)=true
  ·rw[if_pos r1];exact Fu ⟨_,rfl,.inl ⟨_,_,rfl,pA.last (by simpa using r1)⟩⟩
  rw[if_neg r1]
  by_cases r2:(ia2+k==a.size)=true
  ·rw[if_pos r2];exact Fu ⟨_,rfl,.inl ⟨_,_,rfl,pA.en (by simpa using r2)⟩⟩
  rw[if_neg r2];exact hF _ _ ⟨pA,by simp at r1 r2;lia,pB,by lia⟩
 rintro o1 i1 ⟨p1,p2,p3,p4⟩;refine Fj (bF (F5 b ib2 n3) ?_);have p5:=p1.gQ W n3 p3
 by_cases t1:(ib2+1==b.size)=true
 ·rw[if_pos t1];exact Fu ⟨_,rfl,.inl ⟨_,_,rfl,p5.dQ (by simpa using t1)⟩⟩
 rw[if_neg t1];have t1':ib2+1<b.size:=by simp at t1;lia
 refine Fj (bF (F5 a i1 (by lia)) ?_)
 refine Fj (gk T (da' i1 (by lia)) (by lia) (fun i=>elD b b[0] (ib2+1+i)) (fun i hi=>gO (by lia)) (fun i hi=>by rw[bN (by lia)];exact db' _ _) ?_ fun k' e1 e2 e3=>?_)
 ·intro i j hij hj hb';rw[bN (by lia)]at hb' ⊢
  exact gu W (gS W sb (by lia) (by lia)) hb'
 have d1:MLa R a b (o1.push b[ib2]++b.extract (ib2+1) (ib2+1+k')) i1 (ib2+1+k'):=p5.nO W (by lia) (by lia) fun i q=>by
  have:=e2 i q
  rw[bN (by lia),gN]at this
  exact W.le_of_lt this
 have d2:∀ y∈b.toList.drop (ib2+1+k'),R y (a[i1]'(by lia))=false:=fun y hy=>by
  obtain⟨j,q,rfl⟩:=uZ hy
  have:=e3 (k'+j) (by lia) (by lia)
  rw[bN (by lia),gN]at this
  simpa only[Nat.add_assoc] using this
 dsimp only;generalize hq2:o1.push b[ib2]=o2 at p5 d1 ⊢;generalize hj2:ib2+1=j2 at p5 d1 d2 t1' e1 ⊢;apply jv (fun o' j'=>MLa R a b o' i1 j'/\(∀ y∈b.toList.drop j',R y (a[i1]'(by lia))=false)/\j'<b.size/\j2<=j') o2 j2
 case hN=>
  intro hk0';obtain rfl:k'=0:=by lia
  exact⟨p5,d2,t1',E7 _⟩
 case hG=>
  intro hk0' hF
  by_cases t2:(j2+k'==b.size)=true
  ·rw[if_pos t2];exact Fu ⟨_,rfl,.inl ⟨_,_,rfl,d1.dQ (by simpa using t2)⟩⟩
  rw[if_neg t2];exact hF _ _ ⟨d1,d2,by simp at t2;lia,by lia⟩
 rintro o3 j3 ⟨c1,c2,c4,c5⟩;refine Fj (bF (F5 a i1 (by lia)) ?_)
 have c3:=c1.gI W (by lia) c2
 by_cases t3:(i1+1+1==a.size)=true
 ·rw[if_pos t3];exact Fu ⟨_,rfl,.inl ⟨_,_,rfl,c3.last (by simpa using t3)⟩⟩
 ·rw[if_neg t3];have t3':i1+1+1<a.size:=by simp at t3;lia
  split
  ·exact Fu ⟨_,rfl,.inr ⟨_,_,_,_,_,_,rfl,c3,t3',c4,by lia⟩⟩
  ·exact Fu ⟨_,_,_,_,_,_,_,rfl,rfl,c3,t3',c4,by lia⟩
end
set_option maxHeartbeats 4000000
section
variable {prog:Program}{w:World}{A:Around}{E:Value->Shared->Prop}{s:Shared}{κ0:SortKind}{dom:Keyed->Prop}{R:Keyed->Keyed->Bool}{xs:Array Keyed}{pd:Array (Nat×Nat×Nat)}{g:Nat}
noncomputable def EX:Array Keyed->Array Keyed->StateT SortSt Sem (Array Keyed):=sortPriv% PySem.Builtin.mergeHi
noncomputable abbrev MHa (R:Keyed->Keyed->Bool)(a b out:Array Keyed)(na nb:Nat):Prop:=ML (fun x y=>R y x) b.toList.reverse a.toList.reverse out.toList (b.toList.take nb).reverse (a.toList.take na).reverse
theorem lH{b:Array Keyed}{n:Nat}(h:n<b.size):(b.toList.take (n+1)).reverse=b[n]::(b.toList.take n).reverse:=by
 rw[List.take_succ_eq_append_getElem (by simpa using h)]
 simp
theorem kq{a:Array Keyed}{n:Nat}{x:Keyed}(hx:x∈a.toList.take n):∃ j,∃ q:j<a.size,j<n/\x=a[j]'q:=by
 obtain⟨j,hj,rfl⟩:=Gj.mp hx;have hj':j<n/\j<a.size:=by simp at hj;lia
 exact⟨j,hj'.2,hj'.1,by simp⟩
theorem pS{a:Array Keyed}{n:Nat}(h:i<=n)(hn:n<=a.size):(a.toList.take n).reverse=(a.extract i n).reverse.toList++(a.toList.take i).reverse:=by
 rw[Array.toList_reverse,<-List.reverse_append,GB,GI];congr 1;have e:a.toList.take n=(a.toList.take n).take i++(a.toList.take n).drop i:=(F4 i _).symm;rw[List.take_take,Nat.min_eq_left h,List.drop_take]at e;exact e
theorem rB{a:Array Keyed}{n:Nat}{x:Keyed}(hx:x∈(a.extract i n).reverse.toList)(hn:n<=a.size):∃ j,∃ q:j<a.size,i<=j/\j<n/\x=a[j]'q:=by
 rw[Array.toList_reverse,GV]at hx;obtain⟨j,hj,rfl⟩:=Gj.mp hx;have hj':i+j<n:=by simp at hj;lia
 exact⟨i+j,by lia,by lia,hj',by simp⟩
theorem MHa.gI{a b out:Array Keyed}{na nb:Nat}(h:MHa R a b out (na+1) nb)(ha:na<a.size)(hy:∀ y∈b.toList.take nb,R a[na] y=false):MHa R a b (out.push a[na]) na nb:=by
 unfold MHa at h ⊢;rw[lH ha]at h;rw[Array.toList_push];exact ML.i9 (P:=[a[na]]) h fun y hy' x hx=>by rw[Fb]at hy';subst hy';exact hy x (GV.mp hx)
theorem MHa.gQ{a b out:Array Keyed}{na nb:Nat}(h:MHa R a b out na (nb+1))(hb:nb<b.size)(hx:∀ y∈a.toList.take na,R b[nb] y=false):MHa R a b (out.push b[nb]) na nb:=by
 unfold MHa at h ⊢;rw[lH hb]at h;rw[Array.toList_push];exact ML.hE (P:=[b[nb]]) h fun y hy' x hx'=>by rw[Fb]at hy';subst hy';exact hx x (GV.mp hx')
theorem MHa.o5{a b out:Array Keyed}{na nb:Nat}(h:MHa R a b out na nb)(hi:i<=na)(hn:na<=a.size)(hx:∀ j (q:j<a.size),i<=j->j<na->∀ y∈b.toList.take nb,R a[j] y=false):MHa R a b (out++(a.extract i na).reverse) i nb:=by
 unfold MHa at h ⊢;rw[pS hi hn]at h;rw[FV];refine h.i9 fun x hx' y hy=>?_
 obtain⟨j,q,q1,q2,rfl⟩:=rB hx' hn;exact hx j q q1 q2 y (GV.mp hy)
theorem MHa.nO{a b out:Array Keyed}{na nb:Nat}(h:MHa R a b out na nb)(hi:i<=nb)(hn:nb<=b.size)(hx:∀ j (q:j<b.size),i<=j->j<nb->∀ y∈a.toList.take na,R b[j] y=false):MHa R a b (out++(b.extract i nb).reverse) na i:=by
 unfold MHa at h ⊢;rw[pS hi hn]at h;rw[FV];refine h.hE fun x hx' y hy=>?_
 obtain⟨j,q,q1,q2,rfl⟩:=rB hx' hn;exact hx j q q1 q2 y (GV.mp hy)
theorem Mrg.flip{a b m m':List Keyed}(h:Mrg (fun x y=>R y x) b.reverse a.reverse m)(e:m'=m.reverse):Mrg R a b m':=by
 subst e;refine⟨(List.reverse_perm m).trans (h.1.trans ?_),?_⟩
 ·exact(List.perm_append_comm).trans ((List.reverse_perm a).append (List.reverse_perm b))
 ·rw[List.pairwise_reverse];exact h.2
theorem gX{a:Array Keyed}{n:Nat}:(a.extract 0 n).toList=a.toList.take n:=by
 rw[GB,GI]
 simp
theorem MHa.en{a b out:Array Keyed}{na nb:Nat}(h:MHa R a b out na nb)(ha:na=0):Mrg R a.toList b.toList (a.extract 0 na++b.extract 0 nb++out.reverse).toList:=by
 subst ha;refine Mrg.flip (ML.dQ (by simpa [MHa] using h)) ?_
 rw[FV,FV,gX,gX]
 simp
theorem MHa.dQ{a b out:Array Keyed}{na nb:Nat}(h:MHa R a b out na nb)(hb:nb=0):Mrg R a.toList b.toList (a.extract 0 na++b.extract 0 nb++out.reverse).toList:=by
 subst hb;refine Mrg.flip (ML.en (by simpa [MHa] using h)) ?_
 rw[FV,FV,gX,gX]
 simp
theorem MHa.first{a b out:Array Keyed}{na nb:Nat}(h:MHa R a b out na nb)(hb:nb=1)(hn:0<b.size):Mrg R a.toList b.toList (b.extract 0 nb++a.extract 0 na++out.reverse).toList:=by
 subst hb;unfold MHa at h;rw[lH (n:=0) hn]at h;refine Mrg.flip (ML.last (z:=b[0]) (by simpa using h)) ?_
 rw[FV,FV,gX,gX];have e:b.toList.take 1=[b[0]]:=by
  have:=lH (n:=0) hn
  have e2:=congrArg List.reverse this;simpa using e2
 rw[e]
 simp
theorem y6(T:Told prog w A s κ0 dom R)(W:br R){a b:Array Keyed}(hb:0<b.size)(ha:0<a.size)(da:∀ p∈a.toList,dom p)(db:∀ p∈b.toList,dom p)(sa:a.toList.Pairwise (fun x y=>R y x=false))(sb:b.toList.Pairwise (fun x y=>R y x=false))(h0:∀ x∈a.toList,R x b[0]=false)(hl:∀ y∈b.toList,∀ z∈a.toList.getLast?,R z y=false){Q:Array Keyed->SortSt->Prop}(h:∀ m g',Mrg R a.toList b.toList m.toList->Q m (ST κ0 xs pd g')) :
  wpS (model prog w) A E s (EX a b) Q (ST κ0 xs pd g):=by
 have da':∀ i (q:i<a.size),dom a[i]:=fun i q=>da _ (by simp)
 have db':∀ i (q:i<b.size),dom b[i]:=fun i q=>db _ (by simp)
 have upA:∀ n (q:n<a.size),∀ y∈a.toList.take (n+1),R a[n] y=false:=fun n q y hy=>by
  obtain⟨j,q1,q2,rfl⟩:=kq hy;exact gS W sa (by lia) q
 have upB:∀ n (q:n<b.size),∀ y∈b.toList.take (n+1),R b[n] y=false:=fun n q y hy=>by
  obtain⟨j,q1,q2,rfl⟩:=kq hy;exact gS W sb (by lia) q
 have start:MHa R a b #[a[a.size-1]'(by lia)] (a.size-1) b.size:=by
  have z:MHa R a b #[] (a.size-1+1) b.size:=by
   refine⟨?_,by simp,by simp,?_,?_,?_⟩
   ·rw[Nat.sub_add_cancel ha,FQ (l:=b.toList) (by simp),FQ (l:=a.toList) (by simp)]
    simp
   ·rw[FQ (by simp),List.pairwise_reverse];exact sb
   ·rw[FQ (by simp;lia),List.pairwise_reverse];exact sa
   ·intro y hy z hz;rw[FQ (by simp),List.getLast?_reverse]at hz
    rw[FQ (by simp;lia),GV]at hy
    have e:b.toList.head? =some b[0]:=by rw[List.head?_eq_getElem?];simp [hb]
    rw[e]at hz;obtain rfl:=Fw hz;exact h0 y hy
  refine z.gI (by lia) fun y hy=>?_
  refine hl y (List.mem_of_mem_take hy) _ ?_;rw[Option.mem_def,List.getLast?_eq_getElem?]
  simp [ha]
 refine Fj (wpS_lift (GO ⟨rfl,?_⟩));refine Fj (bF (F5 a (a.size-1) (by lia)) ?_)
 dsimp only
 by_cases h1:(a.size-1==0)=true
 ·rw[if_pos h1];exact Fu (h _ _ (start.en (by simpa using h1)))
 rw[if_neg h1];have h1':1<a.size:=by simp at h1;lia
 by_cases h2:(b.size==1)=true
 ·rw[if_pos h2];exact Fu (h _ _ (start.first (by simpa using h2) hb))
 rw[if_neg h2];have h2':1<b.size:=by simp at h2;lia
 refine Fj (wpS_get ?_);refine Fj (Gx (F8
  (I:=fun x c st'=>∃ out na nb mg g',c=(none,na+1,nb+2,out,mg)/\st'=ST κ0 xs pd g'/\MHa R a b out (na+1) (nb+2)/\na<a.size/\nb+1<b.size/\na+1+(nb+2)+x<=a.size+b.size)
  (Q:=fun c st'=>∃ m r g',c=(some m,r)/\st'=ST κ0 xs pd g'/\Mrg R a.toList b.toList m.toList) ?_ ?_ ?_) ?_)
 rotate_left
 ·rintro c st' ⟨out,na,nb,mg,g',rfl,rfl,k1,k2,k3,k4⟩;lia
 ·refine⟨#[a[a.size-1]'(by lia)],a.size-2,b.size-2,g,g,?_,rfl,?_,by lia,by lia,by lia⟩
  ·rw[show a.size-2+1=a.size-1 by lia,show b.size-2+2=b.size by lia]
  ·rw[show a.size-2+1=a.size-1 by lia,show b.size-2+2=b.size by lia];exact start
 ·rintro c st' ⟨m,r,g',rfl,rfl,k⟩;exact Fu (h m g' k)
 rintro x c st' _ hx ⟨out,na,nb,mg,g',rfl,rfl,k1,k2,k3,k4⟩;dsimp only;refine Fj (Gx (F8
  (I:=fun x' c st'=>∃ out na' nb' ac bc,c=(none,na'+1,nb'+2,out,ac,bc)/\st'=ST κ0 xs pd g'/\MHa R a b out (na'+1) (nb'+2)/\na'<a.size/\nb'+1<b.size/\na'+nb'+x'<=na+nb)
  (Q:=fun c st'=>st'=ST κ0 xs pd g'/\((∃ m r,c=(some m,r)/\Mrg R a.toList b.toList m.toList)\/∃ out na' nb' ac bc,c=(none,na'+1,nb'+2,out,ac,bc)/\MHa R a b out (na'+1) (nb'+2)/\na'<a.size/\nb'+1<b.size/\na'+nb'+1<=na+nb)) ?_ ?_ ?_) ?_)
 ·rintro x' c st' _ hx' ⟨out,na',nb',ac,bc,rfl,rfl,m1,m2,m3,m4⟩;dsimp only;refine Fj (bF (F5 b (nb'+1) m3) ?_);refine Fj (bF (F5 a na' m2) ?_);refine Fj (iY T (db' _ _) (da' _ _) ?_);cases hw:R b[nb'+1] a[na'] with
  | true=>
   dsimp only;simp only[if_true];refine Fj (bF (F5 a na' m2) ?_);have m5:=m1.gI m2 fun y hy=>W.le_trans (upB _ m3 y hy) (W.le_of_lt hw)
   rw[Nat.add_sub_cancel]
   by_cases q1:(na'==0)=true
   ·rw[if_pos q1];exact Fu ⟨rfl,.inl ⟨_,_,rfl,m5.en (by simpa using q1)⟩⟩
   ·rw[if_neg q1];obtain⟨na2,rfl⟩:∃ z,na'=z+1:=⟨na'-1,by simp at q1;lia⟩
    split
    ·exact Fu ⟨rfl,.inr ⟨_,na2,nb',_,_,rfl,m5,by lia,m3,by lia⟩⟩
    ·exact Fu ⟨_,na2,nb',_,_,rfl,rfl,m5,by lia,m3,by lia⟩
  | false=>
   dsimp only;simp only[Fo,if_false];refine Fj (bF (F5 b (nb'+1) m3) ?_);have m5:=m1.gQ m3 fun y hy=>W.le_trans (upA _ m2 y hy) hw
   rw[show nb'+2-1=nb'+1 by lia]
   by_cases q1:(nb'+1==1)=true
   ·rw[if_pos q1];exact Fu ⟨rfl,.inl ⟨_,_,rfl,m5.first (by simpa using q1) hb⟩⟩
   ·rw[if_neg q1];obtain⟨nb2,rfl⟩:∃ z,nb'=z+1:=⟨nb'-1,by simp at q1;lia⟩
    split
    ·exact Fu ⟨rfl,.inr ⟨_,na',nb2,_,_,rfl,m5,m2,by lia,by lia⟩⟩
    ·exact Fu ⟨_,na',nb2,_,_,rfl,rfl,m5,m2,by lia,by lia⟩
 ·rintro c st' ⟨out,ia',ib',ac,bc,rfl,rfl,m1,m2,m3,m4⟩;lia
 ·exact⟨_,na,nb,_,_,rfl,rfl,k1,k2,k3,by lia⟩
 rintro c st' ⟨rfl,⟨m,r,rfl,hm⟩|⟨out,na',nb',ac,bc,rfl,m1,m2,m3,m4⟩⟩
 ·exact Fu ⟨m,_,_,rfl,rfl,hm⟩
 dsimp only;refine Fj (wpS_lift (GO ⟨rfl,?_⟩));refine Fj (Gx (F8
  (I:=fun x' c st'=>∃ out n2 b2 mg ac bc g',c=(none,n2+1,b2+2,out,mg,ac,bc)/\st'=ST κ0 xs pd g'/\MHa R a b out (n2+1) (b2+2)/\n2<a.size/\b2+1<b.size/\n2+b2+x'<=na'+nb')
  (Q:=fun c st'=>∃ g',st'=ST κ0 xs pd g'/\((∃ m r,c=(some m,r)/\Mrg R a.toList b.toList m.toList)\/∃ out n2 b2 mg ac bc,c=(none,n2+1,b2+2,out,mg,ac,bc)/\MHa R a b out (n2+1) (b2+2)/\n2<a.size/\b2+1<b.size/\n2+b2<=na'+nb')) ?_ ?_ ?_) ?_)
 rotate_left
 ·rintro c st' ⟨out,ia',ib',mg,ac,bc,g',rfl,rfl,m1,m2,m3,m4⟩;lia
 ·exact⟨_,na',nb',_,_,_,_,rfl,rfl,m1,m2,m3,by lia⟩
 ·rintro c st' ⟨g',rfl,⟨m,r,rfl,hm⟩|⟨out,n2,b2,mg,ac,bc,rfl,n1,n2',n3,n4⟩⟩
  ·exact Fu ⟨m,_,_,rfl,rfl,hm⟩
  ·refine Fj (Gv ?_);exact Fu ⟨out,n2,b2,_,_,rfl,rfl,n1,n2',n3,by lia⟩
 rintro x' c st' _ hx' ⟨out,n2,b2,mg,ac,bc,g',rfl,rfl,n1,n2',n3,n4⟩;dsimp only;apply tE (x:=mg-1) mg
 case hG=>rfl
 intro mg';refine Fj (Gv ?_);refine Fj (bF (F5 b (b2+1) n3) ?_);refine Fj (gk T (db' _ n3) (by lia) (fun i=>elD a b[0] (0+i)) (fun i hi=>gO (by lia)) (fun i hi=>by rw[bN (by lia)];exact da' _ _) ?_ fun k hk1 hk2 hk3=>?_)
 ·intro i j hij hj hb';rw[bN (by lia)]at hb' ⊢
  exact gu W (gS W sa (by lia) (by lia)) hb'
 have pA:MHa R a b (out++(a.extract k (n2+1)).reverse) k (b2+2):=n1.o5 hk1 (by lia) fun j q q1 q2 y hy=>by
  have:=hk3 j q1 q2
  rw[bN (by lia),gY]at this
  simp only[Nat.zero_add,Bool.not_eq_false']at this;exact W.le_trans (upB (b2+1) n3 y hy) (W.le_of_lt this)
 have pB:∀ x∈a.toList.take k,R b[b2+1] x=false:=fun x hx=>by
  obtain⟨j,q,q1,rfl⟩:=kq hx
  have:=hk2 j q1
  rw[bN (by lia),gY]at this
  simpa using this
 dsimp only;generalize hac:n2+1-k=acv at ⊢;have hk1:k<=n2+1:=by lia
 clear hk2 hk3;have n4':=n4;generalize hN:n2+1=N at n1 pA hk1 hac ⊢;apply jv (fun o' i'=>MHa R a b o' i' (b2+2)/\(∀ x∈a.toList.take i',R b[b2+1] x=false)/\1<=i'/\i'<=N) out N
 case hN=>
  intro hk0;have hkN:k=N:=by lia
  rw[hkN]at pB;exact⟨n1,pB,by lia,E7 _⟩
 case hG=>
  intro hk0 hF
  by_cases r1:(k==0)=true
  ·rw[if_pos r1];exact Fu ⟨_,rfl,.inl ⟨_,_,rfl,pA.en (by simpa using r1)⟩⟩
  rw[if_neg r1];exact hF _ _ ⟨pA,pB,by simp at r1;lia,hk1⟩
 rintro o1 i0 ⟨p1,p3,p4,p6⟩;obtain⟨i1,rfl⟩:∃ z,i0=z+1:=⟨i0-1,by lia⟩
 clear pA pB;refine Fj (bF (F5 b (b2+1) n3) ?_);have p5:=p1.gQ n3 p3;rw[show b2+2-1=b2+1 by lia]
 by_cases t1:(b2+1==1)=true
 ·rw[if_pos t1];exact Fu ⟨_,rfl,.inl ⟨_,_,rfl,p5.first (by simpa using t1) hb⟩⟩
 rw[if_neg t1];obtain⟨b3,rfl⟩:∃ z,b2=z+1:=⟨b2-1,by simp at t1;lia⟩
 refine Fj (bF (F5 a i1 (by lia)) ?_)
 refine Fj (gk T (da' i1 (by lia)) (by lia) (fun i=>elD b b[0] (0+i)) (fun i hi=>gO (by lia)) (fun i hi=>by rw[bN (by lia)];exact db' _ _) ?_ fun k' e1 e2 e3=>?_)
 ·intro i j hij hj hb';rw[bN (by lia)]at hb' ⊢
  exact gu W (gS W sb (by lia) (by lia)) hb'
 have d1:MHa R a b (o1.push (b[b3+1+1]'(by lia))++(b.extract k' (b3+1+1)).reverse) (i1+1) k':=p5.nO (by lia) (by lia) fun j q q1 q2 y hy=>by
  have:=e3 j q1 q2
  rw[bN (by lia),gN]at this
  simp only[Nat.zero_add]at this;exact W.le_trans (upA i1 (by lia) y hy) this
 have d2:∀ y∈b.toList.take k',R (a[i1]'(by lia)) y=false:=fun y hy=>by
  obtain⟨j,q,q1,rfl⟩:=kq hy
  have:=e2 j q1
  rw[bN (by lia),gN]at this
  simp only[Nat.zero_add]at this;exact W.le_of_lt this
 dsimp only;have e1:k'<=b3+1+1:=by lia
 clear e2 e3;generalize hac2:b3+1+1-k'=bcv at ⊢;generalize hq2:o1.push (b[b3+1+1]'(by lia))=o2 at p5 d1 ⊢
 generalize hj2:b3+1+1=j2 at p5 d1 hac2 e1 ⊢;apply jv (fun o' j'=>MHa R a b o' (i1+1) j'/\(∀ y∈b.toList.take j',R (a[i1]'(by lia)) y=false)/\2<=j'/\j'<=j2) o2 j2
 case hN=>
  intro hk0';have hkJ:k'=j2:=by lia
  rw[hkJ]at d2;exact⟨p5,d2,by lia,E7 _⟩
 case hG=>
  intro hk0' hF
  by_cases t2:(k'==1)=true
  ·rw[if_pos t2];exact Fu ⟨_,rfl,.inl ⟨_,_,rfl,d1.first (by simpa using t2) hb⟩⟩
  rw[if_neg t2]
  by_cases t4:(k'==0)=true
  ·rw[if_pos t4];exact Fu ⟨_,rfl,.inl ⟨_,_,rfl,d1.dQ (by simpa using t4)⟩⟩
  rw[if_neg t4];exact hF _ _ ⟨d1,d2,by simp at t2 t4;lia,e1⟩
 rintro o3 j0 ⟨c1,c2,c4,c5⟩;obtain⟨j1,rfl⟩:∃ z,j0=z+2:=⟨j0-2,by lia⟩
 refine Fj (bF (F5 a i1 (by lia)) ?_)
 have c3:=c1.gI (by lia) c2
 rw[Nat.add_sub_cancel]
 by_cases t3:(i1==0)=true
 ·rw[if_pos t3];exact Fu ⟨_,rfl,.inl ⟨_,_,rfl,c3.en (by simpa using t3)⟩⟩
 ·rw[if_neg t3];obtain⟨i2,rfl⟩:∃ z,i1=z+1:=⟨i1-1,by simp at t3;lia⟩
  split
  ·exact Fu ⟨_,rfl,.inr ⟨_,i2,j1,_,_,_,rfl,c3,by lia,by lia,by lia⟩⟩
  ·exact Fu ⟨_,i2,j1,_,_,_,_,rfl,rfl,c3,by lia,by lia,by lia⟩
end
theorem tT{α:Type}{pre mid post:List α}(h:i<mid.length):(pre++(mid++post))[pre.length+i]? =some mid[i]:=by
 rw[F6 (by omega),Nat.add_sub_cancel_left,FX h,Fg h]
theorem so{sa:Nat}{post:List Keyed}:∀(m:List Keyed)(j:Nat)(xs:Array Keyed)(pre mid:List Keyed),xs.toList=pre++(mid++post)->mid.length=m.length->sa+j=pre.length →
  ((m.zipIdx j).foldl (fun a p=>a.setIfInBounds (sa+p.2) p.1) xs).toList=pre++(m++post)
 | [],j,xs,pre,mid,e,hl,hp=>by
  obtain rfl:mid=[]:=Gn.mp hl;exact e
 | p::m,j,xs,pre,[],e,hl,hp=>by simp at hl
 | p::m,j,xs,pre,c::mid,e,hl,hp=>by
  rw[List.zipIdx_cons,List.foldl_cons];have e2:(xs.setIfInBounds (sa+j) p).toList=(pre++[p])++(mid++post):=by
   rw[Array.toList_setIfInBounds,e,hp,List.set_append_right _ _ (E7 _),Nat.sub_self]
   simp
  rw[so m (j+1) _ (pre++[p]) mid e2 (by simpa using hl) (by simp;omega)]
  simp
theorem gD{R:Keyed->Keyed->Bool}(W:br R){a:List Keyed}(hs:a.Pairwise (fun x y=>R y x=false))(hij:i<=j)(hj:j<a.length):R (a[j]) (a[i]'(by omega))=false:=by
 rcases Nat.eq_or_lt_of_le hij with rfl|hlt
 ·exact W.ir _
 ·exact GX.mp hs i j (by omega) hj hlt
theorem dP{a:List Keyed}{d:Keyed}(h:i<a.length):a.getD i d=a[i]:=by
 rw[Gp,Fg h];rfl
theorem nR{a:List Keyed}{k:Nat}{x:Keyed}(hx:x∈a.drop k):∃ j,∃ q:j<a.length,k<=j/\x=a[j]:=by
 obtain⟨j,hj,rfl⟩:=Gj.mp hx;have hj':k+j<a.length:=by simp at hj;omega
 exact⟨k+j,hj',by omega,by simp⟩
theorem mK{a:List Keyed}{k:Nat}{x:Keyed}(hx:x∈a.take k):∃ j,∃ q:j<a.length,j<k/\x=a[j]:=by
 obtain⟨j,hj,rfl⟩:=Gj.mp hx;have hj':j<k/\j<a.length:=by simp at hj;omega
 exact⟨j,hj'.2,hj'.1,by simp⟩
section
variable {prog:Program}{w:World}{A:Around}{E:Value->Shared->Prop}{s:Shared}{κ0:SortKind}{dom:Keyed->Prop}{R:Keyed->Keyed->Bool}{xs:Array Keyed}{pd:Array (Nat×Nat×Nat)}{g:Nat}
theorem zY{σ:Type}{M:Model}{x:σ}{Q:PUnit->σ->Prop}{st:σ}(h:Q ⟨⟩ x):wpS M A E s (set x:StateT σ Sem PUnit) Q st:=by
 unfold wpS;rw[StateT.run_set];exact E6 ⟨rfl,h⟩
theorem C9(T:Told prog w A s κ0 dom R)(W:br R){pw sb pw':Nat}{pre Ra Rb post:List Keyed}(hx:xs.toList=pre++(Ra++(Rb++post)))(hd:∀ p∈xs.toList,dom p)(h1:pd[i]? =some (pre.length,Ra.length,pw))(h2:pd[i+1]? =some (sb,Rb.length,pw'))(hsb:sb=pre.length+Ra.length)(na:0<Ra.length)(nb:0<Rb.length)(sa:Ra.Pairwise (fun x y=>R y x=false))(sb':Rb.Pairwise (fun x y=>R y x=false)){Q:Bool->SortSt->Prop}(h:∀(M:List Keyed)(xs':Array Keyed) g',M.Perm (Ra++Rb)->M.Pairwise (fun x y=>R y x=false)->xs'.toList=pre++(M++post) →
   Q true (ST κ0 xs' ((pd.setIfInBounds i (pre.length,Ra.length+Rb.length,pw)).eraseIdxIfInBounds (i+1)) g')) :
  wpS (model prog w) A E s (mergeAt' i) Q (ST κ0 xs pd g):=by
 have hda:∀ j (q:j<Ra.length),dom Ra[j]:=fun j q=>hd _ (by rw[hx];simp)
 have hdb:∀ j (q:j<Rb.length),dom Rb[j]:=fun j q=>hd _ (by rw[hx];simp)
 have ea:∀ j (q:j<Ra.length),xs[pre.length+j]? =some Ra[j]:=fun j q=>by
  rw[<-FE,hx];exact tT q
 have eb:∀ j (q:j<Rb.length),xs[sb+j]? =some Rb[j]:=fun j q=>by
  rw[<-FE,hx,hsb,<-Fh,<-FW];exact tT q
 refine Fj (wpS_get ?_);dsimp only;rw[h1,h2];refine Fj (zY ?_);have ce:∀ j,j<Ra.length->xs[pre.length+j]? =some (Ra.getD j Rb[0]):=fun j q=>by rw[dP q];exact ea j q
 have cb:∀ j,j<Rb.length->xs[sb+j]? =some (Rb.getD j Rb[0]):=fun j q=>by rw[dP q];exact eb j q
 have ef:(∀ x∈Ra,∀ y∈Rb,R y x=false)->∀ g',Q true (ST κ0 xs ((pd.setIfInBounds i (pre.length,Ra.length+Rb.length,pw)).eraseIdxIfInBounds (i+1)) g'):=fun hc g'=>
  h (Ra++Rb) xs g' (List.Perm.refl _) (Gi.mpr ⟨sa,sb',hc⟩) (by rw[hx,FW])
 refine Fj (bF (eb 0 nb) ?_);refine Fj (gk T (hdb 0 nb) na (fun j=>Ra.getD j Rb[0]) ce (fun j q=>by rw[dP q];exact hda j q) ?_ fun k k1 k2 k3=>?_)
 ·intro x y hxy hy hb;rw[dP (by omega)]at hb ⊢
  exact gu W (gD W sa hxy hy) hb
 have k2':∀ j (q:j<Ra.length),j<k->R Rb[0] Ra[j]=false:=fun j q hj=>by
  have:=k2 j hj
  rw[dP q,gY]at this;simpa using this
 have k3':∀ j (q:j<Ra.length),k<=j->R Rb[0] Ra[j]=true:=fun j q hj=>by
  have:=k3 j hj q
  rw[dP q,gY]at this;simpa using this
 have lob:∀ y∈Rb,R y Rb[0]=false:=fun y hy=>by
  obtain⟨j,q,rfl⟩:=Gj.mp hy;exact gD W sb' (FG _) q
 dsimp only
 by_cases r1:(Ra.length-k==0)=true
 ·rw[if_pos r1];refine Fu (ef (fun x hx' y hy=>?_) g)
  obtain⟨j,q,rfl⟩:=Gj.mp hx';exact W.le_trans (k2' j q (by simp at r1;omega)) (lob y hy)
 rw[if_neg r1];have r1':k<Ra.length:=by simp at r1;omega
 have elast:xs[pre.length+k+(Ra.length-k)-1]? =some (Ra[Ra.length-1]'(by omega)):=by
  rw[show pre.length+k+(Ra.length-k)-1=pre.length+(Ra.length-1) by rw[Nat.add_assoc,Nat.add_sub_of_le (GL r1'),Nat.add_sub_assoc na]]
  exact ea _ _
 refine Fj (bF elast ?_);refine Fj (gk T (hda _ _) (by omega) (fun j=>Rb.getD j Rb[0]) cb (fun j q=>by rw[dP q];exact hdb j q) ?_ fun n n1 n2 n3=>?_)
 ·intro x y hxy hy hb;rw[dP (by omega)]at hb ⊢
  exact gu W (gD W sb' hxy hy) hb
 have n2':∀ j (q:j<Rb.length),j<n->R Rb[j] (Ra[Ra.length-1]'(by omega))=true:=fun j q hj=>by
  have:=n2 j hj
  rw[dP q,gN]at this;exact this
 have n3':∀ j (q:j<Rb.length),n<=j->R Rb[j] (Ra[Ra.length-1]'(by omega))=false:=fun j q hj=>by
  have:=n3 j hj q
  rw[dP q,gN]at this;exact this
 have hia:∀ x∈Ra,R (Ra[Ra.length-1]'(by omega)) x=false:=fun x hx'=>by
  obtain⟨j,q,rfl⟩:=Gj.mp hx';exact gD W sa (by omega) (by omega)
 dsimp only
 by_cases r2:(n==0)=true
 ·rw[if_pos r2];refine Fu (ef (fun x hx' y hy=>?_) g)
  obtain⟨j,q,rfl⟩:=Gj.mp hy;exact W.le_trans (hia x hx') (n3' j q (by simp at r2;omega))
 rw[if_neg r2];have r2':0<n:=by simp at r2;omega
 have ex:(xs.extract (pre.length+k) sb).toList=Ra.drop k:=by
  rw[GB,hx,GI,hsb,List.drop_append,List.drop_of_length_le (l:=pre) (by omega),List.nil_append,Nat.add_sub_cancel_left,List.drop_append_of_le_length (by omega),List.take_append_of_le_length (by simp;omega)]
  exact FQ (by simp;omega)
 have ey:(xs.extract sb (sb+n)).toList=Rb.take n:=by
  rw[GB,hx,GI,hsb,<-FW,List.drop_append_of_le_length (by simp),Nat.add_sub_cancel_left,<-Fh,List.drop_length,List.nil_append,List.take_append_of_le_length n1]
 generalize xs.extract (pre.length+k) sb=ax at ex ⊢;generalize xs.extract sb (sb+n)=by' at ey ⊢;have zx:ax.size=Ra.length-k:=by rw[<-Fx,ex];simp
 have zy:by'.size=n:=by rw[<-Fx,ey];simp;omega
 have dx:∀ p∈ax.toList,dom p:=fun p hp=>by
  rw[ex]at hp;exact hd p (by rw[hx];simp [List.mem_of_mem_drop hp])
 have dy:∀ p∈by'.toList,dom p:=fun p hp=>by
  rw[ey]at hp;exact hd p (by rw[hx];simp [List.mem_of_mem_take hp])
 have sx:ax.toList.Pairwise (fun x y=>R y x=false):=by rw[ex];exact sa.sublist (List.drop_sublist ..)
 have sy:by'.toList.Pairwise (fun x y=>R y x=false):=by rw[ey];exact sb'.sublist (List.take_sublist ..)
 have y0:by'[0]'(by omega)=Rb[0]:=by
  have:by'.toList[0]'(by simp;omega)=Rb[0]:=by simp only[ey,List.getElem_take]
  simpa using this
 have hx0:∀ x∈ax.toList,R x (by'[0]'(by omega))=false:=fun x hx'=>by
  rw[y0];rw[ex]at hx'
  obtain⟨j,q,q1,rfl⟩:=nR hx';exact W.le_of_lt (k3' j q q1)
 have hyl:∀ y∈by'.toList,∀ z∈ax.toList.getLast?,R z y=false:=fun y hy z hz=>by
  rw[ey]at hy;rw[ex,List.getLast?_drop,if_neg (by omega),List.getLast?_eq_getElem?,Fg (by omega)]at hz
  obtain rfl:=Fw hz;obtain⟨j,q,q1,rfl⟩:=mK hy;exact W.le_of_lt (n2' j q q1)
 have fin:∀(m:Array Keyed) g',Mrg R ax.toList by'.toList m.toList->Q true (ST κ0 (m.toList.zipIdx.foldl (fun a x=>a.setIfInBounds (pre.length+k+x.snd) x.fst) xs) ((pd.setIfInBounds i (pre.length,Ra.length+Rb.length,pw)).eraseIdxIfInBounds (i+1)) g'):=fun m g' hm=>by
  rw[ex,ey]at hm;have hml:m.toList.length=(Ra.drop k++Rb.take n).length:=hm.1.length_eq;have pmA:(Ra.take k++(m.toList++Rb.drop n)).Perm (Ra++Rb):=by
   have e1:(Ra.take k++((Ra.drop k++Rb.take n)++Rb.drop n))=Ra++Rb:=by
    rw[FW,F4,<-FW,F4]
   rw[<-e1]
   exact(hm.1.append_right _).append_left _
  have mm:∀ x∈m.toList,x∈Ra.drop k\/x∈Rb.take n:=fun x hx'=>Fs.mp (hm.1.mem_iff.mp hx')
  have sp:(Ra.take k++(m.toList++Rb.drop n)).Pairwise (fun x y=>R y x=false):=by
   refine Gi.mpr ⟨sa.sublist (List.take_sublist ..),Gi.mpr ⟨hm.2,sb'.sublist (List.drop_sublist ..),fun x hx' y hy=>?_⟩,fun x hx' y hy=>?_⟩
   ·obtain⟨j,q,q1,rfl⟩:=nR hy;rcases mm x hx' with hx'|hx'
    ·exact W.le_trans (hia x (List.mem_of_mem_drop hx')) (n3' j q q1)
    ·obtain⟨j',q',q1',rfl⟩:=mK hx';exact gD W sb' (by omega) q
   ·obtain⟨j,q,q1,rfl⟩:=mK hx';have viaB:∀ y∈Rb,R y Ra[j]=false:=fun y hy=>W.le_trans (k2' j q q1) (lob y hy)
    rcases Fs.mp hy with hy|hy
    ·rcases mm y hy with hy|hy
     ·obtain⟨j',q',q1',rfl⟩:=nR hy;exact gD W sa (by omega) q'
     ·exact viaB y (List.mem_of_mem_take hy)
    ·exact viaB y (List.mem_of_mem_drop hy)
  refine h _ _ g' pmA sp ?_;have ew:=so (sa:=pre.length+k) (post:=Rb.drop n++post) m.toList 0 xs (pre++Ra.take k) (Ra.drop k++Rb.take n) (by
   rw[hx];have e1:Ra=Ra.take k++Ra.drop k:=(F4 k Ra).symm;have e2:Rb=Rb.take n++Rb.drop n:=(F4 n Rb).symm
   conv=>lhs;rw[e1,e2]
   simp only[FW]) hml.symm (by simp;omega)
  rw[ew];simp only[FW]
 by_cases r3:Ra.length-k<=n
 ·rw[if_pos r3];refine Fj (D9 T W (by omega) (by omega) dx dy sx sy hx0 hyl fun m g' hm=>?_)
  refine Fj (Gv (Fj (wpS_get (Fu ?_))));exact fin m g' hm
 ·rw[if_neg r3];refine Fj (y6 T W (by omega) (by omega) dx dy sx sy hx0 hyl fun m g' hm=>?_)
  refine Fj (Gv (Fj (wpS_get (Fu ?_))));exact fin m g' hm
end
set_option maxHeartbeats 4000000
noncomputable abbrev eA (xs:Array Keyed)(k:Nat):Keyed:=elD xs (Value.none,Value.none) k
structure Sl (xs0 xs:Array Keyed)(lo:Nat):Prop where
 pm:xs.Perm xs0
 pr:∀ k,k<lo->xs[k]? = xs0[k]?
theorem Sl.refl{xs:Array Keyed}:Sl xs xs lo:=⟨Array.Perm.refl _,fun _ _=>rfl⟩
theorem Sl.size{xs0 xs:Array Keyed}(h:Sl xs0 xs lo):xs.size=xs0.size:=h.pm.size_eq
theorem Sl.dom{xs0 xs:Array Keyed}(h:Sl xs0 xs lo){dom:Keyed->Prop}(hd:∀ p∈xs0.toList,dom p):∀ p∈xs.toList,dom p:=fun p hp=>
 hd p ((GS.mp h.pm).mem_iff.mp hp)
theorem Sl.mirror{xs0 xs:Array Keyed}(h:Sl xs0 xs lo)(hi:lo<=i)(hj:j<=xs.size):Sl xs0 (mirror xs i j ((j-i) / 2)) lo:=
 ⟨(mirror_perm _ _ _ _).trans h.pm,fun k hk=>by rw[getElem?_mirror_all hj,if_neg (by lia)];exact h.pr k hk⟩
theorem Sl.bubble{xs0 xs:Array Keyed}{src d:Nat}(h:Sl xs0 xs lo)(hi:lo+d<=src)(hj:src<xs.size):Sl xs0 (bubble xs src d) lo:=
 ⟨(bubble_perm _ _ _).trans h.pm,fun k hk=>by rw[getElem?_bubble hj d (by lia),if_neg (by lia),if_neg (by lia)];exact h.pr k hk⟩
theorem jQ{xs:Array Keyed}(hj:j<=xs.size)(k:Nat):eA (mirror xs i j ((j-i) / 2)) k=if i<=k/\k<j then eA xs (i+j-1-k) else eA xs k:=by
 show((mirror xs i j ((j-i) / 2))[k]?).getD _=_
 rw[getElem?_mirror_all hj]
 split <;> rfl
theorem sT{xs:Array Keyed}{src d:Nat}(hs:src<xs.size)(hd:d<=src)(k:Nat):eA (bubble xs src d) k=if k=src-d then eA xs src else if src-d<k/\k<=src then eA xs (k-1) else eA xs k:=by
 show((bubble xs src d)[k]?).getD _=_
 rw[getElem?_bubble hs d hd]
 split
 ·rfl
 ·split <;> rfl
noncomputable def Asc (R:Keyed->Keyed->Bool)(xs:Array Keyed)(lo n:Nat):Prop:=∀ i j,i<=j->j<n->R (eA xs (lo+j)) (eA xs (lo+i))=false
noncomputable def Dsc (R:Keyed->Keyed->Bool)(xs:Array Keyed)(lo n:Nat):Prop:=∀ i j,i<=j->j<n->R (eA xs (lo+i)) (eA xs (lo+j))=false
noncomputable def Alk (R:Keyed->Keyed->Bool)(xs:Array Keyed)(lo p q:Nat):Prop:=∀ i j,p<=i->i<q->p<=j->j<q->R (eA xs (lo+i)) (eA xs (lo+j))=false
theorem Asc.one{R:Keyed->Keyed->Bool}(W:br R){xs:Array Keyed}:Asc R xs lo 1:=fun i j h1 h2=>by
 have:i=j:=by lia
 subst this;exact W.ir _
theorem Asc.more{R:Keyed->Keyed->Bool}(W:br R){xs:Array Keyed}{n:Nat}(h:Asc R xs lo n)(h1:1<=n)(hn:R (eA xs (lo+n)) (eA xs (lo+n-1))=false):Asc R xs lo (n+1):=fun i j hij hj=>by
 by_cases q:j<n
 ·exact h i j hij q
 ·obtain rfl:j=n:=by lia
  by_cases q':i=j
  ·subst q';exact W.ir _
  ·have:=h i (j-1) (by lia) (by lia)
   rw[show lo+(j-1)=lo+j-1 by lia]at this
   exact W.le_trans this hn
theorem Dsc.more{R:Keyed->Keyed->Bool}(W:br R){xs:Array Keyed}{n:Nat}(h:Dsc R xs lo n)(h1:1<=n)(hn:R (eA xs (lo+n-1)) (eA xs (lo+n))=false):Dsc R xs lo (n+1):=fun i j hij hj=>by
 by_cases q:j<n
 ·exact h i j hij q
 ·obtain rfl:j=n:=by lia
  by_cases q':i=j
  ·subst q';exact W.ir _
  ·have:=h i (j-1) (by lia) (by lia)
   rw[show lo+(j-1)=lo+j-1 by lia]at this
   exact W.le_trans hn this
theorem Dsc.turn{R:Keyed->Keyed->Bool}{xs:Array Keyed}{n p q a b:Nat}(h:Dsc R xs lo n)(hb:Alk R xs lo p q)(hpq:p<=q)(hq:q<=n)(hs:lo+n<=xs.size)(ea:a=lo+p)(eb:b=lo+q) :
  Dsc R (mirror xs a b ((b-a) / 2)) lo n:=by
 subst ea eb;intro i j hij hj;rw[jQ (by lia),jQ (by lia)]
 by_cases c1:p<=i/\i<q
 ·rw[if_pos (by lia),show lo+p+(lo+q)-1-(lo+i)=lo+(p+q-1-i) by lia]
  by_cases c2:p<=j/\j<q
  ·rw[if_pos (by lia),show lo+p+(lo+q)-1-(lo+j)=lo+(p+q-1-j) by lia]
   exact hb _ _ (by lia) (by lia) (by lia) (by lia)
  ·rw[if_neg (by lia)]
   exact h _ _ (by lia) hj
 ·rw[if_neg (by lia)]
  by_cases c2:p<=j/\j<q
  ·rw[if_pos (by lia),show lo+p+(lo+q)-1-(lo+j)=lo+(p+q-1-j) by lia]
   exact h _ _ (by lia) (by lia)
  ·rw[if_neg (by lia)]
   exact h _ _ hij hj
theorem Dsc.over{R:Keyed->Keyed->Bool}{xs:Array Keyed}{n:Nat}(h:Dsc R xs lo n)(hs:lo+n<=xs.size):Asc R (mirror xs lo (lo+n) ((lo+n-lo) / 2)) lo n:=by
 intro i j hij hj;rw[jQ (by lia),jQ (by lia),if_pos (by lia),if_pos (by lia),show lo+(lo+n)-1-(lo+i)=lo+(n-1-i) by lia,show lo+(lo+n)-1-(lo+j)=lo+(n-1-j) by lia]
 exact h _ _ (by lia) (by lia)
section
variable {prog:Program}{w:World}{A:Around}{E:Value->Shared->Prop}{s:Shared}{κ0:SortKind}{dom:Keyed->Prop}{R:Keyed->Keyed->Bool}{xs xs0:Array Keyed}{pd:Array (Nat×Nat×Nat)}{g:Nat}
theorem er(T:Told prog w A s κ0 dom R)(hd:∀ p∈xs.toList,dom p)(hi:i<xs.size)(hj:j<xs.size){Q:Option Bool->SortSt->Prop}(h:Q (some (R (eA xs i) (eA xs j))) (ST κ0 xs pd g)) :
  wpS (model prog w) A E s (ltAt' i j) Q (ST κ0 xs pd g):=
 zO T (gO hi) (gO hj) (hd _ (by rw[bN hi];simp)) (hd _ (by rw[bN hj];simp)) h
theorem AH(T:Told prog w A s κ0 dom R)(W:br R)(hd:∀ p∈xs.toList,dom p){nrem:Nat}(hn:lo+nrem<=xs.size)(h1:1<=nrem){Q:Option Nat->SortSt->Prop}(h:∀ m xs',1<=m->m<=nrem->Sl xs xs' lo->Asc R xs' lo m->Q (some m) (ST κ0 xs' pd g)) :
  wpS (model prog w) A E s (countRun' lo nrem) Q (ST κ0 xs pd g):=by
 refine Fj (Gx (F8 (I:=fun x c st'=>c=(none,x)/\st'=ST κ0 xs pd g/\Asc R xs lo x)
  (Q:=fun c st'=>st'=ST κ0 xs pd g/\∃ n,c=(none,n)/\1<=n/\n<=nrem/\Asc R xs lo n/\(n=nrem\/R (eA xs (lo+n)) (eA xs (lo+n-1))=true)) ?_ ?_ ?_) ?_)
 ·rintro x c st' hx1 hx2 ⟨rfl,rfl,k1⟩;dsimp only;refine Fj (er T hd (by lia) (by lia) ?_)
  cases hw:R (eA xs (lo+x)) (eA xs (lo+x-1)) with
  | true=>exact Fu ⟨rfl,x,rfl,hx1,by lia,k1,.inr hw⟩
  | false=>exact Fu ⟨rfl,rfl,k1.more W hx1 hw⟩
 ·rintro c st' ⟨rfl,rfl,k1⟩;rw[show max 1 nrem=nrem by lia]at k1 ⊢
  exact⟨rfl,nrem,rfl,h1,E7 _,k1,.inl rfl⟩
 ·exact⟨rfl,rfl,Asc.one W⟩
 rintro c st' ⟨rfl,n,rfl,n1,n2,n3,n4⟩;dsimp only
 by_cases hnn:(n==nrem)=true
 ·rw[if_pos hnn];exact Fu (h n xs n1 n2 .refl n3)
 rw[if_neg hnn];have hnn':n<nrem:=by simp at hnn;lia
 have hlt:=n4.resolve_left (by lia)
 by_cases hgt:n > 1
 ·rw[if_pos hgt];refine Fj (er T hd (by lia) (by lia) ?_)
  cases hr:R (eA xs lo) (eA xs (lo+n-1)) with
  | true=>
   exact Fu (h n xs n1 n2 .refl n3)
  | false=>
   dsimp only;simp only[Fo,if_false];have alk:Alk R xs lo 0 n:=fun i j _ hi _ hj=>by
    have a1:=n3 0 i (FG _) hi;have a2:=n3 j (n-1) (by lia) (by lia)
    rw[show lo+(n-1)=lo+n-1 by lia]at a2
    rw[Nat.add_zero]at a1;have a3:=n3 0 j (FG _) hj;have a4:=n3 i (n-1) (by lia) (by lia)
    rw[show lo+(n-1)=lo+n-1 by lia]at a4
    rw[Nat.add_zero]at a3;exact W.le_trans a2 (W.le_trans hr a1)
   refine Fj (Gv ?_);have D0:Dsc R xs lo n:=fun i j hij hj=>alk i j (by lia) (by lia) (by lia) hj
   have S:Sl xs (mirror xs lo (lo+n) ((lo+n-lo) / 2)) lo:=Sl.refl.mirror (E7 _) (by lia)
   have D:Dsc R (mirror xs lo (lo+n) ((lo+n-lo) / 2)) lo (n+1):=Dsc.turn (p:=0) (q:=n) (D0.more W n1 (W.le_of_lt hlt)) alk (by lia) (by lia) (by lia) rfl rfl
   refine Fj (wpS_lift (GO ⟨rfl,?_⟩));refine Fj (Gx (F8 (I:=fun x c st'=>∃ neq zs,c=(none,x,neq)/\st'=ST κ0 zs pd g/\Sl xs zs lo/\Dsc R zs lo x/\neq+1<=x/\Alk R zs lo (x-(neq+1)) x)
    (Q:=fun c st'=>∃ m neq zs,c=(none,m,neq)/\st'=ST κ0 zs pd g/\n+1<=m/\m<=nrem/\Sl xs zs lo/\Dsc R zs lo m/\neq+1<=m/\Alk R zs lo (m-(neq+1)) m) ?_ ?_ ?_) ?_)
   ·rintro x c st' hx1 hx2 ⟨neq,zs,rfl,rfl,S',D',q1,q2⟩;have hz:=S'.size;dsimp only;refine Fj (er T (S'.dom hd) (by lia) (by lia) ?_)
    cases hw:R (eA zs (lo+x)) (eA zs (lo+x-1)) with
    | true=>
     dsimp only;simp only[if_true];have D2:=D'.more W (by lia) (W.le_of_lt hw)
     by_cases hq:neq > 0
     ·rw[if_pos hq];refine Fj (Gv (Fu ⟨0,_,rfl,rfl,S'.mirror (by lia) (by lia),D2.turn q2 (by lia) (by lia) (by lia) (by lia) rfl,by lia,fun i j a1 a2 a3 a4=>?_⟩))
      obtain rfl:i=x:=by lia
      obtain rfl:j=i:=by lia
      exact W.ir _
     ·rw[if_neg hq];refine Fu ⟨0,zs,rfl,rfl,S',D2,by lia,fun i j a1 a2 a3 a4=>?_⟩
      obtain rfl:i=x:=by lia
      obtain rfl:j=i:=by lia
      exact W.ir _
    | false=>
     dsimp only;simp only[Fo,if_false];refine Fj (er T (S'.dom hd) (by lia) (by lia) ?_)
     cases hw2:R (eA zs (lo+x-1)) (eA zs (lo+x)) with
     | true=>exact Fu ⟨x,neq,zs,rfl,rfl,hx1,by lia,S',D',q1,q2⟩
     | false=>
      refine Fu ⟨neq+1,zs,rfl,rfl,S',D'.more W (by lia) hw2,by lia,fun i j a1 a2 a3 a4=>?_⟩
      have e1:lo+x-1=lo+(x-1):=by lia
      rw[e1]at hw hw2
      by_cases b1:i=x
      ·subst b1
       by_cases b2:j=i
       ·subst b2;exact W.ir _
       ·exact W.le_trans (q2 (i-1) j (by lia) (by lia) (by lia) (by lia)) hw
      ·by_cases b2:j=x
       ·subst b2;exact W.le_trans hw2 (q2 i (j-1) (by lia) (by lia) (by lia) (by lia))
       ·exact q2 i j (by lia) (by lia) (by lia) (by lia)
   ·rintro c st' ⟨neq,zs,rfl,rfl,S',D',q1,q2⟩;rw[show max (n+1) nrem=nrem by lia]at *
    exact⟨nrem,neq,zs,rfl,rfl,by lia,E7 _,S',D',q1,q2⟩
   ·refine⟨0,_,rfl,rfl,S,D,by lia,fun i j a1 a2 a3 a4=>?_⟩
    obtain rfl:i=n:=by lia
    obtain rfl:j=i:=by lia
    exact W.ir _
   rintro c st' ⟨m,neq,zs,rfl,rfl,m1,m2,S2,D2,q1,q2⟩;dsimp only;have hz:=S2.size
   by_cases hq:neq > 0
   case' pos=>
    rw[if_pos hq];refine Fj (Gv ?_);have D3:Dsc R (mirror zs (lo+m-(neq+1)) (lo+m) ((lo+m-(lo+m-(neq+1))) / 2)) lo m:=D2.turn q2 (by lia) (by lia) (by lia) (by lia) rfl
    have S3:Sl xs (mirror zs (lo+m-(neq+1)) (lo+m) ((lo+m-(lo+m-(neq+1))) / 2)) lo:=S2.mirror (by lia) (by lia)
    show wpS _ _ _ _ _ _ (ST κ0 (mirror zs (lo+m-(neq+1)) (lo+m) ((lo+m-(lo+m-(neq+1))) / 2)) pd g)
    generalize mirror zs (lo+m-(neq+1)) (lo+m) ((lo+m-(lo+m-(neq+1))) / 2)=y3 at D3 S3 ⊢
   case' neg=>
    rw[if_neg hq];have D3:=D2;have S3:=S2;generalize zs=y3 at D3 S3 ⊢
   all_goals
    refine Fj (Gv ?_);have hz3:=S3.size;have A4:=D3.over (by lia)
    have S4:=S3.mirror (i:=lo) (j:=lo+m) (E7 _) (by lia)
    show wpS _ _ _ _ _ _ (ST κ0 (mirror y3 lo (lo+m) ((lo+m-lo) / 2)) pd g)
    generalize mirror y3 lo (lo+m) ((lo+m-lo) / 2)=y4 at A4 S4 ⊢;have hz4:=S4.size;refine Fj (Gx (F8 (I:=fun x c st'=>c=(none,x)/\st'=ST κ0 y4 pd g/\Asc R y4 lo x)
     (Q:=fun c st'=>st'=ST κ0 y4 pd g/\∃ n,c=(none,n)/\1<=n/\n<=nrem/\Asc R y4 lo n) ?_ ?_ ⟨rfl,rfl,A4⟩) ?_)
    ·rintro x c st' hx1 hx2 ⟨rfl,rfl,k1⟩;dsimp only;refine Fj (er T (S4.dom hd) (by lia) (by lia) ?_)
     cases hw:R (eA y4 (lo+x)) (eA y4 (lo+x-1)) with
     | true=>exact Fu ⟨rfl,x,rfl,by lia,by lia,k1⟩
     | false=>exact Fu ⟨rfl,rfl,k1.more W (by lia) hw⟩
    ·rintro c st' ⟨rfl,rfl,k1⟩;rw[show max m nrem=nrem by lia]at k1 ⊢
     exact⟨rfl,nrem,rfl,by lia,E7 _,k1⟩
    rintro c st' ⟨rfl,n',rfl,b1,b2,b3⟩;exact Fu (h n' _ b1 b2 S4 b3)
 ·rw[if_neg hgt];have hn1:n=1:=by lia
  have S:Sl xs xs lo:=.refl;have D:Dsc R xs lo (n+1):=by
   refine Dsc.more W (fun i j hij hj=>?_) (by lia) (W.le_of_lt hlt)
   have:i=j:=by lia
   subst this;exact W.ir _
  refine Fj (wpS_lift (GO ⟨rfl,?_⟩));refine Fj (Gx (F8 (I:=fun x c st'=>∃ neq zs,c=(none,x,neq)/\st'=ST κ0 zs pd g/\Sl xs zs lo/\Dsc R zs lo x/\neq+1<=x/\Alk R zs lo (x-(neq+1)) x)
   (Q:=fun c st'=>∃ m neq zs,c=(none,m,neq)/\st'=ST κ0 zs pd g/\n+1<=m/\m<=nrem/\Sl xs zs lo/\Dsc R zs lo m/\neq+1<=m/\Alk R zs lo (m-(neq+1)) m) ?_ ?_ ?_) ?_)
  ·rintro x c st' hx1 hx2 ⟨neq,zs,rfl,rfl,S',D',q1,q2⟩;have hz:=S'.size;dsimp only;refine Fj (er T (S'.dom hd) (by lia) (by lia) ?_)
   cases hw:R (eA zs (lo+x)) (eA zs (lo+x-1)) with
   | true=>
    dsimp only;simp only[if_true];have D2:=D'.more W (by lia) (W.le_of_lt hw)
    by_cases hq:neq > 0
    ·rw[if_pos hq];refine Fj (Gv (Fu ⟨0,_,rfl,rfl,S'.mirror (by lia) (by lia),D2.turn q2 (by lia) (by lia) (by lia) (by lia) rfl,by lia,fun i j a1 a2 a3 a4=>?_⟩))
     obtain rfl:i=x:=by lia
     obtain rfl:j=i:=by lia
     exact W.ir _
    ·rw[if_neg hq];refine Fu ⟨0,zs,rfl,rfl,S',D2,by lia,fun i j a1 a2 a3 a4=>?_⟩
     obtain rfl:i=x:=by lia
     obtain rfl:j=i:=by lia
     exact W.ir _
   | false=>
    dsimp only;simp only[Fo,if_false];refine Fj (er T (S'.dom hd) (by lia) (by lia) ?_)
    cases hw2:R (eA zs (lo+x-1)) (eA zs (lo+x)) with
    | true=>exact Fu ⟨x,neq,zs,rfl,rfl,hx1,by lia,S',D',q1,q2⟩
    | false=>
     refine Fu ⟨neq+1,zs,rfl,rfl,S',D'.more W (by lia) hw2,by lia,fun i j a1 a2 a3 a4=>?_⟩
     have e1:lo+x-1=lo+(x-1):=by lia
     rw[e1]at hw hw2
     by_cases b1:i=x
     ·subst b1
      by_cases b2:j=i
      ·subst b2;exact W.ir _
      ·exact W.le_trans (q2 (i-1) j (by lia) (by lia) (by lia) (by lia)) hw
     ·by_cases b2:j=x
      ·subst b2;exact W.le_trans hw2 (q2 i (j-1) (by lia) (by lia) (by lia) (by lia))
      ·exact q2 i j (by lia) (by lia) (by lia) (by lia)
  ·rintro c st' ⟨neq,zs,rfl,rfl,S',D',q1,q2⟩;rw[show max (n+1) nrem=nrem by lia]at *
   exact⟨nrem,neq,zs,rfl,rfl,by lia,E7 _,S',D',q1,q2⟩
  ·refine⟨0,_,rfl,rfl,S,D,by lia,fun i j a1 a2 a3 a4=>?_⟩
   obtain rfl:i=n:=by lia
   obtain rfl:j=i:=by lia
   exact W.ir _
  rintro c st' ⟨m,neq,zs,rfl,rfl,m1,m2,S2,D2,q1,q2⟩;dsimp only;have hz:=S2.size
  by_cases hq:neq > 0
  case' pos=>
   rw[if_pos hq];refine Fj (Gv ?_);have D3:Dsc R (mirror zs (lo+m-(neq+1)) (lo+m) ((lo+m-(lo+m-(neq+1))) / 2)) lo m:=D2.turn q2 (by lia) (by lia) (by lia) (by lia) rfl
   have S3:Sl xs (mirror zs (lo+m-(neq+1)) (lo+m) ((lo+m-(lo+m-(neq+1))) / 2)) lo:=S2.mirror (by lia) (by lia)
   show wpS _ _ _ _ _ _ (ST κ0 (mirror zs (lo+m-(neq+1)) (lo+m) ((lo+m-(lo+m-(neq+1))) / 2)) pd g)
   generalize mirror zs (lo+m-(neq+1)) (lo+m) ((lo+m-(lo+m-(neq+1))) / 2)=y3 at D3 S3 ⊢
  case' neg=>
   rw[if_neg hq];have D3:=D2;have S3:=S2;generalize zs=y3 at D3 S3 ⊢
  all_goals
   refine Fj (Gv ?_);have hz3:=S3.size;have A4:=D3.over (by lia)
   have S4:=S3.mirror (i:=lo) (j:=lo+m) (E7 _) (by lia)
   show wpS _ _ _ _ _ _ (ST κ0 (mirror y3 lo (lo+m) ((lo+m-lo) / 2)) pd g)
   generalize mirror y3 lo (lo+m) ((lo+m-lo) / 2)=y4 at A4 S4 ⊢;have hz4:=S4.size;refine Fj (Gx (F8 (I:=fun x c st'=>c=(none,x)/\st'=ST κ0 y4 pd g/\Asc R y4 lo x)
    (Q:=fun c st'=>st'=ST κ0 y4 pd g/\∃ n,c=(none,n)/\1<=n/\n<=nrem/\Asc R y4 lo n) ?_ ?_ ⟨rfl,rfl,A4⟩) ?_)
   ·rintro x c st' hx1 hx2 ⟨rfl,rfl,k1⟩;dsimp only;refine Fj (er T (S4.dom hd) (by lia) (by lia) ?_)
    cases hw:R (eA y4 (lo+x)) (eA y4 (lo+x-1)) with
    | true=>exact Fu ⟨rfl,x,rfl,by lia,by lia,k1⟩
    | false=>exact Fu ⟨rfl,rfl,k1.more W (by lia) hw⟩
   ·rintro c st' ⟨rfl,rfl,k1⟩;rw[show max m nrem=nrem by lia]at k1 ⊢
    exact⟨rfl,nrem,rfl,by lia,E7 _,k1⟩
   rintro c st' ⟨rfl,n',rfl,b1,b2,b3⟩;exact Fu (h n' _ b1 b2 S4 b3)
end
set_option maxHeartbeats 4000000
section
variable {prog:Program}{w:World}{A:Around}{E:Value->Shared->Prop}{s:Shared}{κ0:SortKind}{dom:Keyed->Prop}{R:Keyed->Keyed->Bool}{xs xs0:Array Keyed}{pd:Array (Nat×Nat×Nat)}{g:Nat}
theorem Sl.trans{a b c:Array Keyed}(h1:Sl a b lo)(h2:Sl b c lo):Sl a c lo:=⟨h2.pm.trans h1.pm,fun k hk=>(h2.pr k hk).trans (h1.pr k hk)⟩
theorem xv(T:Told prog w A s κ0 dom R)(W:br R)(hd:∀ p∈xs.toList,dom p){n ok:Nat}(hn:lo+n<=xs.size)(hok:ok<=n)(ha:Asc R xs lo ok){Q:Bool->SortSt->Prop}(h:∀ xs',Sl xs xs' lo->Asc R xs' lo n->Q true (ST κ0 xs' pd g)) :
  wpS (model prog w) A E s (binarySort' lo n ok) Q (ST κ0 xs pd g):=by
 refine Fj (Gx (F8 (I:=fun k c st'=>c=(none,())/\∃ ys,st'=ST κ0 ys pd g/\Sl xs ys lo/\Asc R ys lo (min k n))
  (Q:=fun c st'=>c=(none,())/\∃ ys,st'=ST κ0 ys pd g/\Sl xs ys lo/\Asc R ys lo n) ?_ ?_ ?_) ?_)
 ·rintro k c st' hk1 hk2 ⟨rfl,ys,rfl,S,As⟩;rw[Nat.min_eq_left (GL hk2)]at As;have hz:=S.size;refine Fj (Gx (F8 (I:=fun x c st'=>st'=ST κ0 ys pd g/\∃ l r,c=(none,l,r)/\l<=r/\r<=k/\r-l<=k-x/\(∀ i,i<l->R (eA ys (lo+k)) (eA ys (lo+i))=false)/\(∀ i,r<=i->i<k->R (eA ys (lo+k)) (eA ys (lo+i))=true))
   (Q:=fun c st'=>st'=ST κ0 ys pd g/\∃ l r,c=(none,l,r)/\l<=k/\(∀ i,i<l->R (eA ys (lo+k)) (eA ys (lo+i))=false)/\(∀ i,l<=i->i<k->R (eA ys (lo+k)) (eA ys (lo+i))=true)) ?_ ?_ ?_) ?_)
  ·rintro x c st' _ hx ⟨rfl,l,r,rfl,h1,h2,h3,h4,h5⟩;dsimp only
   by_cases hge:l ≥ r
   ·rw[if_pos hge];obtain rfl:l=r:=by lia
    exact Fu ⟨rfl,l,l,rfl,h2,h4,h5⟩
   ·rw[if_neg hge];refine Fj (er T (S.dom hd) (by lia) (by lia) ?_)
    cases hw:R (eA ys (lo+k)) (eA ys (lo+(l+r) / 2)) with
    | true=>
     refine Fu ⟨rfl,l,(l+r) / 2,rfl,by lia,by lia,by lia,h4,fun i q1 q2=>?_⟩
     exact W.w8 hw (As ((l+r) / 2) i q1 q2)
    | false=>
     refine Fu ⟨rfl,(l+r) / 2+1,r,rfl,by lia,h2,by lia,fun i q=>?_,h5⟩
     exact W.le_trans (As i ((l+r) / 2) (by lia) (by lia)) hw
  ·rintro c st' ⟨rfl,l,r,rfl,h1,h2,h3,h4,h5⟩;obtain rfl:l=r:=by lia
   exact⟨rfl,l,l,rfl,h2,h4,h5⟩
  ·exact⟨rfl,0,k,rfl,by lia,by lia,by lia,fun i q=>by lia,fun i q1 q2=>by lia⟩
  ·rintro c st' ⟨rfl,l,r,rfl,h2,h4,h5⟩;dsimp only;refine Fj (Gv (Fu ⟨rfl,bubble ys (lo+k) (lo+k-(lo+l)),rfl,S.trans (Sl.refl.bubble (by lia) (by lia)),?_⟩))
   rw[show min (k+1) n=k+1 by lia]
   intro i j hij hj;rw[sT (by lia) (by lia),sT (by lia) (by lia),show lo+k-(lo+k-(lo+l))=lo+l by lia]
   have e1:∀ z,l<z->lo+z-1=lo+(z-1):=fun z hz=>by lia
   by_cases c1:i=l
   ·rw[if_pos (show lo+i=lo+l by lia)]
    by_cases c2:j=l
    ·rw[if_pos (by lia)];exact W.ir _
    ·rw[if_neg (by lia),if_pos (by lia),e1 j (by lia)]
     exact W.le_of_lt (h5 (j-1) (by lia) (by lia))
   ·rw[if_neg (show ¬ lo+i=lo+l by lia)]
    by_cases c2:j=l
    ·rw[if_pos (by lia),if_neg (by lia)]
     exact h4 i (by lia)
    ·rw[if_neg (show ¬ lo+j=lo+l by lia)]
     by_cases c3:l<i
     ·rw[if_pos (by lia),if_pos (by lia),e1 i c3,e1 j (by lia)]
      exact As _ _ (by lia) (by lia)
     ·rw[if_neg (show ¬ (lo+l<lo+i/\lo+i<=lo+k) by lia)]
      by_cases c4:l<j
      ·rw[if_pos (by lia),e1 j c4]
       exact As _ _ (by lia) (by lia)
      ·rw[if_neg (by lia)]
       exact As _ _ hij (by lia)
 ·rintro c st' ⟨rfl,ys,rfl,S,As⟩;rw[show min (max (max ok 1) n) n=n by lia]at As
  exact⟨rfl,ys,rfl,S,As⟩
 ·refine⟨rfl,xs,rfl,.refl,fun i j hij hj=>?_⟩
  by_cases q:j<ok
  ·exact ha i j hij q
  ·obtain rfl:i=j:=by lia
   exact W.ir _
 ·rintro c st' ⟨rfl,ys,rfl,S,As⟩;exact Fu (h ys S As)
noncomputable def starts:Nat->List (List Keyed)->List (Nat×Nat)
 | _,[]=>[]
 | s,r::rs=>(s,r.length)::starts (s+r.length) rs
theorem starts_app:∀(s:Nat)(a b:List (List Keyed)),starts s (a++b)=starts s a++starts (s+a.flatten.length) b
 | s,[],b=>by simp [starts]
 | s,r::a,b=>by
  simp only[List.cons_append,starts,starts_app (s+r.length) a b]
  simp [Nat.add_assoc]
theorem md:∀(s:Nat)(a:List (List Keyed)),(starts s a).length=a.length
 | s,[]=>rfl
 | s,r::a=>by simp [starts,md (s+r.length) a]
structure Runs (R:Keyed->Keyed->Bool)(xs0 xs:Array Keyed)(pd:Array (Nat×Nat×Nat))(lo:Nat)(runs:List (List Keyed))(rest:List Keyed):Prop where
 ls:xs.toList=runs.flatten++rest
 pm:xs.Perm xs0
 ln:runs.flatten.length=lo
 ne:∀ r∈runs,0<r.length
 up:∀ r∈runs,r.Pairwise (fun x y=>R y x=false)
 pd:pd.toList.map (fun t=>(t.1,t.2.1))=starts 0 runs
theorem Runs.size{runs:List (List Keyed)}{rest:List Keyed}(h:Runs R xs0 xs pd lo runs rest):pd.size=runs.length:=by
 have:=congrArg List.length h.pd
 rw[E3,md]at this;simpa using this
theorem Runs.mergeAt(T:Told prog w A s κ0 dom R)(W:br R)(hd:∀ p∈xs0.toList,dom p){runs:List (List Keyed)}{rest:List Keyed}(h:Runs R xs0 xs pd lo runs rest)(hi:i+1<runs.length){Q:Bool->SortSt->Prop}(hq:∀ xs' pd' g' runs',Runs R xs0 xs' pd' lo runs' rest->runs'.length+1=runs.length->Q true (ST κ0 xs' pd' g')) :
  wpS (model prog w) A E s (mergeAt' i) Q (ST κ0 xs pd g):=by
 obtain⟨P,Ra,Rb,S,rfl,hP⟩:∃ P Ra Rb S,runs=P++Ra::Rb::S/\P.length=i:=by
  refine⟨runs.take i,runs[i],runs[i+1],runs.drop (i+2),?_,by simp;lia⟩
  have e1:=Gr (show i<runs.length by lia)
  have e2:=Gr hi;rw[<-e2,<-e1,F4]
 have hpd:=h.pd;rw[starts_app]at hpd;obtain⟨X,Y,eX,e1,e2⟩:=List.map_eq_append_iff.mp hpd;simp only[starts,Nat.zero_add]at e2;obtain⟨⟨a1,a2,pw⟩,Y,rfl,e3,e4⟩:=List.map_eq_cons_iff.mp e2;obtain⟨⟨b1,b2,pw'⟩,Z,rfl,e5,e6⟩:=List.map_eq_cons_iff.mp e4;obtain⟨rfl,rfl⟩:=Prod.mk.inj e3;obtain⟨rfl,rfl⟩:=Prod.mk.inj e5;have hX:X.length=i:=by
  have:=congrArg List.length e1
  rw[E3,md]at this;lia
 have hl:xs.toList=P.flatten++(Ra++(Rb++(S.flatten++rest))):=by
  rw[h.ls];simp [FW]
 refine C9 T W (pw:=pw) (pw':=pw') hl (fun p hp=>hd p ((GS.mp h.pm).mem_iff.mp hp)) ?_ ?_ rfl (h.ne _ (by simp)) (h.ne _ (by simp)) (h.up _ (by simp)) (h.up _ (by simp)) fun M xs' g' m1 m2 m3=>?_
 ·rw[<-FE,eX,F6 (by lia)]
  simp [hX]
 ·rw[<-FE,eX,F6 (by lia)]
  simp [hX]
 ·have hM:M.length=Ra.length+Rb.length:=by rw[m1.length_eq,Fh]
  refine hq xs' _ g' (P++M::S) ⟨by rw[m3];simp [FW],?_,?_,?_,?_,?_⟩ (by simp;lia)
  ·refine Array.Perm.trans ?_ h.pm;rw[GS,m3,hl,<-FW Ra]
   exact(m1.append_right _).append_left _
  ·have:=h.ln
   simp only[List.flatten_append,List.flatten_cons,Fh]at this ⊢;lia
  ·intro r hr;rcases Fs.mp hr with hr|hr
   ·exact h.ne r (by simp [hr])
   ·rcases Fn.mp hr with rfl|hr
    ·have:=h.ne Ra (by simp)
     lia
    ·exact h.ne r (by simp [hr])
  ·intro r hr;rcases Fs.mp hr with hr|hr
   ·exact h.up r (by simp [hr])
   ·rcases Fn.mp hr with rfl|hr
    ·exact m2
    ·exact h.up r (by simp [hr])
  ·rw[Array.toList_eraseIdxIfInBounds,Array.toList_setIfInBounds,eX,List.set_append_right _ _ (by lia),hX,Nat.sub_self,List.set_cons_zero,List.eraseIdx_append_of_length_le (by lia)]
   rw[show i+1-X.length=1 by lia]
   simp only[List.eraseIdx_cons_succ,List.eraseIdx_cons_zero];rw[Fc,e1,Fi,e6,starts_app];simp only[starts,hM,Nat.zero_add,Nat.add_assoc]
theorem Runs.cut{n:Nat}{runs:List (List Keyed)}{rest:List Keyed}{ys:Array Keyed}(h:Runs R xs0 xs pd lo runs rest)(S:Sl xs ys lo)(ha:Asc R ys lo n)(hn:lo+n<=ys.size) :
  ∃ run rest2,run.length=n/\run.Pairwise (fun x y=>R y x=false)/\Runs R xs0 ys pd lo runs (run++rest2):=by
 refine⟨(ys.toList.drop lo).take n,ys.toList.drop (lo+n),by simp;lia,?_,⟨?_,S.pm.trans h.pm,h.ln,h.ne,h.up,h.pd⟩⟩
 ·refine GX.mpr fun i j hi hj hij=>?_
  have hj':j<n:=by simp at hj;lia
  have:=ha i j (GL hij) hj'
  unfold eA at this;rw[bN (show lo+j<ys.size by lia),bN (show lo+i<ys.size by lia)]at this
  simpa using this
 ·rw[<-List.drop_drop,F4];have e:ys.toList.take lo=runs.flatten:=by
   have e1:runs.flatten=xs.toList.take lo:=by
    rw[h.ls,<-h.ln,List.take_left'];rfl
   rw[e1];apply List.ext_getElem?;intro k
   by_cases q:k<lo
   ·rw[List.getElem?_take_of_lt q,List.getElem?_take_of_lt q,FE,FE];exact S.pr k q
   ·rw[Ga.mpr (by simp;lia),Ga.mpr (by simp;lia)]
  rw[<-e,F4]
theorem Runs.push{n:Nat}{runs:List (List Keyed)}{run rest:List Keyed}(h:Runs R xs0 xs pd lo runs (run++rest))(hn:run.length=n)(h0:0<n)(hs:run.Pairwise (fun x y=>R y x=false)):Runs R xs0 xs (pd.push (lo,n,0)) (lo+n) (runs++[run]) rest:=by
 refine⟨by rw[h.ls];simp,h.pm,?_,?_,?_,?_⟩
 ·have:=h.ln
  simp only[List.flatten_append,List.flatten_cons,List.flatten_nil,Fh,GP]at this ⊢;lia
 ·intro r hr;rcases Fs.mp hr with hr|hr
  ·exact h.ne r hr
  ·rw[Fb]at hr;subst hr;lia
 ·intro r hr;rcases Fs.mp hr with hr|hr
  ·exact h.up r hr
  ·rw[Fb]at hr;subst hr;exact hs
 ·rw[Array.toList_push,Fc,h.pd,starts_app,Nat.zero_add,h.ln];simp only[starts,hn];rfl
theorem Runs.pow{pw:Nat}{runs:List (List Keyed)}{rest:List Keyed}(h:Runs R xs0 xs pd lo runs rest):Runs R xs0 xs (pd.modify i fun x=>(x.1,x.2.1,pw)) lo runs rest:=by
 refine⟨h.ls,h.pm,h.ln,h.ne,h.up,?_⟩;rw[<-h.pd];apply List.ext_getElem?;intro k;rw[E9,E9,FE,FE,Array.getElem?_modify]
 split
 ·cases pd[k]? <;> rfl
 ·rfl
theorem qH:∀(runs:List (List Keyed)),(∀ r∈runs,0<r.length)->runs.length<=runs.flatten.length
 | [],_=>E7 _
 | r::rs,h=>by
  have h1:=h r (by simp)
  have h2:=qH rs fun x hx=>h x (by simp [hx])
  simp only[List.flatten_cons,Fh,Fy];lia
theorem wO(T:Told prog w A s κ0 dom R)(W:br R)(hd:∀ p∈xs.toList,dom p){Q:Unit->SortSt->Prop}(h:∀ xs' pd' g',xs'.Perm xs->xs'.toList.Pairwise (fun x y=>R y x=false)->Q () (ST κ0 xs' pd' g')) :
  wpS (model prog w) A E s sortRuns' Q (ST κ0 xs #[] g):=by
 refine Fj (wpS_get ?_);dsimp only;generalize (sortPriv% PySem.Builtin.minRun) xs.size xs.size 0=mr;refine Fj (Gx (F8 (I:=fun x c st'=>∃ lo ys pd' g' runs rest,c=(none,lo)/\st'=ST κ0 ys pd' g'/\Runs R xs ys pd' lo runs rest/\x<=lo)
  (Q:=fun c st'=>∃ lo ys pd' g' runs,c=(none,lo)/\st'=ST κ0 ys pd' g'/\Runs R xs ys pd' lo runs []) ?_ ?_ ?_) ?_)
 ·rintro x c st' _ hx ⟨lo,ys,pd',g',runs,rest,rfl,rfl,K,hlo⟩;dsimp only;have hsz:ys.size=xs.size:=K.pm.size_eq;have hlen:ys.toList.length=xs.size:=by rw[Fx,hsz]
  by_cases hge:lo ≥ xs.size
  ·rw[if_pos hge];refine Fu ⟨lo,ys,pd',g',runs,rfl,rfl,?_⟩
   have:rest=[]:=by
    have e:=hlen;rw[K.ls,Fh,K.ln]at e;exact Gn.mp (by lia)
   subst this;exact K
  rw[if_neg hge];have hdy:∀ p∈ys.toList,dom p:=fun p hp=>hd p ((GS.mp K.pm).mem_iff.mp hp)
  refine Fj (AH T W hdy (by lia) (by lia) fun m ys1 m1 m2 S1 A1=>?_)
  have hz1:=S1.size;dsimp only
  by_cases hmr:m<mr
  case' pos=>
   rw[if_pos hmr];refine Fj (wpS_lift (GO ⟨rfl,?_⟩));refine Fj (xv T W (S1.dom hdy) (by lia) (by lia) A1 fun ys2 S2 A2=>?_)
   have hz2:=S2.size;have hNN:1<=min (xs.size-lo) mr:=by lia
   show wpS _ _ _ _ (if (!true)=true then _ else _) _ _
   rw[if_neg (by decide)]
   obtain⟨run,rest2,r1,r2,K2⟩:=K.cut (S1.trans S2) A2 (by lia)
   generalize min (xs.size-lo) mr=N at hNN r1 ⊢
  case' neg=>
   rw[if_neg hmr];obtain⟨run,rest2,r1,r2,K2⟩:=K.cut S1 A1 (by lia)
   obtain⟨ys2,hys⟩:∃ z,z=ys1:=⟨_,rfl⟩;subst hys;have hNN:=m1;generalize m=N at hNN r1 ⊢
  all_goals
   refine Fj (wpS_get ?_);cases hbk:pd'.back? with
   | none=>
    dsimp only;refine Fj (Gv (Fu ⟨lo+N,ys2,pd'.push (lo,N,0),g',runs++[run],rest2,rfl,rfl,K2.push r1 hNN r2,by lia⟩))
   | some t=>
    obtain⟨s1,n1,p1⟩:=t;dsimp only;generalize (sortPriv% PySem.Builtin.power) xs.size (2*s1+n1) (2*s1+n1+n1+N) xs.size=pw;refine Fj (Gx (F8 (I:=fun _ c st'=>c=(none,())/\∃ ys pd' g' runs,st'=ST κ0 ys pd' g'/\Runs R xs ys pd' lo runs (run++rest2))
     (Q:=fun c st'=>c=(none,())/\∃ ys pd' g' runs,st'=ST κ0 ys pd' g'/\Runs R xs ys pd' lo runs (run++rest2)) ?_ (fun _ _ q=>q) ⟨rfl,ys2,pd',g',runs,rfl,K2⟩) ?_)
    ·rintro x' c st' _ hx' ⟨rfl,ys3,pd3,g3,runs3,rfl,K3⟩;refine Fj (wpS_get ?_);dsimp only
     by_cases hp:pd3.size > 1
     ·rw[if_pos hp];have hp2:pd3.size-2<pd3.size:=by lia
      rw[F5 pd3 (pd3.size-2) hp2];generalize pd3[pd3.size-2]=t3;obtain⟨u1,u2,u3⟩:=t3;dsimp only
      by_cases ho:u3<=pw
      ·rw[if_pos ho];exact Fu ⟨rfl,ys3,pd3,g3,runs3,rfl,K3⟩
      ·rw[if_neg ho];have hs3:=K3.size;refine Fj (K3.mergeAt T W hd (by lia) fun ys4 pd4 g4 runs4 K4 _=>?_)
       exact Fu ⟨rfl,ys4,pd4,g4,runs4,rfl,K4⟩
     ·rw[if_neg hp];exact Fu ⟨rfl,ys3,pd3,g3,runs3,rfl,K3⟩
    ·rintro c st' ⟨rfl,ys3,pd3,g3,runs3,rfl,K3⟩;dsimp only;refine Fj (Gv (Fj (Gv (Fu ?_))));exact⟨lo+N,ys3,_,g3,runs3++[run],rest2,rfl,rfl,(K3.pow).push r1 hNN r2,by lia⟩
 ·rintro c st' ⟨lo,ys,pd',g',runs,rest,rfl,rfl,K,hlo⟩;refine⟨lo,ys,pd',g',runs,rfl,rfl,?_⟩;have hlen:ys.toList.length=xs.size:=by rw[Fx];exact K.pm.size_eq
  have:rest=[]:=by
   rw[K.ls,Fh,K.ln]at hlen;exact Gn.mp (by lia)
  subst this;exact K
 ·exact⟨0,xs,#[],g,[],xs.toList,rfl,rfl,⟨rfl,Array.Perm.refl _,rfl,by simp,by simp,rfl⟩,E7 _⟩
 ·rintro c st' ⟨lo,ys,pd',g',runs,rfl,rfl,K⟩;dsimp only;have hlen:runs.flatten.length=xs.size:=by
   have e:ys.toList.length=xs.size:=by rw[Fx];exact K.pm.size_eq
   rw[K.ls,FR]at e;exact e
  have hrl:=qH runs K.ne;refine Fj (Gx (F8 (I:=fun x c st'=>c=(none,())/\∃ ys pd' g' runs,st'=ST κ0 ys pd' g'/\Runs R xs ys pd' lo runs []/\runs.length+x<=xs.size+1)
   (Q:=fun c st'=>c=(none,())/\∃ ys pd' g' runs,st'=ST κ0 ys pd' g'/\Runs R xs ys pd' lo runs []/\runs.length<=1) ?_ ?_ ⟨rfl,ys,pd',g',runs,rfl,K,by lia⟩) ?_)
  ·rintro x c st' _ hx ⟨rfl,ys,pd',g',runs,rfl,K,hl⟩;refine Fj (wpS_get ?_);have hs:=K.size;dsimp only
   by_cases hp:pd'.size<=1
   ·rw[if_pos hp];exact Fu ⟨rfl,ys,pd',g',runs,rfl,K,by lia⟩
   ·rw[if_neg hp]
    split
    ·refine Fj (K.mergeAt T W hd (by split <;> lia) fun ys4 pd4 g4 runs4 K4 l4=>?_)
     exact Fu ⟨rfl,ys4,pd4,g4,runs4,rfl,K4,by lia⟩
    ·refine Fj (K.mergeAt T W hd (by split <;> lia) fun ys4 pd4 g4 runs4 K4 l4=>?_)
     exact Fu ⟨rfl,ys4,pd4,g4,runs4,rfl,K4,by lia⟩
  ·rintro c st' ⟨rfl,ys,pd',g',runs,rfl,K,hl⟩;exact⟨rfl,ys,pd',g',runs,rfl,K,by lia⟩
  ·rintro c st' ⟨rfl,ys,pd',g',runs,rfl,K,hl⟩;refine Fu (h ys pd' g' K.pm ?_);rw[K.ls,FR]
   match runs,hl,K.up with
   | [],_,_=>simp
   | [r],_,u=>simpa using u r (by simp)
   | _::_::_,hl,_=>simp at hl
end
section
variable {prog:Program}{w:World}{A:Around}{E:Value->Shared->Prop}{s:Shared}
open Classical in
noncomputable def fF {α:Type}(ys:List (α×Value))(d:α)(p:Keyed):α:=if h:∃ q∈ys,q.2=p.1 then(Classical.choose h).1 else d
theorem lD{α:Type}{ys:List (α×Value)}{d:α}(hf:∀ p∈ys,∀ q∈ys,p.2=q.2->p.1=q.1){p:α×Value}(hp:p∈ys)(v:Value):fF ys d (p.2,v)=p.1:=by
 unfold fF;have h:∃ q∈ys,q.2=(p.2,v).1:=⟨p,hp,rfl⟩;rw[dif_pos h];exact hf _ (Classical.choose_spec h).1 _ hp (Classical.choose_spec h).2
theorem Ae{α:Type}{ok:α->Prop}{ys:List (α×Value)}{d:α}(hk:∀ p∈ys,ok p.1)(hd:ok d)(p:Keyed):ok (fF ys d p):=by
 unfold fF
 by_cases h:∃ q∈ys,q.2=p.1
 ·rw[dif_pos h];exact hk _ (Classical.choose_spec h).1
 ·rw[dif_neg h];exact hd
theorem AJ{α:Type}{ok:α->Prop}{lt:α->α->Bool}(L:cw ok lt){f:Keyed->α}(hf:∀ p,ok (f p)):br (fun p q=>lt (f p) (f q)) where
 ir:=fun p=>by
  cases h:lt (f p) (f p) with
  | false=>rfl
  | true=>have:=L.asy _ _ (hf p) (hf p) h;rw[h]at this;exact this
 tr:=fun p q r h1 h2=>L.tr _ _ _ (hf p) (hf q) (hf r) h1 h2
 ng:=fun p q r h=>by
  cases h1:lt (f p) (f q) with
  | true=>exact .inl rfl
  | false=>
   refine .inr ?_
   by_cases e:f p=f q
   ·rw[<-e];exact h
   ·exact L.tr _ _ _ (hf q) (hf p) (hf r) (L.tot _ _ (hf p) (hf q) e h1) h
theorem vi{α:Type}:∀ ys:List (α×Value),(ys.map (·.2)).zip (ys.map (·.2))=ys.map (fun p=>((p.2,p.2):Keyed))
 | []=>rfl
 | y::ys=>by rw[Fi,List.zip_cons_cons,vi ys];rfl
theorem qI{n:Nat}{P:PySem.Fin->Shared->Prop}{α:Type}{ok:α->Prop}{lt:α->α->Bool}(L:cw ok lt){ys:List (α×Value)}(ho:s.heap.get? a=some (seqObj "list" (ys.map (·.2)).toArray n)) (hsz:ys.length<=sizeLine) (hk:∀ p∈ys,ok p.1) (nd:(ys.map (·.1)).Nodup) (hf:∀ p∈ys,∀ q∈ys,p.2=q.2->p.1=q.1) (κ0:SortKind) (hkind:2<=ys.length->∀ s1:Shared,(∀ b o,b≠a->s.heap.get? b=some o->s1.heap.get? b=some o)->∀ Q:SortKind->Shared->Prop,Q κ0 s1->wpAny (model prog w) A (keyKind' (ys.map (·.2)).toArray) Q (fun _ _=>False) s1) (hcmp:∀ s1:Shared,(∀ b o,b≠a->s.heap.get? b=some o->s1.heap.get? b=some o)->∀ p∈ys,∀ q∈ys,∀ C:Bool->Shared->Prop,C (lt p.1 q.1) s1->wpAny (model prog w) A (keyLt' κ0 p.2 q.2) C (fun _ _=>False) s1) (h:∀(out:List (α×Value)) (h':Heap) (c:Nat),out.Perm ys->(out.map (·.1)).Pairwise (fun x y=>lt x y=true)->(∀ b o,b≠a->s.heap.get? b=some o->h'.get? b=some o)->s.heap.objs.size<=h'.objs.size->h'.get? a=some (seqObj "list" (out.map (·.2)).toArray c)->P (.done (.ret .none)) { s with heap:=h' }) :
  wpAny (model prog w) A (Builtin.«list.sort» ⟨[.ref a],[]⟩) P E s:=by
 rw[list_sort_plain];generalize hvs:ys.map (·.2)=vs at ho hkind;have ha:a<s.heap.objs.size:=Ft ho;have hz:vs.toArray.size=ys.length:=by rw[<-hvs];simp
 refine E4 (listItems_at ho rfl ?_);refine E4 (listUpdate_at ho rfl ?_ (by rw[hz];exact hsz) (FG _))
 obtain⟨e1,ho1⟩:∃ e1,(s.heap.update a (Obj.mapSeq fun _=>(#[]:Array Value))).get? a=some (seqObj "list" #[] e1):=⟨_,get?_update_seq ho fun _=>#[]⟩
 refine E4 (seqEpoch_at ho1 rfl ?_);refine E4 (wpAny_newTuple ?_ (by rw[Fx,hz];exact hsz))
 refine E4 (wpAny_newList ?_ (FG _));refine F7 ?_;generalize hH:((s.heap.update a (Obj.mapSeq fun _=>(#[]:Array Value))).push (seqObj "tuple" vs.toArray 0)).push (seqObj "list" #[] 0)=H6
 have ho6:H6.get? a=some (seqObj "list" #[] e1):=by rw[<-hH];exact E8 _ (E8 _ ho1)
 have keep6:∀ b o,b≠a->s.heap.get? b=some o->H6.get? b=some o:=fun b o hb e=>by
  rw[<-hH];exact E8 _ (E8 _ ((G4 _ _ (Ne.symm hb)).trans e))
 have size6:s.heap.objs.size<=H6.objs.size:=by rw[<-hH,size_push',size_push',Heap.size_update];exact Nat.le_succ_of_le (Nat.le_succ _)
 show wpAny (model prog w) A _ P E { s with heap:=H6 }
 dsimp only;have fin:∀(out:List (α×Value)),out.Perm ys->(out.map (·.1)).Pairwise (fun x y=>lt x y=true)->∀(st:SortSt),(arrOf st).map (·.2)=(out.map (·.2)).toArray->failedOf st=none->wpAny (model prog w) A (do
   let touched:=(<-seqEpoch a) !=e1
   Builtin.List.listUpdate (.ref a) fun _=>(arrOf st).map (·.2)
   if let some e:=failedOf st then rule "list.sort.comparison-raised";throw e
   if touched then rule "list.sort.modified";raiseError "ValueError" "list modified during sort"
   ret .none) P E { s with heap:=H6 }:=fun out po uo st hout hfl=>by
  refine E4 (seqEpoch_at ho6 rfl ?_);rw[hout];refine E4 (listUpdate_at ho6 rfl ?_ (FG _) (by show(out.map (·.2)).toArray.size<=_;rw[FP,E3,po.length_eq];exact Nat.le_succ_of_le hsz))
  rw[hfl];simp only[bne_self_eq_false,Fo,if_false];exact E6 (h out _ _ po uo (fun b o hb e=>(G4 _ _ (Ne.symm hb)).trans (keep6 b o hb e)) (by rw[Heap.size_update];exact size6) (get?_update_seq ho6 fun _=>(out.map (·.2)).toArray))
 have hzip:(vs.toArray.zip vs.toArray).toList=ys.map (fun p=>((p.2,p.2):Keyed)):=by
  have e:(vs.toArray.zip vs.toArray).toList=vs.zip vs:=by simp
  rw[e,<-hvs];exact vi ys
 by_cases h2:vs.toArray.size<2
 ·rw[if_pos h2,if_pos h2];refine E4 (E6 ?_);rw[StateT.run_pure];refine E4 (E6 ?_);dsimp only;refine fin ys (List.Perm.refl _) ?_ (SortSt.mk' general' (vs.toArray.zip vs.toArray) #[] 7 none) ?_ rfl
  ·match ys,(show ys.length<2 by lia) with
   | [],_=>exact List.Pairwise.nil
   | [_],_=>exact List.pairwise_singleton _ _
   | _::_::_,hl=>exact absurd hl (by simp)
  ·apply Array.toList_inj.mp
   show((vs.toArray.zip vs.toArray).map (·.2)).toList=_
   rw[Array.toList_map,hzip,Fm];rfl
 ·rw[if_neg h2,if_neg h2];have h2':2<=ys.length:=by lia
  refine E4 (Gf (hkind h2' { s with heap:=H6 } keep6 (fun κ s0=>κ=κ0/\s0={ s with heap:=H6 }) ⟨rfl,rfl⟩) ?_ fun _ _ x=>x.elim)
  rintro κ s0 ⟨rfl,rfl⟩;obtain⟨d,hd⟩:∃ d,d∈ys:=by
   match ys,h2' with
   | k::_,_=>exact⟨k,Fd ..⟩
  have W:=AJ L (f:=fF ys d.1) (Ae hk (hk d hd));have T:Told prog w A { s with heap:=H6 } κ (fun p=>∃ q∈ys,p=(q.2,q.2)) (fun p q=>lt (fF ys d.1 p) (fF ys d.1 q)):=by
   rintro p q ⟨p',hp',rfl⟩ ⟨q',hq',rfl⟩ C hC;dsimp only at hC;rw[lD hf hp',lD hf hq']at hC;exact hcmp _ keep6 p' hp' q' hq' C hC
  have run:=wO (E:=E) (g:=7) (xs:=vs.toArray.zip vs.toArray) T W (fun p hp=>by
    rw[hzip]at hp;obtain⟨q,hq,rfl⟩:=E5.mp hp;exact⟨q,hq,rfl⟩)
   (Q:=fun _ st=>failedOf st=none/\∃ out:List (α×Value),out.Perm ys/\(out.map (·.1)).Pairwise (fun x y=>lt x y=true)/\(arrOf st).map (·.2)=(out.map (·.2)).toArray) fun xs' pd' g' hpm hup=>by
    refine⟨rfl,?_⟩;have hp:=GS.mp hpm;rw[hzip]at hp;obtain⟨out,hpo,e⟩:=g0 hp;refine⟨out,hpo,?_,?_⟩
    ·rw[e,GH]at hup;have ndo:(out.map (·.1)).Nodup:=(hpo.map (·.1)).nodup_iff.mpr nd;have nd2:=GH.mp ndo;rw[GH];refine(hup.and nd2).imp_of_mem fun {x y} hx hy hxy=>?_
     have hx':=hpo.mem_iff.mp hx;have hy':=hpo.mem_iff.mp hy;have h1:=hxy.1;rw[lD hf hx',lD hf hy']at h1;exact L.tot _ _ (hk _ hy') (hk _ hx') (fun z=>hxy.2 z.symm) h1
    ·apply Array.toList_inj.mp;rw[Array.toList_map];show xs'.toList.map _=_
     rw[e,Fm];rfl
  unfold wpS at run;refine E4 (Gf run ?_ fun _ _ e=>e)
  rintro⟨⟨⟩,st'⟩ s' ⟨rfl,hfl,out,po,uo,hout⟩;exact fin out po uo st' hout hfl
theorem rC{es:Array (Int×Value)}{t:SetTable}(hh:A.handled=none)(S:bK w s.heap a o es ep t){α:Type}{ok:α->Prop}{lt:α->α->Bool}(L:cw ok lt){xs:List (α×Value)}(hval:es.toList.map (·.2)=xs.map (·.2))(h64:xs.length<64)(nd:(xs.map (·.1)).Nodup)(hf:∀ p∈xs,∀ q∈xs,p.2=q.2->p.1=q.1)(hok:∀ p∈xs,ok p.1)(κ0:SortKind)(hkind:∀(s1:Shared)(ys:List (α×Value)),ys.Perm xs->(∀ b o,s.heap.get? b=some o->s1.heap.get? b=some o)->2<=ys.length->∀ Q:SortKind->Shared->Prop,Q κ0 s1->wpAny (model prog w) A.in1.in1 (keyKind' (ys.map (·.2)).toArray) Q (fun _ _=>False) s1)(hcmp:∀(s1:Shared),(∀ b o,s.heap.get? b=some o->s1.heap.get? b=some o)->∀ p∈xs,∀ q∈xs,∀ C:Bool->Shared->Prop,C (lt p.1 q.1) s1->wpAny (model prog w) A.in1.in1 (keyLt' κ0 p.2 q.2) C (fun _ _=>False) s1)(h:∀(h':Heap)(d:Drawn)(tk:Nat)(D:Addr)(c:Nat)(out:List (α×Value)),out.Perm xs->(out.map (·.1)).Pairwise (fun x y=>lt x y=true)->(∀ b o,s.heap.get? b=some o->h'.get? b=some o)->s.heap.objs.size<=D →
   h'.get? D=some (seqObj "list" (out.map (·.2)).toArray c)->Q (.ref D) { s with heap:=h',drawn:=d,toks:=tk }) :
  wpAny (model prog w) A (call (.builtin "sorted") [.ref a]) Q E s:=by
 have hsz:es.size=xs.length:=by
  have:=congrArg List.length hval
  simpa using this
 refine Calls.call_function_entry kind_sorted plain_sorted entry_sorted (args_sorted1 _) ?_;unfold Builtin.«sorted»;refine E4 (m:=checkCount "sorted" 1 1 _) (E6 ?_)
 refine E4 (EJ (by simp [hh]) S (by lia) fun h1 d tk vs hp keep1 size1=>?_)
 rw[hval]at hp;obtain⟨ys,hpy,rfl⟩:=g0 hp;have hyl:ys.length=xs.length:=hpy.length_eq;refine E4 (wpAny_newList ?_ (by rw[E3,Fz];lia))
 have hoL:(h1.push (seqObj "list" (ys.map (·.2)).toArray 0)).get? h1.objs.size=some (seqObj "list" (ys.map (·.2)).toArray 0):=Fv _ rfl
 have eJ:∀ b o,s.heap.get? b=some o->b≠h1.objs.size:=fun b o e=>FD (FJ (Ft e) size1)
 refine E4 (F7 (Gh slot_list_sort ⟨_,hoL,rfl⟩ entry_list_sort ?_ (args_list_sort _)));refine qI (s:={ s with heap:=h1.push (seqObj "list" (ys.map (·.2)).toArray 0),drawn:=d,toks:=tk }) L hoL (by rw[Fz];lia) (fun p hp=>hok p (hpy.mem_iff.mp hp)) ((hpy.map (·.1)).nodup_iff.mpr nd) (fun p hp q hq e=>hf p (hpy.mem_iff.mp hp) q (hpy.mem_iff.mp hq) e) κ0 ?_ ?_ ?_
 ·intro h2 s1 k1 Q' q;exact hkind s1 ys hpy (fun b o e=>k1 b o (eJ b o e) (E8 _ (keep1 b o e))) h2 Q' q
 ·intro s1 k1 p hp q hq C hC;exact hcmp s1 (fun b o e=>k1 b o (eJ b o e) (E8 _ (keep1 b o e))) p (hpy.mem_iff.mp hp) q (hpy.mem_iff.mp hq) C hC
 ·intro out h' c po uo k1 size2 ho';refine⟨_,rfl,E6 ⟨_,rfl,?_⟩⟩;exact h h' d tk _ c out (po.trans hpy) uo (fun b o e=>k1 b o (eJ b o e) (E8 _ (keep1 b o e))) size1 ho'
end
noncomputable abbrev Ky:=Sum Int Str
noncomputable def kLt:Ky->Ky->Bool
 | .inl a,.inl b=>decide (a<b)
 | .inr a,.inr b=>decide (a.cps.toList<b.cps.toList)
 | _,_=>false
noncomputable def isI:Ky->Bool
 | .inl _=>true
 | .inr _=>false
theorem vT{a b:Str}(h:a.cps.toList=b.cps.toList):a=b:=by
 cases a;cases b
 simp only at h
 congr 1;exact Array.toList_inj.mp h
theorem dI(b:Bool):cw (fun k=>isI k=b) kLt where
 tr:=fun x y z hx hy hz h1 h2=>by
  cases x <;> cases y <;> cases z <;> simp_all [kLt,isI]
  ·lia
  ·exact List.lt_trans h1 h2
 tot:=fun x y hx hy hne h=>by
  cases x <;> cases y <;> simp_all [kLt,isI]
  ·lia
  ·rename_i a c
   rcases List.le_iff_lt_or_eq.mp h with q|q
   ·exact q
   ·exact absurd (vT q.symm) hne
 asy:=fun x y hx hy h=>by
  cases x <;> cases y <;> simp_all [kLt,isI]
  ·lia
  ·exact List.le_of_lt h
noncomputable def cT:List Ky->List Ky->Bool
 | [],[]=>false
 | x::xs,y::ys=>if x=y then cT xs ys else kLt x y
 | [],_::_=>true
 | _::_,[]=>false
theorem lN:∀ sh:List Bool,cw (fun ks=>ks.map isI=sh) cT
 | []=>by
  have nil:∀{x:List Ky},x.map isI=[]->x=[]:=fun h=>List.map_eq_nil_iff.mp h
  refine⟨fun x y z hx hy hz h1 h2=>?_,fun x y hx hy hne h=>?_,fun x y hx hy h=>?_⟩
  ·rw[nil hx,nil hy]at h1;exact absurd h1 (by decide)
  ·exact absurd ((nil hx).trans (nil hy).symm) hne
  ·rw[nil hx,nil hy]at h;exact absurd h (by decide)
 | b::sh=>by
  have ih:=lN sh;have kb:=dI b;have open1:∀{x:List Ky},x.map isI=b::sh->∃ k r,x=k::r/\isI k=b/\r.map isI=sh:=fun {x} h=>by
   cases x with
   | nil=>cases h
   | cons k r=>rw[Fi]at h;injection h with h1 h2;exact⟨k,r,rfl,h1,h2⟩
  refine⟨fun x y z hx hy hz h1 h2=>?_,fun x y hx hy hne h=>?_,fun x y hx hy h=>?_⟩
  ·obtain⟨k1,r1,rfl,a1,b1⟩:=open1 hx;obtain⟨k2,r2,rfl,a2,b2⟩:=open1 hy;obtain⟨k3,r3,rfl,a3,b3⟩:=open1 hz;unfold cT at h1 h2 ⊢
   by_cases q12:k1=k2
   ·subst q12;rw[if_pos rfl]at h1
    by_cases q13:k1=k3
    ·subst q13;rw[if_pos rfl]at h2 ⊢;exact ih.tr _ _ _ b1 b2 b3 h1 h2
    ·rw[if_neg q13]at h2 ⊢;exact h2
   ·rw[if_neg q12]at h1
    by_cases q23:k2=k3
    ·subst q23;rw[if_pos rfl]at h2;rw[if_neg q12];exact h1
    ·rw[if_neg q23]at h2;have h3:=kb.tr _ _ _ a1 a2 a3 h1 h2
     by_cases q13:k1=k3
     ·subst q13
      have:=kb.asy _ _ a1 a2 h1
      rw[h2]at this;cases this
     ·rw[if_neg q13];exact h3
  ·obtain⟨k1,r1,rfl,a1,b1⟩:=open1 hx;obtain⟨k2,r2,rfl,a2,b2⟩:=open1 hy;unfold cT at h ⊢
   by_cases q:k1=k2
   ·subst q;rw[if_pos rfl]at h ⊢;exact ih.tot _ _ b1 b2 (fun z=>hne (by rw[z])) h
   ·rw[if_neg q]at h;rw[if_neg fun z=>q z.symm]
    exact kb.tot _ _ a1 a2 q h
  ·obtain⟨k1,r1,rfl,a1,b1⟩:=open1 hx;obtain⟨k2,r2,rfl,a2,b2⟩:=open1 hy;unfold cT at h ⊢
   by_cases q:k1=k2
   ·subst q;rw[if_pos rfl]at h ⊢;exact ih.asy _ _ b1 b2 h
   ·rw[if_neg q]at h;rw[if_neg fun z=>q z.symm]
    exact kb.asy _ _ a1 a2 h
end SB
end
section
namespace L2
open PySem PySem.Spec PyProof.Rows
noncomputable abbrev Key:=Sum Int Str
noncomputable def bI:Key->Value->Bool
 | .inl k,v=>Value.isInt k v
 | .inr x,v=>Value.isStrOf x v
noncomputable def tF (w:World):Key->Int
 | .inl k=>hashInt k
 | .inr x=>hashStr w x
theorem bH:∀{k:Key}{v:Value},bI k v=true->(∃ i t,k=Sum.inl i/\v=Value.int i t)\/(∃ x t,k=Sum.inr x/\v=Value.str x t)
 | .inl i,v,h=>by
  obtain⟨t,e⟩:=Value.isInt_shape (k:=i) (v:=v) h;exact .inl ⟨i,t,rfl,e⟩
 | .inr x,v,h=>by
  obtain⟨t,e⟩:=Value.isStrOf_shape (x:=x) (v:=v) h;exact .inr ⟨x,t,rfl,e⟩
theorem kK(i:Int)(t:Tok):bI (.inl i) (.int i t)=true:=by simp [bI,Value.isInt]
theorem jA(x:Str)(t:Tok):bI (.inr x) (.str x t)=true:=by simp [bI,Value.isStrOf]
theorem iN(a b:Int):decide ((Sum.inl a:Key)=Sum.inl b)=(a==b):=by
 by_cases e:a=b
 ·subst e;simp
 ·have h:¬ (Sum.inl a:Key)=Sum.inl b:=fun q=>e (Sum.inl.inj q)
  rw[FI h]
  exact(beq_eq_false_iff_ne.mpr e).symm
theorem rq(a b:Str):decide ((Sum.inr a:Key)=Sum.inr b)=decide (a=b):=by
 by_cases e:a=b
 ·subst e;simp
 ·have h:¬ (Sum.inr a:Key)=Sum.inr b:=fun q=>e (Sum.inr.inj q)
  rw[FI h,FI e]
theorem nM(a:Int)(b:Str):decide ((Sum.inl a:Key)=Sum.inr b)=false:=FI (fun q=>nomatch q)
theorem nH(a:Str)(b:Int):decide ((Sum.inr a:Key)=Sum.inl b)=false:=FI (fun q=>nomatch q)
noncomputable def az (prog:Program)(w:World):PySem.KeyKind prog w Key where
 is:=bI
 hash:=tF w
 inj:=fun v a b ha hb=>by
  rcases bH ha with⟨i,t,rfl,rfl⟩|⟨x,t,rfl,rfl⟩
  ·rcases bH hb with⟨j,u,rfl,e⟩|⟨y,u,rfl,e⟩
   ·injection e with e1 _;rw[e1]
   ·exact nomatch e
  ·rcases bH hb with⟨j,u,rfl,e⟩|⟨y,u,rfl,e⟩
   ·exact nomatch e
   ·injection e with e1 _;rw[e1]
 byValue:=fun k v h=>by
  rcases bH h with⟨i,t,rfl,rfl⟩|⟨x,t,rfl,rfl⟩ <;> rfl
 pyHash:=fun hv h=>by
  rcases bH hv with⟨i,t,rfl,rfl⟩|⟨x,t,rfl,rfl⟩
  ·exact wpAny_pyHash_int h
  ·exact wpAny_pyHash_str h
 eqBool:=fun hu hv h=>by
  rcases bH hu with⟨i,t,rfl,rfl⟩|⟨x,t,rfl,rfl⟩
  ·rcases bH hv with⟨j,u,rfl,rfl⟩|⟨y,u,rfl,rfl⟩
   ·rw[iN]at h;exact wpAny_eqBool_int h
   ·rw[nM]at h;exact SeqAt.EqAt.int_str i t y u _ _ _ _ h
  ·rcases bH hv with⟨j,u,rfl,rfl⟩|⟨y,u,rfl,rfl⟩
   ·rw[nH]at h;exact SeqAt.EqAt.str_int x t j u _ _ _ _ h
   ·rw[rq]at h;exact wpAny_eqBool_str h
 «strs»:=fun k x t v h=>by
  rcases bH h with⟨i,u,rfl,e⟩|⟨y,u,rfl,e⟩
  ·exact nomatch e
  ·injection e with e1 _;subst e1;cases v <;> rfl
theorem Ai(prog:Program)(w:World)(i:Int)(t:Tok):(az prog w).is (.inl i) (.int i t)=true:=kK i t
theorem Di(prog:Program)(w:World)(x:Str)(t:Tok):(az prog w).is (.inr x) (.str x t)=true:=jA x t
inductive V where
 | non|bl (b:Bool)|int (i:Int)|str (x:Str)|byt (b:Array UInt8)|flt (b:UInt64)|ref (a:Addr)|ty (n:String)
 deriving DecidableEq
noncomputable def RelV:V->Value->Prop
 | .non,u=>u=Value.none
 | .bl b,u=>u=Value.bool b
 | .int i,u=>∃ t,u=Value.int i t
 | .str x,u=>∃ t,u=Value.str x t
 | .byt b,u=>∃ t,u=Value.bytes b t
 | .flt b,u=>∃ t,u=Value.float b t
 | .ref a,u=>u=Value.ref a
 | .ty n,u=>u=Value.type n
noncomputable abbrev Vals:List V->List Value->Prop:=Paired RelV
theorem Vals.length{xs:List V}(r:Vals xs us):xs.length=us.length:=Paired.length r
theorem Vals.get:∀{xs:List V}{us:List Value}{i:Nat}{x:V},Vals xs us->xs[i]? =some x->∃ u,us[i]? =some u/\RelV x u
 | _,_,_,_,.nil,e=>by simp at e
 | _,_,0,_,.cons r _,e=>by simp at e;subst e;exact⟨_,rfl,r⟩
 | _,_,i+1,x,.cons _ t,e=>by
  obtain⟨u,h1,h2⟩:=Vals.get (i:=i) (x:=x) t (by simpa using e)
  exact⟨u,by simpa using h1,h2⟩
theorem Vals.set{x:V}(r:RelV x u):∀{xs:List V}{us:List Value}(i:Nat),Vals xs us->Vals (xs.set i x) (us.set i u)
 | _,_,_,.nil=>.nil
 | _,_,0,.cons _ t=>.cons r t
 | _,_,i+1,.cons q t=>.cons q (Vals.set r i t)
theorem Vals.append:∀{xs ys:List V}{us ws:List Value},Vals xs us->Vals ys ws->Vals (xs++ys) (us++ws)
 | _,_,_,_,.nil,s=>s
 | _,_,_,_,.cons r t,s=>.cons r (Vals.append t s)
theorem Vals.take:∀{xs:List V}{us:List Value}(n:Nat),Vals xs us->Vals (xs.take n) (us.take n)
 | _,_,0,_=>.nil
 | _,_,_+1,.nil=>.nil
 | _,_,n+1,.cons r t=>.cons r (Vals.take n t)
theorem Vals.drop:∀{xs:List V}{us:List Value}(n:Nat),Vals xs us->Vals (xs.drop n) (us.drop n)
 | _,_,0,r=>r
 | _,_,_+1,.nil=>.nil
 | _,_,n+1,.cons _ t=>Vals.drop n t
noncomputable def bR:Option V->Option Value->Prop
 | some v,some u=>RelV v u
 | none,none=>True
 | _,_=>False
noncomputable def KV {κ:Type}:List (κ×V)->List (κ×Value)->Prop:=Paired fun(p:κ×V)(q:κ×Value)=>p.1=q.1/\RelV p.2 q.2
noncomputable def kV:Key->V
 | .inl i=>.int i
 | .inr x=>.str x
inductive HO where
  | lst (xs:List V)
  | tup (xs:List V)
  | dK (kvs:List (Key×V))|dT (kvs:List (List Key×V))
  | set (S:Int->Bool) (n:Nat)
  | ins (C dx:Addr) (fs:List (Str×V))
  | own (x:Addr)
  | xd (fs:List (Str×V))
  | met (f x:Addr)
  | rng (lo hi:Int)
  | frz (o:Obj) (u:HO)
  | tbl (ps:Array Value)
  | ext (φ:Heap->Prop)
noncomputable abbrev Hp:=Addr->Option HO
noncomputable def upd (H:Hp)(a:Addr)(o:HO):Hp:=fun b=>if b=a then some o else H b
theorem aY{H:Hp}{o:HO}:upd H a o a=some o:=by unfold upd;rw[if_pos rfl]
theorem ar{H:Hp}{o:HO}(h:b≠a):upd H a o b=H b:=by unfold upd;rw[if_neg h]
theorem aX{H:Hp}{o u:HO}(h:H a=some o)(h':H b=some u)(d:o≠u):a≠b:=by
 intro e;subst e;rw[h]at h';exact d (Fw h')
theorem aA{H:Hp}{o:HO}(h:H a=some o)(h':H b=none):a≠b:=by
 intro e;subst e;rw[h]at h';cases h'
section
variable (P:Program)(w:World)
noncomputable def au (H:Hp)(h:Heap)(a:Addr):HO->Prop
 | .lst xs=>xs.length<=sizeLine/\∃(its:List Value) (n:Nat),Vals xs its/\h.get? a=some { cls:=.type "list",data:=.seq its.toArray n }
 | .tup xs=>xs.length<=sizeLine/\∃ its:List Value,Vals xs its/\IsTup h a its.toArray
 | .dK kvs=>kvs.length<=sizeLine/\(a==sysModules)=false/\∃ vs,KV kvs vs/\h.DictOf (az P w) a vs
 | .dT kvs=>kvs.length<=sizeLine/\(a==sysModules)=false/\∃ xs:List (List Key×Addr×Value),
   Paired (fun(p:List Key×V) (q:List Key×Addr×Value)=>p.1=q.1/\H q.2.1=some (.tup (p.1.map kV))/\RelV p.2 q.2.2) kvs xs ∧
   ∃ o es ep,h.get? a=some o/\o.ExactDict/\o.data=.dict es ep/\es.toList=xs.map (entryOfKey (tupleKind (az P w)))/\(xs.map (·.1)).Nodup
 | .set S n=>h.SetOf (intKind P w) a S n
 | .ins C dx fs=>H dx=some (.own a)/\fs.length<=1000/\dx≠a/\h.get? a=some (PySem.W.instObj C dx) ∧
   ∃ mA,h.Ns1 dx mA/\(∀ f,bR (fs.lookup f) (mA f))/\PySem.Within mA (fs.map (·.1))
 | .own _=>∃ o,h.get? a=some o
 | .xd fs=>∃ mA,h.Ns1 a mA/\∀ f,bR (fs.lookup f) (mA f)
 | .rng lo hi=>∃ t u v,h.get? a=some { cls:=.type "range",data:=.fields #[.int lo t,.int hi u,.int 1 v] }
 | .frz o u=>h.get? a=some o/\au H h a u
 | .tbl ps=>h.get? a=some { cls:=.none,data:=.fields ps }
 | .met f x=>h.get? a=some (PySem.W.methodObj (.ref f) (.ref x))
 | .ext φ=>φ h/\(∃ o,h.get? a=some o)/\∀ h1 h2:Heap,φ h1->(∀ o,h1.get? a=some o->h2.get? a=some o)->φ h2
noncomputable def HOk (H:Hp)(h:Heap):Prop:=∀ a o,H a=some o->au P w H h a o
end
section
variable {P:Program}{w:World}{H H':Hp}{h h':Heap}{a:Addr}{o:HO}
theorem au.lt(x:au P w H h a o):a<h.objs.size:=by
 cases o with
 | lst xs=>obtain⟨_,_,_,_,e⟩:=x;exact Ft e
 | tup xs=>obtain⟨_,_,_,p⟩:=x;exact p.lt
 | dK kvs=>obtain⟨_,_,_,_,o,_,_,e,_⟩:=x;exact Ft e
 | dT kvs=>obtain⟨_,_,_,_,o,_,_,e,_⟩:=x;exact Ft e
 | set S n=>obtain⟨o,_,_,_,e,_⟩:=x;exact Ft e
 | ins C dx fs=>obtain⟨_,_,_,e,_⟩:=x;exact Ft e
 | own y=>obtain⟨_,e⟩:=x;exact Ft e
 | xd fs=>obtain⟨_,⟨_,_,_,e,_⟩,_⟩:=x;exact Ft e
 | rng lo hi=>obtain⟨_,_,_,e⟩:=x;exact Ft e
 | frz ob u=>obtain⟨e,_⟩:=x;exact Ft e
 | tbl ps=>exact Ft (show h.get? a=some _ from x)
 | met f y=>exact Ft (show h.get? a=some _ from x)
 | ext φ=>obtain⟨_,⟨_,e⟩,_⟩:=x;exact Ft e
theorem Paired.oX{α β:Type}{F G:α->β->Prop}:∀{l₁:List α}{l₂:List β},Paired F l₁ l₂->(∀ a b,F a b->G a b)->Paired G l₁ l₂
 | _,_,.nil,_=>.nil
 | _,_,.cons r t,f=>.cons (f _ _ r) (Paired.oX t f)
theorem au.ef(x:au P w H h a o)(k:∀ b u,(b=a\/H b=some (.own a))->h.get? b=some u->h'.get? b=some u)(ho:∀ b,H b=some (.own a)->H' b=some (.own a))(ht:∀ b xs,H b=some (.tup xs)->H' b=some (.tup xs)):au P w H' h' a o:=by
 induction o with
 | lst xs=>obtain⟨z,its,n,r,e⟩:=x;exact⟨z,its,n,r,k _ _ (.inl rfl) e⟩
 | tup xs=>obtain⟨z,its,r,ob,e,c⟩:=x;exact⟨z,its,r,ob,k _ _ (.inl rfl) e,c⟩
 | dK kvs=>obtain⟨z,y,vs,r,ob,es,ep,e,c⟩:=x;exact⟨z,y,vs,r,ob,es,ep,k _ _ (.inl rfl) e,c⟩
 | dT kvs=>
  obtain⟨z,y,xs,r,ob,es,ep,e,c⟩:=x;exact⟨z,y,xs,Paired.oX r fun p q z=>⟨z.1,ht _ _ z.2.1,z.2.2⟩,ob,es,ep,k _ _ (.inl rfl) e,c⟩
 | set S n=>obtain⟨ob,es,ep,t,e,c⟩:=x;exact⟨ob,es,ep,t,k _ _ (.inl rfl) e,c⟩
 | ins C dx fs=>
  obtain⟨d,z,ne,e,mA,⟨od,es,ep,e2,c⟩,r⟩:=x;exact⟨ho _ d,z,ne,k _ _ (.inl rfl) e,mA,⟨od,es,ep,k _ _ (.inr d) e2,c⟩,r⟩
 | own y=>obtain⟨ob,e⟩:=x;exact⟨ob,k _ _ (.inl rfl) e⟩
 | xd fs=>obtain⟨mA,⟨od,es,ep,e,c⟩,r⟩:=x;exact⟨mA,⟨od,es,ep,k _ _ (.inl rfl) e,c⟩,r⟩
 | rng lo hi=>obtain⟨t,u,v,e⟩:=x;exact⟨t,u,v,k _ _ (.inl rfl) e⟩
 | frz ob u ih=>obtain⟨e,q⟩:=x;exact⟨k _ _ (.inl rfl) e,ih q⟩
 | tbl ps=>
  have e:h.get? a=some { cls:=.none,data:=.fields ps }:=x;show h'.get? a=some { cls:=.none,data:=.fields ps }
  exact k a _ (.inl rfl) e
 | met f y=>
  have e:h.get? a=some (PySem.W.methodObj (.ref f) (.ref y)):=x;show h'.get? a=some (PySem.W.methodObj (.ref f) (.ref y))
  exact k a _ (.inl rfl) e
 | ext φ=>obtain⟨p,⟨o,e⟩,st⟩:=x;exact⟨st _ _ p fun o q=>k _ _ (.inl rfl) q,⟨o,k _ _ (.inl rfl) e⟩,st⟩
theorem HOk.lt(x:HOk P w H h)(e:H a=some o):a<h.objs.size:=(x a o e).lt
theorem HOk.fresh(x:HOk P w H h)(e:h.objs.size<=a):H a=none:=by
 cases q:H a with
 | none=>rfl
 | some u=>exact absurd (FJ (x.lt q) e) (Gm _)
theorem HOk.kept(x:HOk P w H h)(k:∀ b u,h.get? b=some u->h'.get? b=some u):HOk P w H h':=fun a o e=>
 (x a o e).ef (fun b u _ q=>k b u q) (fun _ q=>q) fun _ _ q=>q
theorem HOk.laid(x:HOk P w H h)(k:∀ b u,h.get? b=some u->h'.get? b=some u)(hp:h.objs.size<=a)(new:au P w (upd H a o) h' a o):HOk P w (upd H a o) h':=fun b u e=>by
 have hn:=x.fresh hp
 by_cases hb:b=a
 ·subst hb;rw[aY]at e;cases e;exact new
 ·rw[ar hb]at e
  exact(x b u e).ef (fun c v _ q=>k c v q) (fun c q=>by rw[ar (aA q hn)];exact q) fun c xs q=>by rw[ar (aA q hn)];exact q
end
noncomputable def Rd (H:Hp)(a:Addr)(u:HO):Prop:=H a=some u\/∃ o,H a=some (.frz o u)
theorem Rd.of{H:Hp}{u:HO}(h:H a=some u):Rd H a u:=.inl h
theorem Rd.ok{H:Hp}{u:HO}(r:Rd H a u)(x:HOk P w H h):au P w H h a u:=by
 rcases r with r|⟨o,r⟩
 ·exact x a u r
 ·obtain⟨_,q⟩:=x a _ r;exact q
noncomputable def Mut:Option HO->Prop
 | some (.lst _)=>True
 | some (.dK _)=>True
 | some (.dT _)=>True
 | some (.set _ _)=>True
 | some (.ins _ _ _)=>True
 | some (.ext _)=>True
 | _=>False
section
variable {P:Program}{w:World}{H:Hp}{h h':Heap}{x e:Addr}{o':HO}
theorem HOk.write(ok:HOk P w H h)(mu:Mut (H x))(he:e=x\/H e=some (.own x))(k:∀ b u,b≠e->h.get? b=some u->h'.get? b=some u)(heo:∃ u,h'.get? e=some u)(new:au P w (upd H x o') h' x o'):HOk P w (upd H x o') h':=fun b u q=>by
 have nown:∀ c y,H c=some (.own y)->c≠x:=fun c y r z=>by subst z;rw[r]at mu;exact mu
 have ntup:∀ c xs,H c=some (.tup xs)->c≠x:=fun c xs r z=>by subst z;rw[r]at mu;exact mu
 by_cases hb:b=x
 ·subst hb;rw[aY]at q;cases q;exact new
 ·rw[ar hb]at q
  by_cases hbe:b=e
  ·have q':H b=some (.own x):=by
    rcases he with z|z
    ·exact absurd (hbe.trans z) hb
    ·rw[hbe];exact z
   rw[q]at q';cases q'
   obtain⟨v,hv⟩:=heo;exact⟨v,by rw[hbe];exact hv⟩
  ·refine(ok b u q).ef (fun c v hc r=>k c v ?_ r) (fun c r=>by rw[ar (nown c b r)];exact r) fun c xs r=>by rw[ar (ntup c xs r)];exact r
   rcases hc with rfl|hc
   ·exact hbe
   ·rintro rfl;rcases he with z|z
    ·exact nown c b hc z
    ·rw[hc]at z;cases z;exact hb rfl
end
structure Un (fs ex:List Addr)(H H':Hp)(h h':Heap):Prop where
 keep:∀ b o,h.get? b=some o->H b=none->b∉fs->b∉ex->h'.get? b=some o
 slot:∀ b o,h.get? b=some o->H b=none->b∈fs->b∉ex->∃ sl,h'.get? b=some { o with slots:=sl }
 free:∀ b o,h.get? b=some o->H b=none->b∉ex->H' b=none
 there:∀ b o,h.get? b=some o->b∉ex->∃ o',h'.get? b=some o'
 tups:∀ b xs,H b=some (.tup xs)->H' b=some (.tup xs)
 frzs:∀ b o u,H b=some (.frz o u)->H' b=some (.frz o u)
 tbls:∀ b ps,H b=some (.tbl ps)->∃ more,H' b=some (.tbl (ps++more))
section
variable {fs fs' ex ex':List Addr}{H H1 H2:Hp}{h h1 h2 h':Heap}{a x e:Addr}{o:HO}
theorem Un.any(u:Un fs ex H H1 h h1){ob:Obj}(q:h.get? b=some ob)(n:H b=none)(hx:b∉ex):∃ sl,h1.get? b=some { ob with slots:=sl }:=by
 by_cases hb:b∈fs
 ·exact u.slot b ob q n hb hx
 ·exact⟨ob.slots,u.keep b ob q n hb hx⟩
theorem Un.trans(a:Un fs ex H H1 h h1)(b:Un fs ex H1 H2 h1 h2):Un fs ex H H2 h h2 where
 keep:=fun c ob q n hc hx=>b.keep c ob (a.keep c ob q n hc hx) (a.free c ob q n hx) hc hx
 slot:=fun c ob q n hc hx=>by
  obtain⟨sl,e1⟩:=a.slot c ob q n hc hx;obtain⟨sl',e2⟩:=b.slot c _ e1 (a.free c ob q n hx) hc hx;exact⟨sl',e2⟩
 free:=fun c ob q n hx=>by
  obtain⟨o',e1⟩:=a.there c ob q hx;exact b.free c o' e1 (a.free c ob q n hx) hx
 there:=fun c ob q hx=>by
  obtain⟨o',e1⟩:=a.there c ob q hx;exact b.there c o' e1 hx
 tups:=fun c xs q=>b.tups c xs (a.tups c xs q)
 frzs:=fun c ob xs q=>b.frzs c ob xs (a.frzs c ob xs q)
 tbls:=fun c ps q=>by
  obtain⟨m1,e1⟩:=a.tbls c ps q;obtain⟨m2,e2⟩:=b.tbls c _ e1;exact⟨m1++m2,by rw[e2,Array.append_assoc]⟩
theorem Un.kept(k:∀ b u,h.get? b=some u->h'.get? b=some u):Un fs ex H H h h':=
 ⟨fun b ob q _ _ _=>k b ob q,fun b ob q _ _ _=>⟨ob.slots,k b ob q⟩,fun _ _ _ n _=>n,fun b ob q _=>⟨ob,k b ob q⟩,fun _ _ q=>q,fun _ _ _ q=>q,fun _ ps q=>⟨#[],by rw[q];simp⟩⟩
theorem Un.refl:Un fs ex H H h h:=Un.kept fun _ _ q=>q
theorem Un.laid(k:∀ b u,h.get? b=some u->h'.get? b=some u)(hp:h.objs.size<=a)(hn:H a=none):Un fs ex H (upd H a o) h h' where
 keep:=fun b u q _ _ _=>k b u q
 slot:=fun b u q _ _ _=>⟨u.slots,k b u q⟩
 free:=fun b u q n _=>by rw[ar (FD (FJ (Ft q) hp))];exact n
 there:=fun b u q _=>⟨u,k b u q⟩
 tups:=fun b xs q=>by rw[ar (aA q hn)];exact q
 frzs:=fun b u xs q=>by rw[ar (aA q hn)];exact q
 tbls:=fun b ps q=>⟨#[],by rw[ar (aA q hn),q];simp⟩
theorem Un.write(mu:Mut (H x))(he:e=x\/H e=some (.own x))(k:∀ b u,b≠e->h.get? b=some u->h'.get? b=some u)(heo:∃ u,h'.get? e=some u):Un fs ex H (upd H x o) h h':=by
 have hx:∀ b,H b=none->b≠x:=fun b n z=>by subst z;rw[n]at mu;exact mu
 have hb:∀ b,H b=none->b≠e:=fun b n z=>by
  subst z;rcases he with r|r
  ·exact hx b n r
  ·rw[n]at r;cases r
 have hm:∀ b u,H b=some u->¬ Mut (some u)->b≠x:=fun b u q nm z=>by subst z;rw[q]at mu;exact nm mu
 refine⟨fun b u q n _ _=>k b u (hb b n) q,fun b u q n _ _=>⟨u.slots,k b u (hb b n) q⟩,fun b u q n _=>by rw[ar (hx b n)];exact n,fun b u q _=>?_,
  fun b xs q=>by rw[ar (hm b _ q fun z=>z)];exact q,fun b u xs q=>by rw[ar (hm b _ q fun z=>z)];exact q,fun b ps q=>⟨#[],by rw[ar (hm b _ q fun z=>z),q];simp⟩⟩
 by_cases hbe:b=e
 ·subst hbe;exact heo
 ·exact⟨u,k b u hbe q⟩
theorem Un.mono(u:Un fs ex H H1 h h1)(hs:∀ b∈fs,b∈fs')(hx:∀ b∈ex,b∈ex'):Un fs' ex' H H1 h h1:=
 ⟨fun b ob q n hb he=>u.keep b ob q n (fun z=>hb (hs b z)) fun z=>he (hx b z),fun _ _ q n _ he=>u.any q n fun z=>he (hx _ z),fun b ob q n he=>u.free b ob q n fun z=>he (hx b z),fun b ob q he=>u.there b ob q fun z=>he (hx b z),u.tups,u.frzs,u.tbls⟩
end
noncomputable def trk (h:Heap)(H:Hp):List Addr:=(List.range h.objs.size).filter fun a=>(H a).isSome
noncomputable def dG (h:Heap)(H:Hp):Heap:=PySem.W.hideAll h (trk h H)
theorem uK(h:Heap)(H:Hp):(dG h H).objs.size=h.objs.size:=PySem.W.hideAll_size _ _
theorem qg{H:Hp}(e:h.get? b=some o)(n:H b=none):(dG h H).get? b=some o:=
 PySem.W.hideAll_get _ e fun hm=>by
  have q:(H b).isSome=true:=(FH.mp hm).2;rw[n]at q;simp at q
theorem uy{H:Hp}(e:(dG h H).get? b=some o):h.get? b=some o/\H b=none:=by
 have e':h.get? b=some o:=PySem.W.of_hideAll (trk h H) e;refine⟨e',?_⟩;cases q:H b with
 | none=>rfl
 | some x=>
  have hm:b∈trk h H:=FH.mpr ⟨FT.mpr (Ft e'),by simp [q]⟩
  have z:(dG h H).get? b=none:=PySem.W.hideAll_none (trk h H) hm;rw[z]at e;cases e
noncomputable def yc (g h:Heap)(L:Addr):List (Addr×Obj):=(List.range h.objs.size).filterMap fun a=>if a=L\/(g.get? a).isSome=true then none else(h.get? a).map fun o=>(a,o)
noncomputable def rest (g h:Heap)(L d:Addr):List (Addr×Obj):=(yc g h L).filter fun p=>decide (p.1≠d)
structure Mod (K:PySem.W.Frag)(mg:Str->Option Value)(base:Heap):Prop where
 kin:K.In base
 glob:base.Ns mainGlobals mg
 blt:∃ mb,base.Ns builtinsNs mb/\∀ x:Str,x≠"__name__"->mb x=bootBuiltins x
 nolimit:base.NoLimit
structure Cx where
 prog:Program
 w:World
 K:PySem.W.Frag
 mg:Str->Option Value
 base:Heap
 A:Around
 N:List Str
 s₀:Shared
 H₀:Hp
 env:Env
 outer:List Env
 stack:List Env
 ex:List Addr
 fn:Str->Bool
 calm:Bool
 pn:List (Addr×Obj)
 xe:Value->Shared->Prop
noncomputable def frs (l:List Env):List Addr:=l.filterMap (·.frame)
noncomputable abbrev Cx.fs (X:Cx):List Addr:=frs X.outer
noncomputable def Vis (sc:Scope)(x:Str):Prop:=sc.names.lookup x=some .local\/sc.names.lookup x=some .cell\/sc.names.lookup x=some .free
noncomputable def Loc (sc:Scope)(x:Str):Prop:=sc.names.lookup x=some .local\/sc.names.lookup x=some .cell
noncomputable def Look (env:Env)(h:Heap)(m:Str->Option Value)(x:Str)(u:Value):Prop:=
 (env.kindOf x=some .local/\m x=some u)\/((env.kindOf x=some .cell\/env.kindOf x=some .free)/\∃ c,env.cells.lookup x=some c/\h.IsCell c (some u))
structure Cx.Ok (X:Cx):Prop where
 mod:Mod X.K X.mg X.base
 kind:X.env.scope.kind=.function
 glob:X.env.globals=mainGlobals
 blt:X.env.builtins=builtinsNs
 above:X.s₀.heap.objs.size<=X.env.locals
 inj:∀ x y c,X.env.cells.lookup x=some c->X.env.cells.lookup y=some c->x=y
 has:∀ x,(X.env.kindOf x=some .cell\/X.env.kindOf x=some .free)->∃ c,X.env.cells.lookup x=some c
 cab:∀ x c,X.fn x=true->X.env.cells.lookup x=some c->X.s₀.heap.objs.size<=c
 hd:X.calm=true->X.A.handled=none
 frames:X.A.frames=some X.stack
 stk:X.stack=X.outer\/(X.stack=X.env::X.outer/\X.env.frame=some X.env.locals)
 exf:∀ b∈X.ex,b≠X.env.locals/\∀ x c,X.env.cells.lookup x=some c->c≠b
 bs:∀ b o,X.base.get? b=some o->X.s₀.heap.get? b=some o/\X.H₀ b=none
 bsz:X.base.objs.size<=X.s₀.heap.objs.size
 noex:∀ b o,X.base.get? b=some o->b∉X.ex
 exfs:∀ b∈X.ex,b∉X.fs
 cA:X.s₀.heap.FunFrames X.base X.outer
 frf:∀ b∈X.fs,X.H₀ b=none
structure Inv (X:Cx)(pins:List (Addr×Obj))(σ:List (Option V))(H:Hp)(s:Shared):Prop where
 ok:X.Ok
 os:s.os=X.s₀.os
 bare:AllBare s.gens
 base:Un X.fs X.ex X.H₀ H X.s₀.heap s.heap
 loc:∃ m,s.heap.Ns X.env.locals m/\∀(i:Nat) (x:Str) (v:V),X.N[i]? =some x->σ[i]? =some (some v)->Vis X.env.scope x->∃ u,RelV v u/\Look X.env s.heap m x u
 cell:∀ x c,X.env.cells.lookup x=some c->∃ v,s.heap.IsCell c v
 free:H X.env.locals=none
 freeC:∀ x c,X.env.cells.lookup x=some c->H c=none
 pin:∀ p∈X.pn++pins,s.heap.get? p.1=some p.2/\H p.1=none/\p.1≠X.env.locals/\p.1∉X.fs/\∀ v,p.2.data≠.cell v
 hok:HOk X.prog X.w H s.heap
 len:σ.length=X.N.length
section
variable {X:Cx}{pins:List (Addr×Obj)}{σ:List (Option V)}{H H':Hp}{s:Shared}{h':Heap}
theorem Cx.Ok.qB(ok:X.Ok)(e:X.base.get? b=some o):b∉X.fs:=fun hb=>by
 have:=(ok.cA.mem hb).1
 rw[e]at this;cases this
theorem Inv.bs(I:Inv X pins σ H s):∀ b o,X.base.get? b=some o->s.heap.get? b=some o/\H b=none:=fun b o e=>
 ⟨I.base.keep b o (I.ok.bs b o e).1 (I.ok.bs b o e).2 (I.ok.qB e) (I.ok.noex b o e),I.base.free b o (I.ok.bs b o e).1 (I.ok.bs b o e).2 (I.ok.noex b o e)⟩
theorem Inv.bk(I:Inv X pins σ H s):∀ b o,X.base.get? b=some o->s.heap.get? b=some o:=fun b o e=>(I.bs b o e).1
theorem Inv.mod(I:Inv X pins σ H s):Mod X.K X.mg X.base:=I.ok.mod
theorem Inv.kIn(I:Inv X pins σ H s):X.K.In s.heap:=I.ok.mod.kin.keeps I.bk
theorem Inv.lt(I:Inv X pins σ H s):X.env.locals<s.heap.objs.size:=let ⟨_,hn,_⟩:=I.loc;hn.lt
theorem Inv.sz(I:Inv X pins σ H s):X.s₀.heap.objs.size<=s.heap.objs.size:=FL I.ok.above (GL I.lt)
theorem Inv.zI(I:Inv X pins σ H s)(h:s.heap.objs.size<=a):a∉X.fs:=fun hb=>by
 obtain⟨_,o,ho,_⟩:=I.ok.cA.mem hb;exact absurd (FJ (Ft ho) (FL I.sz h)) (Gm _)
theorem Inv.cne(I:Inv X pins σ H s):∀ x c,X.env.cells.lookup x=some c->c≠X.env.locals:=fun x c e z=>by
 obtain⟨v,o,ho,hd⟩:=I.cell x c e;obtain⟨m,⟨o',es,ep,ho',hd',_⟩,_⟩:=I.loc;rw[z,ho']at ho;cases ho;rw[hd']at hd;cases hd
theorem Inv.cA(I:Inv X pins σ H s):s.heap.FunFrames X.base X.outer:=by
 have all:∀(l:List Env),(∀ b∈frs l,b∈X.fs)->X.s₀.heap.FunFrames X.base l->s.heap.FunFrames X.base l:=by
  intro l;induction l with
  | nil=>intro _ _;trivial
  | cons env r ih=>
   intro hs hl;obtain⟨hk,⟨L,o,hf,hn,ho,hd⟩,hr⟩:=hl;have hL:L∈X.fs:=hs L (by unfold frs;rw[FN,hf];exact Fd)
   obtain⟨sl,e⟩:=I.base.slot L o ho (I.ok.frf L hL) hL fun z=>I.ok.exfs L z hL
   exact⟨hk,⟨L,_,hf,hn,e,hd⟩,ih (fun b hb=>hs b (by unfold frs;rw[FN,hf];exact Ff _ hb)) hr⟩
 exact all X.outer (fun _ hb=>hb) I.ok.cA
theorem Inv.stack(I:Inv X pins σ H s):s.heap.FunFrames X.base X.stack:=by
 rcases I.ok.stk with e|⟨e,hf⟩
 ·rw[e];exact I.cA
 ·rw[e];obtain⟨m,hn,_⟩:=I.loc;refine .cons (by rw[I.ok.kind];decide) hf hn ?_ I.cA
  exact Heap.get?_none_of_le (FL I.ok.bsz I.ok.above)
theorem Inv.fC(I:Inv X pins σ H s):∀ b∈frs X.stack,b∈X.env.locals::X.fs:=fun b hb=>by
 rcases I.ok.stk with e|⟨e,hf⟩
 ·rw[e]at hb;exact Ff _ hb
 ·rw[e]at hb;unfold frs at hb;rw[FN,hf]at hb;exact hb
theorem Inv.oH(I:Inv X pins σ H s):∀ b∈frs X.stack,H b=none:=fun b hb=>by
 rcases Fn.mp (I.fC b hb) with e|hb
 ·rw[e];exact I.free
 ·obtain⟨_,o,ho,_⟩:=I.ok.cA.mem hb;exact I.base.free b o ho (I.ok.frf b hb) fun z=>I.ok.exfs b z hb
theorem Inv.step{g':Array GenState}{d':Drawn}{ch:List Addr}(I:Inv X pins σ H s)(hch:∀ b∈ch,(b∈X.ex\/X.s₀.heap.objs.size<=b)/\b≠X.env.locals/\(∀ x c,X.env.cells.lookup x=some c->c≠b)/\∀ p∈X.pn++pins,p.1≠b)(keep:∀ b o,b≠X.env.locals->b∉X.fs->b∉ch->s.heap.get? b=some o->H b=none->h'.get? b=some o)(slot:∀ b o,b≠X.env.locals->b∈X.fs->b∉ch->s.heap.get? b=some o->H b=none->∃ sl,h'.get? b=some { o with slots:=sl })(free:∀ b o,b∉ch->s.heap.get? b=some o->H b=none->H' b=none)(there:∀ b o,b∉ch->s.heap.get? b=some o->∃ o',h'.get? b=some o')(tups:∀ b xs,H b=some (.tup xs)->H' b=some (.tup xs))(frzs:∀ b o u,H b=some (.frz o u)->H' b=some (.frz o u))(tbls:∀ b ps,H b=some (.tbl ps)->∃ more,H' b=some (.tbl (ps++more)))(ns:∀ m,s.heap.Ns X.env.locals m->h'.Ns X.env.locals m)(hok:HOk X.prog X.w H' h')(hg:AllBare g') :
  Inv X pins σ H' { s with heap:=h',gens:=g',drawn:=d',toks:=t' }:=by
 have neL:∀ b o,X.s₀.heap.get? b=some o->b≠X.env.locals:=fun b o e=>FD (FJ (Ft e) I.ok.above)
 have neC:∀ b o,X.s₀.heap.get? b=some o->b∉X.ex->b∉ch:=fun b o e hx hb=>by
  rcases(hch b hb).1 with z|z
  ·exact hx z
  ·exact absurd (FJ (Ft e) z) (Gm _)
 have cellK:∀ x c,X.env.cells.lookup x=some c->∀ v,s.heap.IsCell c v->h'.IsCell c v:=fun x c e v ⟨o,ho,hd⟩=>by
  have nch:c∉ch:=fun z=>(hch c z).2.2.1 x c e rfl
  by_cases hc:c∈X.fs
  ·obtain⟨sl,q⟩:=slot c o (I.cne x c e) hc nch ho (I.freeC x c e);exact⟨_,q,hd⟩
  ·exact⟨o,keep c o (I.cne x c e) hc nch ho (I.freeC x c e),hd⟩
 refine⟨I.ok,I.os,hg,⟨fun b o e n hb hx=>?_,fun b o e n hb hx=>?_,fun b o e n hx=>?_,fun b o e hx=>?_,fun b xs e=>tups b xs (I.base.tups b xs e),fun b o xs e=>frzs b o xs (I.base.frzs b o xs e),fun b ps e=>?_⟩,?_,fun x c e=>?_,?_,fun x c e=>?_,fun p hp=>?_,hok,I.len⟩
 ·exact keep b o (neL b o e) hb (neC b o e hx) (I.base.keep b o e n hb hx) (I.base.free b o e n hx)
 ·obtain⟨sl,e1⟩:=I.base.slot b o e n hb hx;obtain⟨sl',e2⟩:=slot b _ (neL b o e) hb (neC b o e hx) e1 (I.base.free b o e n hx);exact⟨sl',e2⟩
 ·obtain⟨o',e1⟩:=I.base.there b o e hx;exact free b o' (neC b o e hx) e1 (I.base.free b o e n hx)
 ·obtain⟨o',e1⟩:=I.base.there b o e hx;exact there b o' (neC b o e hx) e1
 ·obtain⟨m1,e1⟩:=I.base.tbls b ps e;obtain⟨m2,e2⟩:=tbls b _ e1;exact⟨m1++m2,by rw[e2,Array.append_assoc]⟩
 ·obtain⟨m,hn,hl⟩:=I.loc;refine⟨m,ns m hn,fun i x v e1 e2 e3=>?_⟩
  obtain⟨u,r,l⟩:=hl i x v e1 e2 e3;refine⟨u,r,?_⟩;rcases l with l|⟨k,c,e,z⟩
  ·exact .inl l
  ·exact .inr ⟨k,c,e,cellK x c e _ z⟩
 ·obtain⟨v,z⟩:=I.cell x c e;exact⟨v,cellK x c e v z⟩
 ·obtain⟨m,⟨o,_,_,ho,_⟩,_⟩:=I.loc;exact free _ o (fun z=>(hch _ z).2.1 rfl) ho I.free
 ·obtain⟨v,o,ho,hd⟩:=I.cell x c e;exact free c o (fun z=>(hch c z).2.2.1 x c e rfl) ho (I.freeC x c e)
 ·obtain⟨e,n,ne,nf,d⟩:=I.pin p hp;have nch:p.1∉ch:=fun z=>(hch p.1 z).2.2.2 p hp rfl
  exact⟨keep p.1 p.2 ne nf nch e n,free p.1 p.2 nch e n,ne,nf,d⟩
theorem Inv.un(I:Inv X pins σ H s)(u:Un X.fs [] H H' s.heap h')(hok:HOk X.prog X.w H' h'):Inv X pins σ H' { s with heap:=h',toks:=t' }:=by
 obtain⟨m,⟨o,es,ep,ho,r⟩,_⟩:=id I.loc;obtain⟨sl,hL⟩:=u.any ho I.free (by simp)
 exact I.step (g':=s.gens) (d':=s.drawn) (ch:=[]) (fun _ z=>nomatch z) (fun b o _ hb _ e n=>u.keep b o e n hb (by simp)) (fun b o _ hb _ e n=>u.slot b o e n hb (by simp)) (fun b o _ e n=>u.free b o e n (by simp)) (fun b o _ e=>u.there b o e (by simp)) u.tups u.frzs u.tbls (fun m' hm=>by
  obtain⟨o',es',ep',ho',r'⟩:=hm;rw[ho]at ho';cases ho'
  exact⟨_,es',ep',hL,r'⟩) hok I.bare
theorem Inv.call{g':Array GenState}{d':Drawn}{ch:List Addr}(I:Inv X pins σ H s)(u:Un (frs X.stack) ch H H' s.heap h')(hok:HOk X.prog X.w H' h')(hg:AllBare g')(hch:∀ b∈ch,(b∈X.ex\/X.s₀.heap.objs.size<=b)/\b≠X.env.locals/\(∀ x c,X.env.cells.lookup x=some c->c≠b)/\∀ p∈X.pn++pins,p.1≠b) :
  Inv X pins σ H' { s with heap:=h',gens:=g',drawn:=d',toks:=t' }:=by
 obtain⟨m,⟨o,es,ep,ho,r⟩,_⟩:=id I.loc;obtain⟨sl,hL⟩:=u.any ho I.free fun z=>(hch _ z).2.1 rfl
 exact I.step (ch:=ch) hch (fun b o hL hb hc e n=>u.keep b o e n (fun z=>(Fn.mp (I.fC b z)).elim hL hb) hc) (fun b o _ _ hc e n=>u.any e n hc) (fun b o hc e n=>u.free b o e n hc) (fun b o hc e=>u.there b o e hc) u.tups u.frzs u.tbls (fun m' hm=>by
  obtain⟨o',es',ep',ho',r'⟩:=hm;rw[ho]at ho';cases ho'
  exact⟨_,es',ep',hL,r'⟩) hok hg
theorem Inv.turned(I:Inv X pins σ H s)(k:∀ b o,b≠it->s.heap.get? b=some o->h'.get? b=some o)(hn:H it=none)(hL:it≠X.env.locals)(h1:it∈X.ex\/X.s₀.heap.objs.size<=it)(h2:∀ x c,X.env.cells.lookup x=some c->c≠it)(h3:∀ p∈X.pn++pins,p.1≠it):Inv X pins σ H { s with heap:=h',toks:=t' }:=by
 have nit:∀ b u,H b=some u->b≠it:=fun b u e z=>by rw[z,hn]at e;cases e
 refine I.step (g':=s.gens) (d':=s.drawn) (ch:=[it]) (fun b hb=>?_) (fun b o _ _ hc e _=>k b o (fun z=>hc (by simp [z])) e) (fun b o _ _ hc e _=>⟨o.slots,k b o (fun z=>hc (by simp [z])) e⟩) (fun _ _ _ _ n=>n)
  (fun b o hc e=>⟨o,k b o (fun z=>hc (by simp [z])) e⟩) (fun _ _ e=>e) (fun _ _ _ e=>e) (fun b ps e=>⟨#[],by rw[e];simp⟩) (fun m hm=>?_) (fun b u e=>?_) I.bare
 ·have e:b=it:=by simpa using hb
  subst e;exact⟨h1,hL,h2,h3⟩
 ·obtain⟨o,es,ep,ho,r⟩:=hm;exact⟨o,es,ep,k _ o (Ne.symm hL) ho,r⟩
 ·refine(I.hok b u e).ef (fun c v hc q=>k c v ?_ q) (fun _ q=>q) fun _ _ q=>q
  rcases hc with z|z
  ·rw[z];exact nit b u e
  ·exact nit c _ z
theorem Inv.tok(I:Inv X pins σ H s)(t:Nat):Inv X pins σ H { s with toks:=t }:=I.un (h':=s.heap) (t':=t) Un.refl I.hok
theorem Inv.kept(I:Inv X pins σ H s)(k:∀ b u,s.heap.get? b=some u->h'.get? b=some u):Inv X pins σ H { s with heap:=h',toks:=t' }:=I.un (Un.kept k) (I.hok.kept k)
theorem Inv.laid{o:HO}(I:Inv X pins σ H s)(k:∀ b u,s.heap.get? b=some u->h'.get? b=some u)(hp:s.heap.objs.size<=a)(new:au X.prog X.w (upd H a o) h' a o) :
  Inv X pins σ (upd H a o) { s with heap:=h',toks:=t' }:=I.un (Un.laid k hp (I.hok.fresh hp)) (I.hok.laid k hp new)
theorem Inv.write{x e:Addr}{o:HO}(I:Inv X pins σ H s)(mu:Mut (H x))(he:e=x\/H e=some (.own x))(k:∀ b u,b≠e->s.heap.get? b=some u->h'.get? b=some u)(heo:∃ u,h'.get? e=some u)(new:au X.prog X.w (upd H x o) h' x o):Inv X pins σ (upd H x o) { s with heap:=h',toks:=t' }:=I.un (Un.write mu he k heo) (I.hok.write mu he k heo new)
theorem Inv.weak{σ':List (Option V)}(I:Inv X pins σ H s)(hl:σ'.length=σ.length)(w:∀(i:Nat) v,σ'[i]? =some (some v)->σ[i]? =some (some v)):Inv X pins σ' H s:=
 ⟨I.ok,I.os,I.bare,I.base,let ⟨m,hn,hl'⟩:=I.loc;⟨m,hn,fun i x v e1 e2 e3=>hl' i x v e1 (w i v e2) e3⟩,I.cell,I.free,I.freeC,I.pin,I.hok,hl.trans I.len⟩
theorem Inv.sv{pins':List (Addr×Obj)}(I:Inv X pins σ H s)(h:∀ p∈pins',s.heap.get? p.1=some p.2/\H p.1=none/\p.1≠X.env.locals/\p.1∉X.fs/\∀ v,p.2.data≠.cell v):Inv X pins' σ H s:=
 ⟨I.ok,I.os,I.bare,I.base,I.loc,I.cell,I.free,I.freeC,fun p hp=>(Fs.mp hp).elim (fun z=>I.pin p (Gd _ z)) (h p),I.hok,I.len⟩
theorem vq(hN:N.Nodup)(a:N[i]? =some x)(b:N[j]? =some x):i=j:=by
 obtain⟨h1,e1⟩:=Fp.mp a;obtain⟨h2,e2⟩:=Fp.mp b
 exact(List.getElem_inj hN).mp (e1.trans e2.symm)
theorem sN{M:Model}{v:V}{Q:Unit->Shared->Prop}(I:Inv X pins σ H s)(hN:X.N.Nodup)(hi:X.N[i]? =some x)(hx:Loc X.env.scope x)(r:RelV v u)(h:∀ s',Inv X pins (σ.set i (some v)) H s'->(∃ a,Heap.SameBut a s.heap s'.heap/\(a=X.env.locals\/X.env.cells.lookup x=some a))->Q () s')(hf:X.fn x=true\/X.env.scope.names.lookup x=some .local:=by first|exact .inl rfl|exact .inr rfl|assumption):wpAny M A (storeName X.env x u) Q E s:=by
 obtain⟨m,hn,hl⟩:=id I.loc;have hcls:(X.env.scope.kind==.class||(X.env.scope.kind==.module&&X.env.locals !=X.env.globals))=false:=by rw[I.ok.kind];rfl
 have hiσ:i<σ.length:=by rw[I.len];exact(Fp.mp hi).1
 have cne:=I.cne;have tracked:∀{a:Addr} {h':Heap},(∃ o,s.heap.get? a=some o/\H a=none)->Heap.SameBut a s.heap h'->HOk X.prog X.w H h':=fun {a h'} ha hs b ob e=>by
  obtain⟨_,_,hfree⟩:=ha;refine(I.hok b ob e).ef (fun c w' hc q=>(hs.2 c ?_).trans q) (fun _ q=>q) fun _ _ q=>q
  rintro rfl;rcases hc with rfl|hc
  ·rw[hfree]at e;cases e
  ·rw[hfree]at hc;cases hc
 rcases hx with hk|hk
 ·refine wpAny_storeName_local hk hn (fun h' hn' hs=>?_) hcls
  obtain⟨oL,_,_,hoL,_⟩:=id hn;refine h _ ⟨I.ok,I.os,I.bare,⟨fun b o e n hb hx=>?_,fun b o e n hb hx=>?_,I.base.free,fun b o e hx=>?_,I.base.tups,I.base.frzs,I.base.tbls⟩,⟨_,hn',fun j y v' e1 e2 e3=>?_⟩,fun y c e=>?_,I.free,I.freeC,fun p hp=>?_,tracked ⟨oL,hoL,I.free⟩ hs,by simpa using I.len⟩ ⟨_,hs,.inl rfl⟩
  ·exact(hs.2 b (FD (FJ (Ft e) I.ok.above))).trans (I.base.keep b o e n hb hx)
  ·obtain⟨sl,e1⟩:=I.base.slot b o e n hb hx;exact⟨sl,(hs.2 b (FD (FJ (Ft e) I.ok.above))).trans e1⟩
  ·obtain⟨o',e1⟩:=I.base.there b o e hx;exact⟨o',(hs.2 b (FD (FJ (Ft e) I.ok.above))).trans e1⟩
  ·by_cases hj:j=i
   ·subst hj;rw[hi]at e1;cases e1
    rw[List.getElem?_set_self hiσ]at e2;cases e2
    exact⟨u,r,.inl ⟨hk,by simp⟩⟩
   ·rw[List.getElem?_set_ne (Ne.symm hj)]at e2;obtain⟨u',r',q⟩:=hl j y v' e1 e2 e3;refine⟨u',r',?_⟩;rcases q with⟨k,e⟩|⟨k,c,e,z⟩
    ·refine .inl ⟨k,?_⟩
     have:y≠x:=fun e=>hj (vq hN e1 (e▸hi))
     simp [this,e]
    ·exact .inr ⟨k,c,e,z.sameBut hs (cne y c e)⟩
  ·obtain⟨w',z⟩:=I.cell y c e;exact⟨w',z.sameBut hs (cne y c e)⟩
  ·obtain⟨e,n,ne,nf,d⟩:=I.pin p hp;exact⟨(hs.2 p.1 ne).trans e,n,ne,nf,d⟩
 ·have hfn:X.fn x=true:=by
   rcases hf with z|z
   ·exact z
   ·rw[z]at hk;cases hk
  obtain⟨c,hc⟩:=I.ok.has x (.inl hk);obtain⟨w',z⟩:=I.cell x c hc;refine wpAny_storeName_cell I.ok.kind hk hc z (fun h' hc' hs=>?_)
  obtain⟨oc,hoc,hocd⟩:=id z;refine h { s with heap:=h' } ⟨I.ok,I.os,I.bare,⟨fun b o e n hb hx=>?_,fun b o e n hb hx=>?_,I.base.free,fun b o e hx=>?_,I.base.tups,I.base.frzs,I.base.tbls⟩,⟨m,hn.sameBut hs (Ne.symm (cne x c hc)),fun j y v' e1 e2 e3=>?_⟩,fun y c' e=>?_,I.free,I.freeC,fun p hp=>?_,tracked ⟨oc,hoc,I.freeC x c hc⟩ hs,by simpa using I.len⟩ ⟨c,hs,.inr hc⟩
  ·exact(hs.2 b (FD (FJ (Ft e) (I.ok.cab x c hfn hc)))).trans (I.base.keep b o e n hb hx)
  ·obtain⟨sl,e1⟩:=I.base.slot b o e n hb hx;exact⟨sl,(hs.2 b (FD (FJ (Ft e) (I.ok.cab x c hfn hc)))).trans e1⟩
  ·obtain⟨o',e1⟩:=I.base.there b o e hx;exact⟨o',(hs.2 b (FD (FJ (Ft e) (I.ok.cab x c hfn hc)))).trans e1⟩
  ·by_cases hj:j=i
   ·subst hj;rw[hi]at e1;cases e1
    rw[List.getElem?_set_self hiσ]at e2;cases e2
    exact⟨u,r,.inr ⟨.inl hk,c,hc,hc'⟩⟩
   ·rw[List.getElem?_set_ne (Ne.symm hj)]at e2;obtain⟨u',r',q⟩:=hl j y v' e1 e2 e3;refine⟨u',r',?_⟩;rcases q with q|⟨k,c',e,z'⟩
    ·exact .inl q
    ·refine .inr ⟨k,c',e,z'.sameBut hs ?_⟩;rintro rfl;exact hj (vq hN e1 (I.ok.inj _ _ _ e hc▸hi))
  ·by_cases hcc:c'=c
   ·subst hcc;exact⟨_,hc'⟩
   ·obtain⟨w2,z2⟩:=I.cell y c' e;exact⟨w2,z2.sameBut hs hcc⟩
  ·obtain⟨e,n,ne,nf,d⟩:=I.pin p hp;refine⟨(hs.2 p.1 ?_).trans e,n,ne,nf,d⟩;intro q;rw[q,hoc]at e;have q':oc=p.2:=Fw e;exact d w' (by rw[<-q'];exact hocd)
theorem qW{M:Model}{v:V}{Q:Unit->Shared->Prop}(I:Inv X pins σ H s)(hN:X.N.Nodup)(hi:X.N[i]? =some x)(hx:Loc X.env.scope x)(r:RelV v u)(h:∀ s',Inv X pins (σ.set i (some v)) H s'->Q () s')(hf:X.fn x=true\/X.env.scope.names.lookup x=some .local:=by first|exact .inl rfl|exact .inr rfl|assumption):wpAny M A (storeName X.env x u) Q E s:=
 sN I hN hi hx r (fun s' I' _=>h s' I') hf
theorem Inv.AZ{s':Shared}{ch:List Addr}(I:Inv X pins σ H s)(ho:s'.os=s.os)(u:Un (frs X.stack) ch H H' s.heap s'.heap)(hok:HOk X.prog X.w H' s'.heap)(hg:AllBare s'.gens)(hch:∀ b∈ch,(b∈X.ex\/X.s₀.heap.objs.size<=b)/\b≠X.env.locals/\(∀ x c,X.env.cells.lookup x=some c->c≠b)/\∀ p∈X.pn++pins,p.1≠b):Inv X pins σ H' s':=by
 obtain⟨h',g',d',t',o'⟩:=s';have e:o'=s.os:=ho;subst e;exact I.call (g':=g') (t':=t') (d':=d') u hok hg hch
end
noncomputable abbrev XK:=Value->Option Addr->Hp->Prop
noncomputable abbrev St:=List (Option V)
noncomputable abbrev VK:=V->Hp->Prop
noncomputable abbrev TE:=St->Hp->VK->Prop
noncomputable abbrev TT:=St->Hp->(Bool->Hp->Prop)->Prop
noncomputable abbrev TA:=St->Hp->(List V->Hp->Prop)->Prop
structure Ends where
 nx:St->Hp->Prop
 rt:VK
 bk:St->Hp->Prop:=fun _ _=>False
 ct:St->Hp->Prop:=fun _ _=>False
noncomputable abbrev TS:=Ends->St->Hp->Prop
noncomputable def EP (X:Cx)(pins:List (Addr×Obj))(σ:St)(Q:VK)(u:Value)(s':Shared):Prop:=∃ v H',Inv X pins σ H' s'/\RelV v u/\Q v H'
noncomputable def TP (X:Cx)(pins:List (Addr×Obj))(σ:St)(Q:Bool->Hp->Prop)(b:Bool)(s':Shared):Prop:=∃ H',Inv X pins σ H' s'/\Q b H'
noncomputable def AP (X:Cx)(pins:List (Addr×Obj))(σ:St)(Q:List V->Hp->Prop)(us:List Value)(s':Shared):Prop:=∃ vs H',Inv X pins σ H' s'/\Vals vs us/\Q vs H'
noncomputable def SP (X:Cx)(pins:List (Addr×Obj))(D:Ends)(f:Flow)(s':Shared):Prop:=
 match f with
 | .next=>∃ σ' H',Inv X pins σ' H' s'/\D.nx σ' H'
 | .brk=>∃ σ' H',Inv X pins σ' H' s'/\D.bk σ' H'
 | .cont=>∃ σ' H',Inv X pins σ' H' s'/\D.ct σ' H'
 | .ret u=>∃ v σ' H',Inv X pins σ' H' s'/\RelV v u/\D.rt v H'
noncomputable def PE (X:Cx)(e:Expr)(t:TE):Prop:=
 ∀(pins:List (Addr×Obj)) (s:Shared) (σ:St) (H:Hp) (Q:VK),Inv X pins σ H s->t σ H Q->wpAny (model X.prog X.w) X.A (eval e X.env) (EP X pins σ Q) X.xe s
noncomputable def PT (X:Cx)(e:Expr)(t:TT):Prop:=
 ∀(pins:List (Addr×Obj)) (s:Shared) (σ:St) (H:Hp) (Q:Bool->Hp->Prop),Inv X pins σ H s->t σ H Q->wpAny (model X.prog X.w) X.A (isTrue e X.env (eval e X.env)) (TP X pins σ Q) X.xe s
noncomputable def PW (X:Cx)(e:Expr)(t:TT):Prop:=
 ∀(whole:Sem Value) (pins:List (Addr×Obj)) (s:Shared) (σ:St) (H:Hp) (Q:Bool->Hp->Prop),Inv X pins σ H s->t σ H Q->wpAny (model X.prog X.w) X.A (isTrue e X.env whole) (TP X pins σ Q) X.xe s
theorem PW.pt{X:Cx}{t:TT}(h:PW X e t):PT X e t:=h _
noncomputable def PA (X:Cx)(es:List Expr)(t:TA):Prop:=
 ∀(pos:Pos) (pins:List (Addr×Obj)) (s:Shared) (σ:St) (H:Hp) (Q:List V->Hp->Prop),Inv X pins σ H s->t σ H Q->wpAny (model X.prog X.w) X.A (spliced (backTo pos (starEach es X.env))) (AP X pins σ Q) X.xe s
noncomputable def PS (X:Cx)(st:Stmt)(t:TS):Prop:=
 ∀(pins:List (Addr×Obj)) (s:Shared) (σ:St) (H:Hp) (D:Ends),Inv X pins σ H s->t D σ H->wpAny (model X.prog X.w) X.A (exec st X.env) (SP X pins D) X.xe s
noncomputable def PSs (X:Cx)(st:List Stmt)(t:TS):Prop:=
 ∀(pins:List (Addr×Obj)) (s:Shared) (σ:St) (H:Hp) (D:Ends),Inv X pins σ H s->t D σ H->wpAny (model X.prog X.w) X.A (execs st X.env) (SP X pins D) X.xe s
theorem thn{α:Type}{t:Sem α}{Q Q':α->Shared->Prop}{M:Model}(h:wpAny M A t Q E s)(hQ:∀ a s,Q a s->Q' a s):wpAny M A t Q' E s:=Gf h hQ fun _ _ x=>x
section
variable {X:Cx}
noncomputable def mw (i:Nat):TE:=fun σ H Q=>∃ v,σ[i]? =some (some v)/\Q v H
noncomputable def tC (v:V):TE:=fun _ H Q=>Q v H
theorem AQ(hN:X.N[i]? =some x)(hv:Vis X.env.scope x)(hd:(x==("__debug__":Str))=false:=by decide) (hcd:(x==("__classdict__":Str))=false:=by decide):PE X (.Name x pos) (mw i):=by
 intro pins s σ H Q I h;obtain⟨v,e,h⟩:=h;obtain⟨m,hn,hl⟩:=I.loc;obtain⟨u,r,l⟩:=hl i x v hN e hv;have fin:EP X pins σ Q u s:=⟨v,H,I,r,h⟩;rcases l with⟨hk,hm⟩|⟨hk,c,hc,hcell⟩
 ·exact wpAny_Name (wpAny_loadName_local I.ok.kind hk hn hm fin) hd
 ·rcases hk with hk|hk
  ·exact wpAny_Name (wpAny_loadName_cell I.ok.kind hk hc hcell fin) hd
  ·exact wpAny_Name (wpAny_loadName_free I.ok.kind hk hc hcell fin hcd) hd
theorem ae{i j pos}:PE X (.Constant (.int i) j pos) (tC (.int i)):=fun _ _ _ H _ I h=>wpAny_Constant_int ⟨.int i,H,I.tok _,⟨_,rfl⟩,h⟩
theorem cZ{b j pos}:PE X (.Constant (.bool b) j pos) (tC (.bl b)):=fun _ _ _ H _ I h=>Constant_bool ⟨.bl b,H,I,rfl,h⟩
theorem et{j pos}:PE X (.Constant .none j pos) (tC .non):=fun _ _ _ H _ I h=>Constant_none ⟨.non,H,I,rfl,h⟩
theorem gR{x j pos}:PE X (.Constant (.str x) j pos) (tC (.str x)):=fun _ _ _ H _ I h=>Calls.Constant_str ⟨.str x,H,I.tok _,⟨_,rfl⟩,h⟩
noncomputable def Gl (X:Cx)(x:Str):Prop:=X.env.kindOf x=some .globalImplicit
theorem jt{σ:St}{H:Hp}(I:Inv X pins σ H s)(hg:Gl X x)(hm:X.mg x=some u)(h:Q u s)(hd:(x==("__debug__":Str))=false:=by decide):wpAny (model X.prog X.w) X.A (eval (.Name x pos) X.env) Q E s:=
 Calls.Name_function_global I.ok.kind hg (Calls.loadGlobal_global (by rw[I.ok.glob];exact I.mod.glob.keeps I.bk) hm h) hd
theorem jT{σ:St}{H:Hp}(I:Inv X pins σ H s)(hg:Gl X x)(hm:X.mg x=none)(hv:bootBuiltins x=some u)(h:Q u s)(hn:x≠"__name__":=by decide) (hd:(x==("__debug__":Str))=false:=by decide):wpAny (model X.prog X.w) X.A (eval (.Name x pos) X.env) Q E s:=by
 obtain⟨mb,h1,h2⟩:=I.mod.blt;exact Calls.Name_function_global I.ok.kind hg (Calls.loadGlobal_builtin (by rw[I.ok.glob];exact I.mod.glob.keeps I.bk) hm (by rw[I.ok.blt];exact h1.keeps I.bk) ((h2 x hn).trans hv) h) hd
theorem tP{v:V}(hg:Gl X x)(hm:X.mg x=some u)(r:RelV v u)(hd:(x==("__debug__":Str))=false:=by decide):PE X (.Name x pos) (tC v):=
 fun _ _ _ H _ I h=>jt I hg hm ⟨v,H,I,r,h⟩ hd
theorem DO{v:V}(hg:Gl X x)(hm:X.mg x=none)(hv:bootBuiltins x=some u)(r:RelV v u)(hn:x≠"__name__":=by decide) (hd:(x==("__debug__":Str))=false:=by decide):PE X (.Name x pos) (tC v):=
 fun _ _ _ H _ I h=>jT I hg hm hv ⟨v,H,I,r,h⟩ hn hd
variable {a b:Expr}{ta tb:TE}{pos:Pos}
variable {tA tB':TT}{rest:List Expr}
noncomputable def yb (t u:TT):TT:=fun σ H Q=>t σ H fun c H1=>if c=true then u σ H1 Q else Q false H1
noncomputable def tOr (t u:TT):TT:=fun σ H Q=>t σ H fun c H1=>if c=true then Q true H1 else u σ H1 Q
noncomputable def BS (t:TT):TT:=fun σ H Q=>t σ H fun c H1=>Q (!c) H1
theorem pw_and1(ha:PT X a tA):PW X (.BoolOp .And [a] pos) tA:=by
 intro wh pins s σ H Q I h;refine isTrue_and (thn (ha pins s σ H Q I h) fun c s1 e=>?_)
 cases c with
 | true=>exact isTrue_and_nil e
 | false=>exact e
theorem pw_or1(ha:PT X a tA):PW X (.BoolOp .Or [a] pos) tA:=by
 intro wh pins s σ H Q I h;refine isTrue_or (thn (ha pins s σ H Q I h) fun c s1 e=>?_)
 cases c with
 | false=>exact isTrue_or_nil e
 | true=>exact e
theorem pw_and(ha:PT X a tA)(hb:PW X (.BoolOp .And (b::rest) pos) tB'):PW X (.BoolOp .And (a::b::rest) pos) (yb tA tB'):=by
 intro wh pins s σ H Q I h;refine isTrue_and (thn (ha pins s σ H _ I h) fun c s1 hZ=>?_)
 obtain⟨H1,I1,q1⟩:=hZ;cases c with
 | true=>exact hb wh pins s1 σ H1 Q I1 q1
 | false=>exact⟨H1,I1,q1⟩
theorem pw_or(ha:PT X a tA)(hb:PW X (.BoolOp .Or (b::rest) pos) tB'):PW X (.BoolOp .Or (a::b::rest) pos) (tOr tA tB'):=by
 intro wh pins s σ H Q I h;refine isTrue_or (thn (ha pins s σ H _ I h) fun c s1 hZ=>?_)
 obtain⟨H1,I1,q1⟩:=hZ;cases c with
 | true=>exact⟨H1,I1,q1⟩
 | false=>exact hb wh pins s1 σ H1 Q I1 q1
theorem fH(ha:PT X a tA):PT X (.UnaryOp .Not a pos) (BS tA):=by
 intro pins s σ H Q I h;exact isTrue_not (ha pins s σ H (fun c H1=>Q (!c) H1) I h)
theorem kg{op}{t:TE}(h:PE X a t):PE X (.BoolOp op [a] pos) t:=fun pins s σ H Q I hw=>BoolOp_one (h pins s σ H Q I hw)
noncomputable def tIf (t:TT)(ta tb:TE):TE:=fun σ H Q=>t σ H fun c H1=>if c=true then ta σ H1 Q else tb σ H1 Q
theorem zi{c:Expr}(hc:PT X c tA)(ha:PE X a ta)(hb:PE X b tb):PE X (.IfExp c a b pos) (tIf tA ta tb):=by
 intro pins s σ H Q I h;refine wpAny_IfExp (thn (hc pins s σ H _ I h) fun d s1 hZ=>?_)
 obtain⟨H1,I1,q1⟩:=hZ;cases d with
 | true=>exact ha pins s1 σ H1 Q I1 q1
 | false=>exact hb pins s1 σ H1 Q I1 q1
end
noncomputable def SqL (K:PySem.W.Frag)(H:Hp)(a:Addr)(xs:List V):Prop:=
 Rd H a (.lst xs) ∨
  ∃(o:Obj) (its:Array Value) (n:Nat),K.lookup a=some o/\o.cls=.type "list"/\o.dict=none/\o.data=.seq its n/\its.size<=sizeLine/\Vals xs its.toList
noncomputable def SqT (K:PySem.W.Frag)(H:Hp)(a:Addr)(xs:List V):Prop:=
 Rd H a (.tup xs) ∨
  ∃(o:Obj) (its:Array Value) (n:Nat),K.lookup a=some o/\o.cls=.type "tuple"/\o.data=.seq its n/\its.size<=sizeLine/\Vals xs its.toList
noncomputable def vV:Value->Option V
 | .none=>some .non
 | .bool b=>some (.bl b)
 | .int i _=>some (.int i)
 | .str x _=>some (.str x)
 | .bytes b _=>some (.byt b)
 | .float b _=>some (.flt b)
 | .ref a=>some (.ref a)
 | .type n=>some (.ty n)
 | _=>none
theorem RelV.abs{x:V}(r:RelV x u):vV u=some x:=by
 cases x with
 | non=>cases r;rfl
 | bl _=>cases r;rfl
 | int _=>obtain⟨t,rfl⟩:=r;rfl
 | str _=>obtain⟨t,rfl⟩:=r;rfl
 | byt _=>obtain⟨t,rfl⟩:=r;rfl
 | flt _=>obtain⟨t,rfl⟩:=r;rfl
 | ref _=>cases r;rfl
 | ty _=>cases r;rfl
theorem RelV.inj{x y:V}(r:RelV x u)(q:RelV y u):x=y:=Fw (r.abs.symm.trans q.abs)
theorem Vals.inj:∀{xs ys:List V}{us:List Value},Vals xs us->Vals ys us->xs=ys
 | _,_,_,.nil,.nil=>rfl
 | _,_,_,.cons r t,.cons r' t'=>by rw[r.inj r',Vals.inj t t']
section
variable {X:Cx}{pins:List (Addr×Obj)}{σ:St}{H:Hp}{s:Shared}{a:Addr}{xs ys:List V}
theorem SqL.of{K:PySem.W.Frag}(h:H a=some (.lst xs)):SqL K H a xs:=.inl (.inl h)
theorem SqT.of{K:PySem.W.Frag}(h:H a=some (.tup xs)):SqT K H a xs:=.inl (.inl h)
theorem Inv.list(I:Inv X pins σ H s)(h:SqL X.K H a xs):∃ its:List Value,Vals xs its/\PlainL s.heap a its.toArray/\xs.length<=sizeLine:=by
 rcases h with h|⟨o,its,n,hk,hc,hd,hs,hz,r⟩
 ·obtain⟨z,its,n,r,e⟩:=h.ok I.hok;exact⟨its,r,⟨_,n,e,rfl,rfl,rfl⟩,z⟩
 ·refine⟨its.toList,r,⟨o,n,I.kIn a o hk,hc,hd,by simpa using hs⟩,?_⟩
  have e:=r.length;simp only[Fx]at e;lia
theorem Inv.tuple(I:Inv X pins σ H s)(h:SqT X.K H a xs):∃ its:List Value,Vals xs its/\IsTup s.heap a its.toArray/\xs.length<=sizeLine:=by
 rcases h with h|⟨o,its,n,hk,hc,hs,hz,r⟩
 ·obtain⟨z,its,r,p⟩:=h.ok I.hok;exact⟨its,r,p,z⟩
 ·refine⟨its.toList,r,⟨o,I.kIn a o hk,hc,n,by simpa using hs⟩,?_⟩
  have e:=r.length;simp only[Fx]at e;lia
theorem Inv.tB(I:Inv X pins σ H s)(h:SqL X.K H a xs)(h':SqL X.K H a ys):xs=ys:=by
 obtain⟨its,r,⟨o,n,e,_,_,d⟩,_⟩:=I.list h;obtain⟨its',r',⟨o',n',e',_,_,d'⟩,_⟩:=I.list h';rw[e]at e';cases e'
 rw[d]at d';injection d' with d1 _
 have:its=its':=by simpa using congrArg Array.toList d1
 subst this;exact r.inj r'
theorem Inv.pN(I:Inv X pins σ H s)(h:SqT X.K H a xs)(h':SqT X.K H a ys):xs=ys:=by
 obtain⟨its,r,⟨o,e,_,n,d⟩,_⟩:=I.tuple h;obtain⟨its',r',⟨o',e',_,n',d'⟩,_⟩:=I.tuple h';rw[e]at e';cases e'
 rw[d]at d';injection d' with d1 _
 have:its=its':=by simpa using congrArg Array.toList d1
 subst this;exact r.inj r'
end
noncomputable abbrev Cx.dO (X:Cx)(E:Value->Shared->Prop):Cx:={ X with xe:=E }
noncomputable abbrev Cx.nox (X:Cx):Cx:=X.dO fun _ _=>False
theorem Cx.Ok.dO{X:Cx}(ok:X.Ok)(E:Value->Shared->Prop):(X.dO E).Ok:=
 ⟨ok.mod,ok.kind,ok.glob,ok.blt,ok.above,ok.inj,ok.has,ok.cab,ok.hd,ok.frames,ok.stk,ok.exf,ok.bs,ok.bsz,ok.noex,ok.exfs,ok.cA,ok.frf⟩
theorem Cx.Ok.fm{X:Cx}(ok:(X.dO E).Ok):X.Ok:=
 ⟨ok.mod,ok.kind,ok.glob,ok.blt,ok.above,ok.inj,ok.has,ok.cab,ok.hd,ok.frames,ok.stk,ok.exf,ok.bs,ok.bsz,ok.noex,ok.exfs,ok.cA,ok.frf⟩
section
variable {X:Cx}{pins:List (Addr×Obj)}{σ:St}{H:Hp}{s:Shared}{E:Value->Shared->Prop}
theorem Inv.dO(I:Inv X pins σ H s)(E:Value->Shared->Prop):Inv (X.dO E) pins σ H s:=⟨I.ok.dO E,I.os,I.bare,I.base,I.loc,I.cell,I.free,I.freeC,I.pin,I.hok,I.len⟩
theorem Inv.fm(I:Inv (X.dO E) pins σ H s):Inv X pins σ H s:=⟨I.ok.fm,I.os,I.bare,I.base,I.loc,I.cell,I.free,I.freeC,I.pin,I.hok,I.len⟩
theorem SP.fm{D:Ends}{f:Flow}{s':Shared}(h:SP (X.dO E) pins D f s'):SP X pins D f s':=by
 cases f with
 | next=>obtain⟨σ',H',I,q⟩:=h;exact⟨σ',H',I.fm,q⟩
 | brk=>obtain⟨σ',H',I,q⟩:=h;exact⟨σ',H',I.fm,q⟩
 | cont=>obtain⟨σ',H',I,q⟩:=h;exact⟨σ',H',I.fm,q⟩
 | ret u=>obtain⟨v,σ',H',I,r,q⟩:=h;exact⟨v,σ',H',I.fm,r,q⟩
theorem PSs.nox{st:List Stmt}{t:TS}(h:PSs X.nox st t):PSs X st t:=fun pins s σ H D I hw=>
 Gf (h pins s σ H D (I.dO _) hw) (fun _ _ q=>q.fm) fun _ _ z=>False.elim z
end
section
variable {X:Cx}{st:Stmt}{rest:List Stmt}{t u:TS}{e:Expr}{te:TE}{pos:Pos}
noncomputable def ek:TS:=fun D σ H=>D.nx σ H
noncomputable def mI (t u:TS):TS:=fun D σ H=>t { D with nx:=u D } σ H
theorem bj:PSs X [] ek:=fun _ _ σ H _ I h=>wpAny_execs_nil ⟨σ,H,I,h⟩
theorem af(h1:PS X st t)(h2:PSs X rest u):PSs X (st::rest) (mI t u):=by
 intro pins s σ H D I h;refine wpAny_execs_cons (thn (h1 pins s σ H { D with nx:=u D } I h) fun f s1 q=>?_)
 cases f with
 | next=>
  obtain⟨σ',H',I',q⟩:=q;exact h2 pins s1 σ' H' D I' q
 | ret v=>exact q
 | brk=>exact q
 | cont=>exact q
theorem ag(h1:PS X st t):PSs X [st] t:=by
 intro pins s σ H D I h;refine wpAny_execs_cons (thn (h1 pins s σ H D I h) fun f s1 q=>?_)
 cases f with
 | next=>exact wpAny_execs_nil q
 | ret v=>exact q
 | brk=>exact q
 | cont=>exact q
theorem Inv.quiet{σ:St}{H:Hp}(I:Inv X pins σ H s):interactive X.env=false:=by simp [interactive,I.ok.kind]
noncomputable def DY (te:TE):TS:=fun D σ H=>te σ H fun _ H1=>D.nx σ H1
theorem bQ(he:PE X e te)(hs:swapsWith e none pos.line X.env=pure false:=by rfl):PS X (.Expr e pos) (DY te):=by
 intro pins s σ H D I h;exact wpAny_Expr_any (thn (he pins s σ H _ I h) fun v s1 ⟨x,H1,I1,r1,q1⟩=>⟨σ,H1,I1,q1⟩) I.quiet hs
noncomputable def yN (te:TE):TS:=fun D σ H=>te σ H D.rt
theorem aD(he:PE X e te):PS X (.Return (some e) pos) (yN te):=by
 intro pins s σ H D I h;exact wpAny_Return_some (thn (he pins s σ H _ I h) fun v s1 ⟨x,H1,I1,r1,q1⟩=>⟨x,σ,H1,I1,r1,q1⟩)
noncomputable def nG (c:TT)(t u:TS):TS:=fun D σ H=>c σ H fun b H1=>if b=true then t D σ H1 else u D σ H1
theorem bf{c:Expr}{a b:List Stmt}{tc:TT}(hc:PT X c tc)(ha:PSs X a t)(hb:PSs X b u):PS X (.If c a b pos) (nG tc t u):=by
 intro pins s σ H D I h;refine wpAny_If (thn (hc pins s σ H _ I h) fun d s1 hZ=>?_)
 obtain⟨H1,I1,q1⟩:=hZ;cases d with
 | true=>exact ha pins s1 σ H1 D I1 q1
 | false=>exact hb pins s1 σ H1 D I1 q1
noncomputable def xS:TS:=fun _ _ _=>False
theorem nP{sts:List Stmt}:PSs X sts xS:=fun _ _ _ _ _ _ h=>h.elim
end
noncomputable abbrev TG:=V->St->Hp->(St->Hp->Prop)->Prop
noncomputable abbrev TGs:=List V->St->Hp->(St->Hp->Prop)->Prop
noncomputable def PG (X:Cx)(target:Expr)(t:TG):Prop:=
 ∀(pins:List (Addr×Obj)) (s:Shared) (σ:St) (H:Hp) (v:V) (u:Value) (Q:St->Hp->Prop),Inv X pins σ H s->RelV v u->t v σ H Q →
  wpAny (model X.prog X.w) X.A (assign target X.env u) (fun _ s'=>∃ σ' H',Inv X pins σ' H' s'/\Q σ' H') X.xe s
noncomputable def PGs (X:Cx)(ts:List Expr)(t:TGs):Prop:=
 ∀(pins:List (Addr×Obj)) (s:Shared) (σ:St) (H:Hp) (vs:List V) (us:List Value) (Q:St->Hp->Prop),Inv X pins σ H s->Vals vs us->t vs σ H Q →
  wpAny (model X.prog X.w) X.A (assignInOrder ((assignEach ts X.env).map (·.2)) us) (fun _ s'=>∃ σ' H',Inv X pins σ' H' s'/\Q σ' H') X.xe s
section
variable {X:Cx}{pos:Pos}
noncomputable def bG (i:Nat):TG:=fun v σ H Q=>Q (σ.set i (some v)) H
theorem wB(hN:X.N.Nodup)(hi:X.N[i]? =some x)(hx:Loc X.env.scope x)(hf:X.fn x=true\/X.env.scope.names.lookup x=some .local:=by first|exact .inl rfl|exact .inr rfl|assumption):PG X (.Name x pos) (bG i):=by
 intro pins s σ H v u Q I r h;exact wpAny_assign_Name (qW I hN hi hx r (fun s' I'=>⟨_,H,I',h⟩) hf)
noncomputable def zW:TGs:=fun vs σ H Q=>vs=[]/\Q σ H
noncomputable def BV (t:TG)(u:TGs):TGs:=fun vs σ H Q=>∃ v r,vs=v::r/\t v σ H fun σ' H'=>u r σ' H' Q
theorem A7:PGs X [] zW:=by
 intro pins s σ H vs us Q I r h;obtain⟨e,h⟩:=h;subst e;cases r
 exact assignInOrder_nil ⟨σ,H,I,h⟩
theorem Ax{es:List Expr}{t:TG}{u:TGs}(h1:PG X e t)(h2:PGs X es u)(hs:(assignEach (e::es) X.env).map (·.2)=assign e X.env::(assignEach es X.env).map (·.2):=by rfl):PGs X (e::es) (BV t u):=by
 intro pins s σ H vs us Q I r h;obtain⟨v,vr,e1,h⟩:=h;subst e1;cases r with
 | cons r rr=>
  rw[hs];refine assignInOrder_cons (thn (h1 pins s σ H _ _ _ I r h) fun _ s1 hZ=>?_)
  obtain⟨σ1,H1,I1,q1⟩:=hZ;exact h2 pins s1 σ1 H1 _ _ Q I1 rr q1
noncomputable def AW (K:PySem.W.Frag)(n:Nat)(t:TGs):TG:=fun v σ H Q=>∃ a xs,v=.ref a/\SqT K H a xs/\xs.length=n/\t xs σ H Q
theorem vP{es:List Expr}{k:Nat}{t:TGs}{n:Nat}(hc:X.calm=true)(h:PGs X es t)(hn:(assignEach es X.env).length=n:=by rfl)(hst:(assignEach es X.env).findIdx? (·.1)=none:=by rfl):PG X (.Tuple es k pos) (AW X.K n t):=by
 intro pins s σ H v u Q I r hw;obtain⟨a,xs,e1,hq,hl,hw⟩:=hw;subst e1;cases r
 obtain⟨its,rv,ht,hz⟩:=I.tuple hq;refine assign_Tuple_tuple (I.ok.hd hc) ht (by simp [hn,<-hl,rv.length]) hst fun h' hx=>?_
 have I1:Inv X pins σ H { s with heap:=h' }:=I.kept (t':=s.toks) fun b o e=>hx b o (FD (Ft e)) e
 exact h pins _ σ H xs _ Q I1 (by simpa using rv) hw
noncomputable def gg (te:TE)(g:TG):TS:=fun D σ H=>te σ H fun x H1=>g x σ H1 D.nx
theorem uE{te:TE}{g:TG}(he:PE X e te)(hg:PG X tg g)(hs:swapsWithSole [tg] e pos.line X.env=pure false:=by rfl)(hw:swappedStores [tg] e X.env=pure none:=by rfl)(h1:(assignEach [tg] X.env).map (·.2)=[assign tg X.env]:=by rfl):PS X (.Assign [tg] e pos) (gg te g):=by
 intro pins s σ H D I h;refine wpAny_Assign_stores (thn (he pins s σ H _ I h) fun v s1 ⟨x,H1,I1,r1,q1⟩=>?_) hs hw
 rw[h1];exact thn (hg pins s1 σ H1 x v _ I1 r1 q1) fun _ s2 q=>q
theorem zj{te:TE}(hN:X.N.Nodup)(hi:X.N[i]? =some x)(hx:Loc X.env.scope x)(he:PE X e te)(hs:swapsWith e (some (.Name x pos')) pos.line X.env=pure false:=by rfl)(hf:X.fn x=true\/X.env.scope.names.lookup x=some .local:=by first|exact .inl rfl|exact .inr rfl|assumption) :
  PS X (.Assign [.Name x pos'] e pos) (gg te (bG i)):=by
 intro pins s σ H D I h;refine wpAny_Assign_Name (thn (he pins s σ H _ I h) fun v s1 ⟨y,H1,I1,r1,q1⟩=>?_) hs
 exact qW I1 hN hi hx r1 (fun s2 I2=>⟨_,H1,I2,q1⟩) hf
end
section
variable {X:Cx}{pos:Pos}
noncomputable def BN (c:TT)(tb:TS):TS:=fun D σ H=>∃ W:Nat->St->Hp->Prop,(∃ m,W m σ H)/\∀ m σ H,W m σ H →
 c σ H fun b H1=>if b=true then ∃ N:St->Hp->Prop,(∀ σ' H',N σ' H'->∃ m',m'<m/\W m' σ' H')/\tb { D with nx:=N,ct:=N,bk:=D.nx } σ H1 else D.nx σ H1
theorem Ei{c:Expr}{tc:TT}{tb:TS}(hp:PassesOwn (model X.prog X.w) X.A X.env X.xe)(hc:PT X c tc)(hb:PSs X body tb):PS X (.While c body [] pos) (BN tc tb):=by
 intro pins s σ H D I h;obtain⟨W,⟨m0,w0⟩,turn⟩:=h;refine wpAny_While (codeAny_whileLoop (fun n s'=>∃ σ' H',Inv X pins σ' H' s'/\W n σ' H') ?_ m0 ⟨σ,H,I,w0⟩)
 rintro n s1 ⟨σ1,H1,I1,w1⟩;refine wpAny_passesOwn hp (thn (hc pins s1 σ1 H1 _ I1 (turn n σ1 H1 w1)) fun b s2 hZ=>?_)
 obtain⟨H2,I2,q2⟩:=hZ;cases b with
 | true=>
  obtain⟨N,hN,q2⟩:=q2;rw[if_pos rfl];refine wpAny_passesOwn hp (thn (hb pins s2 σ1 H2 _ I2 q2) fun f s3 q3=>?_)
  cases f with
  | next=>
   obtain⟨σ3,H3,I3,n3⟩:=q3;obtain⟨m',hm,w3⟩:=hN σ3 H3 n3;exact⟨m',hm,σ3,H3,I3,w3⟩
  | cont=>
   obtain⟨σ3,H3,I3,n3⟩:=q3;obtain⟨m',hm,w3⟩:=hN σ3 H3 n3;exact⟨m',hm,σ3,H3,I3,w3⟩
  | brk=>exact q3
  | ret v=>exact q3
 | false=>
  rw[if_neg FC];exact wpAny_execs_nil ⟨σ1,H2,I2,q2⟩
end
structure It where
 go:Nat->Hp->Prop
 yld:Nat->Hp->V->Hp->Prop
 stop:Nat->Hp->Prop
noncomputable def dR (X:Cx)(pins:List (Addr×Obj))(H:Hp)(b:Addr):Prop:=
 H b=none/\b≠X.env.locals/\b∉X.fs/\(b∈X.ex\/X.s₀.heap.objs.size<=b)/\(∀ x c,X.env.cells.lookup x=some c->c≠b)/\∀ p∈X.pn++pins,p.1≠b
theorem Inv.fQ{X:Cx}{σ:St}{H H':Hp}(I:Inv X pins σ H s)(hb:s.heap.objs.size<=b)(hn:H' b=none):dR X pins H' b:=by
 refine⟨hn,GY (FJ I.lt hb),I.zI hb,.inr (FL I.sz hb),fun x c e z=>?_,fun p hp z=>?_⟩
 ·obtain⟨v,q⟩:=I.cell x c e;exact absurd (FJ q.lt (by rw[z];exact hb)) (Gm _)
 ·exact absurd (FJ (Ft (I.pin p hp).1) (by rw[z];exact hb)) (Gm _)
structure Turn (P:Program)(w:World)(K:PySem.W.Frag)(tg:Expr)(J:It)(fp:List Addr)(it:Addr)(tn:Nat->Heap->Prop):Prop where
 mem:it∈fp
 obj:∀ i h,tn i h->∀ b∈fp,∃ o,h.get? b=some o/\∀ v,o.data≠.cell v
 keep:∀ i h h',tn i h->(∀ b∈fp,∀ o,h.get? b=some o->h'.get? b=some o)->tn i h'
 item:∀(X:Cx),X.prog=P->X.w=w->X.K=K->X.calm=true->∀(i:Nat) (pins:List (Addr×Obj)) (s:Shared) (σ:St) (H:Hp) (E:Value->Shared->Prop),Inv X pins σ H s->(∀ b∈fp,dR X pins H b)->tn i s.heap->J.go i H →
  wpAny (model P w) X.A (pyNext (.ref it)) (fun r s1=>∃ u,r=some u ∧
   wpAny (model P w) X.A (letOwnedTupleGo tg (.ref it) u) (fun _ s2=>∃ x H',Inv X pins σ H' s2/\RelV x u/\J.yld i H x H'/\tn (i+1) s2.heap/\∀ b∈fp,H' b=none) E s1) E s
 done:∀(X:Cx),X.prog=P->X.w=w->X.K=K->X.calm=true->∀(i:Nat) (pins:List (Addr×Obj)) (s:Shared) (σ:St) (H:Hp) (E:Value->Shared->Prop),Inv X pins σ H s->(∀ b∈fp,dR X pins H b)->tn i s.heap->J.stop i H →
  wpAny (model P w) X.A (pyNext (.ref it)) (fun r s1=>r=none/\Inv X pins σ H s1) E s
 self:∀(A:Around) (i:Nat) (s:Shared) (Q:Value->Shared->Prop) (E:Value->Shared->Prop),tn i s.heap->Q (.ref it) s->wpAny (model P w) A (pyIter (.ref it)) Q E s
noncomputable abbrev TI:=St->Hp->(It->Hp->Prop)->Prop
noncomputable def PIE (X:Cx)(pins:List (Addr×Obj))(σ:St)(tg:Expr)(R:It->Hp->Prop)(itv:Value)(s2:Shared):Prop:=
 ∃(it:Addr) (fp:List Addr) (tn:Nat->Heap->Prop) (J:It) (H':Hp),itv=.ref it/\Inv X pins σ H' s2/\Turn X.prog X.w X.K tg J fp it tn/\tn 0 s2.heap/\(∀ b∈fp,dR X pins H' b)/\R J H'
noncomputable def PI (X:Cx)(tg iter:Expr)(wi:TI):Prop:=
 ∀(pins:List (Addr×Obj)) (s:Shared) (σ:St) (H:Hp) (R:It->Hp->Prop),Inv X pins σ H s->wi σ H R →
  wpAny (model X.prog X.w) X.A (eval iter X.env) (fun v s1=>wpAny (model X.prog X.w) X.A (pyIter v) (PIE X pins σ tg R) X.xe s1) X.xe s
theorem iZ{M:Model}{n:String}{vs:Array Value}{Q:Unit->Shared->Prop}(ho:s.heap.get? it=some o)(hc:o.cls=.type n)(hd:o.data=.fields vs)(hn:["enumerate","zip","dict_itemiterator","dict_reverseitemiterator","odict_iterator","itertools.zip_longest","itertools.pairwise"].contains n=false) (hQ:Q () s):wpAny M A (letOwnedTupleGo tg (.ref it) u) Q E s:=by
 unfold letOwnedTupleGo;cases tg <;> first
  | exact E6 hQ
  | (cases u <;> first
    | exact E6 hQ
    | (
      refine E4 (wpAny_load ho ?_);rw[hc,hd];show wpAny M A (if (["enumerate","zip","dict_itemiterator","dict_reverseitemiterator","odict_iterator","itertools.zip_longest","itertools.pairwise"].contains n&&vs[0]?==some (rawInt _))=true then _ else _) Q E s
      rw[if_neg (by intro h;rw[hn,Bool.false_and]at h;cases h)]
      exact E6 hQ))
noncomputable def Itl (K:PySem.W.Frag)(a:Addr):It:=
 ⟨fun i H=>∃ xs x,SqL K H a xs/\xs[i]? =some x,fun i H x H'=>H'=H/\∀ xs,SqL K H a xs->xs[i]? =some x,fun i H=>∃ xs,SqL K H a xs/\xs.length<=i⟩
noncomputable def Itt (K:PySem.W.Frag)(a:Addr):It:=
 ⟨fun i H=>∃ xs x,SqT K H a xs/\xs[i]? =some x,fun i H x H'=>H'=H/\∀ xs,SqT K H a xs->xs[i]? =some x,fun i H=>∃ xs,SqT K H a xs/\xs.length<=i⟩
noncomputable def Itr (lo:Int)(n:Nat):It:=⟨fun i _=>i<n,fun i H x H'=>H'=H/\x=.int (lo+i),fun i _=>n<=i⟩
theorem D7{K:PySem.W.Frag}(a it:Addr):Turn P w K tg (Itl K a) [it] it (fun i h=>h.IsListIter it a i) where
 mem:=by simp
 obj:=fun i h st b hb=>by
  have e:b=it:=by simpa using hb
  subst e;obtain⟨o,e,c,d⟩:=st;exact⟨o,e,fun v z=>by rw[d]at z;cases z⟩
 keep:=fun i h h' st k=>st.at fun o e=>k it (by simp) o e
 item:=by
  intro X hP hw hK hc i pins s σ H E I hf st hg;subst hP hw hK;obtain⟨xs,x,hq,hx⟩:=hg;obtain⟨its,rv,p,hz⟩:=I.list hq;obtain⟨u,hu,ru⟩:=rv.get hx;obtain⟨f0,f1,f2,f3,f4,f5⟩:=hf it (by simp)
  refine wpAny_pyNext_list_item st p.isList (x:=u) (by simpa using hu) fun h' st' sb=>?_
  have I1:Inv X pins σ H { s with heap:=h' }:=I.turned (t':=s.toks) (fun b o hb e=>(sb.2 b hb).trans e) f0 f1 f3 f4 f5
  obtain⟨o,e,c,d⟩:=id st';exact⟨u,rfl,iZ (s:={ s with heap:=h' }) e c d (by decide) ⟨x,H,I1,ru,⟨rfl,fun ys hy=>by rw[I.tB hy hq];exact hx⟩,st',fun b hb=>(hf b hb).1⟩⟩
 done:=by
  intro X hP hw hK hc i pins s σ H E I hf st hg;subst hP hw hK;obtain⟨xs,hq,hx⟩:=hg;obtain⟨its,rv,p,hz⟩:=I.list hq;obtain⟨f0,f1,f2,f3,f4,f5⟩:=hf it (by simp)
  have hl:=rv.length;exact wpAny_pyNext_list_end (I.ok.hd hc) st p.isList (by simp;lia) fun h' eb=>⟨rfl,I.turned (t':=s.toks) (fun b o hb e=>eb b o hb e) f0 f1 f3 f4 f5⟩
 self:=fun _ _ _ _ _ st h=>wpAny_pyIter_listiter st h
theorem By{K:PySem.W.Frag}(a it:Addr):Turn P w K tg (Itt K a) [it] it (fun i h=>h.IsTupleIter it a i) where
 mem:=by simp
 obj:=fun i h st b hb=>by
  have e:b=it:=by simpa using hb
  subst e;obtain⟨o,e,c,d⟩:=st;exact⟨o,e,fun v z=>by rw[d]at z;cases z⟩
 keep:=fun i h h' st k=>st.at fun o e=>k it (by simp) o e
 item:=by
  intro X hP hw hK hc i pins s σ H E I hf st hg;subst hP hw hK;obtain⟨xs,x,hq,hx⟩:=hg;obtain⟨its,rv,p,hz⟩:=I.tuple hq;obtain⟨u,hu,ru⟩:=rv.get hx;obtain⟨f0,f1,f2,f3,f4,f5⟩:=hf it (by simp)
  refine wpAny_pyNext_tuple_item st (show s.heap.IsTuple a its.toArray from p) (x:=u) (by simpa using hu) fun h' st' sb=>?_
  have I1:Inv X pins σ H { s with heap:=h' }:=I.turned (t':=s.toks) (fun b o hb e=>(sb.2 b hb).trans e) f0 f1 f3 f4 f5
  obtain⟨o,e,c,d⟩:=id st';exact⟨u,rfl,iZ (s:={ s with heap:=h' }) e c d (by decide) ⟨x,H,I1,ru,⟨rfl,fun ys hy=>by rw[I.pN hy hq];exact hx⟩,st',fun b hb=>(hf b hb).1⟩⟩
 done:=by
  intro X hP hw hK hc i pins s σ H E I hf st hg;subst hP hw hK;obtain⟨xs,hq,hx⟩:=hg;obtain⟨its,rv,p,hz⟩:=I.tuple hq;obtain⟨f0,f1,f2,f3,f4,f5⟩:=hf it (by simp)
  have hl:=rv.length;exact wpAny_pyNext_tuple_end (I.ok.hd hc) st (show s.heap.IsTuple a its.toArray from p) (by simp;lia) fun h' eb=>⟨rfl,I.turned (t':=s.toks) (fun b o hb e=>eb b o hb e) f0 f1 f3 f4 f5⟩
 self:=fun _ _ _ _ _ st h=>wpAny_pyIter_tupleiter st h
theorem Eu{K:PySem.W.Frag}(it:Addr)(lo:Int)(n:Nat):Turn P w K tg (Itr lo n) [it] it (fun i h=>IsRangeIter h it (lo+(i:Nat)*1) ((n:Int)-(i:Nat)) 1) where
 mem:=by simp
 obj:=fun i h st b hb=>by
  have e:b=it:=by simpa using hb
  subst e;exact⟨_,st,fun v z=>by
   have z':Data.fields _=Data.cell v:=z;cases z'⟩
 keep:=fun i h h' st k=>k it (by simp) _ st
 item:=by
  intro X hP hw hK hc i pins s σ H E I hf st hg;subst hP hw hK;obtain⟨f0,f1,f2,f3,f4,f5⟩:=hf it (by simp)
  have W:=Walks.range (prog:=X.prog) (w:=X.w) (I.ok.hd hc) it lo 1 n;refine W.item i s _ _ hg st fun v h' tk hv st' kk=>?_
  obtain⟨t,rfl⟩:=hv;have I1:Inv X pins σ H { s with heap:=h',toks:=tk }:=I.turned (fun b o hb e=>kk b o (by simpa using hb) e) f0 f1 f3 f4 f5
  refine⟨_,rfl,iZ (s:={ s with heap:=h',toks:=tk }) (n:="range_iterator") st' rfl rfl (by decide) ⟨.int (lo+i),H,I1,⟨t,?_⟩,⟨rfl,rfl⟩,st',fun b hb=>(hf b hb).1⟩⟩
  rw[Int.mul_one]
 done:=by
  intro X hP hw hK hc i pins s σ H E I hf st hg;subst hP hw hK;obtain⟨f0,f1,f2,f3,f4,f5⟩:=hf it (by simp)
  exact wpAny_pyNext_range_end (I.ok.hd hc) st (by have:n<=i:=hg;lia) fun h' eb=>⟨rfl,I.turned (t':=s.toks) (fun b o hb e=>eb b o hb e) f0 f1 f3 f4 f5⟩
 self:=fun _ _ _ _ _ st h=>wpAny_pyIter_rangeiter st h
section
variable {X:Cx}{tg:Expr}
noncomputable def zq (K:PySem.W.Frag)(tl:TE):TI:=fun σ H R=>tl σ H fun x H1=>∃ a,x=.ref a/\(∃ xs,SqL K H1 a xs)/\R (Itl K a) H1
noncomputable def CY (K:PySem.W.Frag)(tl:TE):TI:=fun σ H R=>tl σ H fun x H1=>∃ a,x=.ref a/\(∃ xs,SqT K H1 a xs)/\R (Itt K a) H1
theorem BC{l:Expr}{tl:TE}(hl:PE X l tl):PI X tg l (zq X.K tl):=by
 intro pins s σ H R I h;refine thn (hl pins s σ H _ I h) fun v s1 hZ=>?_
 obtain⟨x,H1,I1,r1,q1⟩:=hZ;obtain⟨a,e,⟨xs,hq⟩,q⟩:=q1;subst e;cases r1
 obtain⟨its,rv,p,hz⟩:=I1.list hq;refine wpAny_pyIter_list p.isList ?_;refine⟨s1.heap.objs.size,[s1.heap.objs.size],_,_,H1,rfl,I1.kept (t':=s1.toks) fun b o e=>E8 _ e,D7 a _,⟨_,Fv _ rfl,rfl,rfl⟩,fun b hb=>?_,q⟩
 have e:b=s1.heap.objs.size:=by simpa using hb
 subst e;exact I1.fQ (E7 _) (I1.hok.fresh (E7 _))
theorem Bb{l:Expr}{tl:TE}(hl:PE X l tl):PI X tg l (CY X.K tl):=by
 intro pins s σ H R I h;refine thn (hl pins s σ H _ I h) fun v s1 hZ=>?_
 obtain⟨x,H1,I1,r1,q1⟩:=hZ;obtain⟨a,e,⟨xs,hq⟩,q⟩:=q1;subst e;cases r1
 obtain⟨its,rv,p,hz⟩:=I1.tuple hq;refine wpAny_pyIter_tuple (show s1.heap.IsTuple a its.toArray from p) ?_
 refine⟨s1.heap.objs.size,[s1.heap.objs.size],_,_,H1,rfl,I1.kept (t':=s1.toks) fun b o e=>E8 _ e,By a _,⟨_,Fv _ rfl,rfl,rfl⟩,fun b hb=>?_,q⟩
 have e:b=s1.heap.objs.size:=by simpa using hb
 subst e;exact I1.fQ (E7 _) (I1.hok.fresh (E7 _))
theorem yk{σ:St}{H:Hp}{R:It->Hp->Prop}{lo hi:Int}{t u v:Tok}{tk:Nat}(I:Inv X pins σ H s)(h1:-(2^62)<=lo)(h2:lo<2^62)(h3:-(2^62)<=hi)(h4:hi<2^62)(q:R (Itr lo (hi-lo).toNat) H):wpAny (model X.prog X.w) X.A (pyIter (.ref s.heap.objs.size)) (PIE X pins σ tg R) E { s with heap:=s.heap.push { cls:=.type "range",data:=.fields #[.int lo t,.int hi u,.int 1 v] },toks:=tk }:=by
 refine wpAny_pyIter_range (IsRange.new ..) (small_one h1 h2 h3 h4) ?_;have I1:Inv X pins σ H { s with heap:=s.heap.push { cls:=.type "range",data:=.fields #[.int lo t,.int hi u,.int 1 v] },toks:=tk }:=I.kept fun b o e=>E8 _ e
 refine⟨(s.heap.push { cls:=.type "range",data:=.fields #[.int lo t,.int hi u,.int 1 v] }).objs.size,[(s.heap.push { cls:=.type "range",data:=.fields #[.int lo t,.int hi u,.int 1 v] }).objs.size],_,_,H,rfl,
  I1.kept (t':=tk) fun b o e=>E8 _ e,Eu _ lo (hi-lo).toNat,?_,fun b hb=>?_,q⟩
 ·have e1:lo+((0:Nat):Int)*1=lo:=by simp
  have e2:(((hi-lo).toNat:Nat):Int)-((0:Nat):Int)=Builtin.Range.rangeSize lo hi 1:=by rw[rangeSize_one];split <;> lia
  show IsRangeIter _ _ (lo+((0:Nat):Int)*1) ((((hi-lo).toNat:Nat):Int)-((0:Nat):Int)) 1
  rw[e1,e2];exact Fv _ rfl
 ·have e:b=(s.heap.push { cls:=.type "range",data:=.fields #[.int lo t,.int hi u,.int 1 v] }).objs.size:=by simpa using hb
  subst e;exact I1.fQ (E7 _) (I1.hok.fresh (E7 _))
noncomputable def BA (ta:TA):TI:=fun σ H R=>ta σ H fun vs H1=>∃ j:Int,vs=[.int j]/\-(2^62)<=j/\j<2^62/\R (Itr 0 j.toNat) H1
theorem zD{a:Expr}{ta:TA}{p:Pos}(hg:Gl X "range") (hm:X.mg "range" = none) (ha:PA X [a] ta) (hs:starEach [a] X.env=[(false,eval a X.env)]:=by rfl):PI X tg (.Call (.Name "range" p) [a] [] pos) (BA ta):=by
 intro pins s σ H R I h;refine Call_ (jT I hg hm boot_range (PyProof.Rows.callWith_type1 (thn (ha pos pins s σ H _ I h) fun us s1 ⟨vs,H1,I1,r1,q1⟩=>?_) hs rfl))
 obtain⟨j,e,q1,q2,q⟩:=q1;subst e;cases r1 with
 | cons r rr=>
  cases rr
  obtain⟨t,rfl⟩:=r;exact call_range_1 (yk I1 (by lia) (by lia) q1 q2 (by simpa using q))
noncomputable def El (wi:TI)(g:TG)(tb:TS):TS:=fun D σ H=>wi σ H fun J H1=>∃ W:Nat->Nat->St->Hp->Prop,(∃ m,W 0 m σ H1)/\∀ i m σ H,W i m σ H →
 (J.stop i H/\D.nx σ H)\/(J.go i H/\∃ N:St->Hp->Prop,(∀ σ' H',N σ' H'->∃ m',m'<m/\W (i+1) m' σ' H')/\∀ x H',J.yld i H x H'->g x σ H' fun σ2 H2=>tb { D with nx:=N,ct:=N,bk:=D.nx } σ2 H2)
noncomputable def ie (fp:List Addr)(h:Heap):List (Addr×Obj):=fp.filterMap fun b=>(h.get? b).map fun o=>(b,o)
theorem ko{fp:List Addr}(hb:b∈fp)(e:h.get? b=some o):(b,o)∈ie fp h:=G5.mpr ⟨b,hb,by rw[e];rfl⟩
theorem Es{fp:List Addr}{p:Addr×Obj}(hp:p∈ie fp h):p.1∈fp/\h.get? p.1=some p.2:=by
 obtain⟨b,hb,e⟩:=G5.mp hp;cases q:h.get? b with
 | none=>rw[q]at e;cases e
 | some o=>
  rw[q]at e;have e':(b,o)=p:=Fw e;subst e';exact⟨hb,q⟩
theorem Inv.pinned{σ:St}{H:Hp}{fp:List Addr}(I:Inv X pins σ H s)(hf:∀ b∈fp,dR X pins H b)(ho:∀ b∈fp,∃ o,s.heap.get? b=some o/\∀ v,o.data≠.cell v):Inv X (pins++ie fp s.heap) σ H s:=
 I.sv fun p hp=>(Fs.mp hp).elim (fun z=>I.pin p (F0 _ z)) fun z=>by
  obtain⟨hb,e⟩:=Es z;obtain⟨f0,f1,f2,_⟩:=hf p.1 hb;obtain⟨o,e',d⟩:=ho p.1 hb;rw[e]at e';cases e'
  exact⟨e,f0,f1,f2,d⟩
theorem Inv.kP{pl:List (Addr×Obj)}{σ:St}{H:Hp}(I:Inv X (pins++pl) σ H s):Inv X pins σ H s:=I.sv fun p hp=>I.pin p (F0 _ (Gd _ hp))
theorem Dh{wi:TI}{g:TG}{tb:TS}(hp:PassesOwn (model X.prog X.w) X.A X.env X.xe)(hc:X.calm=true)(hi:PI X tg iter wi)(hg:PG X tg g)(hb:PSs X body tb)(hs:∀ x,foldedSetIterable iter X.env x=pure x:=by intro _;rfl):PS X (.For tg iter body [] pos) (El wi g tb):=by
 intro pins s σ H D I h;refine wpAny_For (thn (hi pins s σ H _ I h) fun v s1 h1=>thn h1 fun itv s2 h2=>?_) hs
 obtain⟨it,fp,tn,J,H2,e,I2,T,st2,f2,W,⟨m0,w0⟩,turn⟩:=h2;subst e;have stat:∀{H':Hp},(∀ b∈fp,H' b=none)->∀ b∈fp,dR X pins H' b:=fun hn b hb=>⟨hn b hb,(f2 b hb).2⟩
 refine codeAny_forLoop_any (fun n s'=>∃ i σ' H',Inv X pins σ' H' s'/\tn i s'.heap/\(∀ b∈fp,H' b=none)/\W i n σ' H') ?_ m0 ⟨0,σ,H2,I2,st2,fun b hb=>(f2 b hb).1,w0⟩
 rintro n s3 ⟨i,σ3,H3,I3,st3,fr3,w3⟩;rcases turn i n σ3 H3 w3 with⟨stop,qn⟩|⟨go,N,hN,step⟩
 ·refine wpAny_passesOwn hp (thn (T.done X rfl rfl rfl hc i pins s3 σ3 H3 X.xe I3 (stat fr3) st3 stop) fun r s4 hZ=>?_)
  obtain⟨hr,I4⟩:=hZ;subst hr;exact wpAny_execs_nil ⟨σ3,H3,I4,qn⟩
 ·refine wpAny_passesOwn hp (thn (T.item X rfl rfl rfl hc i pins s3 σ3 H3 X.xe I3 (stat fr3) st3 go) fun r s4 hZ=>?_)
  obtain⟨u,hr,h4⟩:=hZ;subst hr;refine wpAny_passesOwn hp (thn h4 fun _ s5 hZ=>?_)
  obtain⟨x,H5,I5,r5,y5,st5,fr5⟩:=hZ;have I5':=I5.pinned (stat fr5) (T.obj _ _ st5);refine wpAny_passesOwn hp (thn (hg _ s5 σ3 H5 x u _ I5' r5 (step x H5 y5)) fun _ s6 hZ=>?_)
  obtain⟨σ6,H6,I6,q6⟩:=hZ;refine wpAny_passesOwn hp (thn (hb _ s6 σ6 H6 _ I6 q6) fun f s7 q7=>?_)
  have again:∀{σ7:St} {H7:Hp},Inv X (pins++ie fp s5.heap) σ7 H7 s7->N σ7 H7->∃ m,m<n/\∃ i σ' H',Inv X pins σ' H' s7/\tn i s7.heap/\(∀ b∈fp,H' b=none)/\W i m σ' H':=fun {σ7 H7} I7 n7=>by
   obtain⟨m',hm,w7⟩:=hN σ7 H7 n7;refine⟨m',hm,i+1,σ7,H7,I7.kP,T.keep _ _ _ st5 fun b hb o e=>(I7.pin (b,o) (F0 _ (F0 _ (ko hb e)))).1,fun b hb=>?_,w7⟩
   obtain⟨o,e,d⟩:=T.obj _ _ st5 b hb
   exact(I7.pin (b,o) (F0 _ (F0 _ (ko hb e)))).2.1
  cases f with
  | next=>obtain⟨σ7,H7,I7,n7⟩:=q7;exact again I7 n7
  | cont=>obtain⟨σ7,H7,I7,n7⟩:=q7;exact again I7 n7
  | brk=>obtain⟨σ7,H7,I7,q7⟩:=q7;exact⟨σ7,H7,I7.kP,q7⟩
  | ret v=>obtain⟨x7,σ7,H7,I7,r7,q7⟩:=q7;exact⟨x7,σ7,H7,I7.kP,r7,q7⟩
end
theorem wy{K:PySem.W.Frag}{xs:List V}{g:TG}{tb:TS}{D:Ends}{σ:St}{H:Hp}(Pv:Nat->St->Hp->Prop)(h0:Pv 0 σ H)(hl:∀ i σ H,i<=xs.length->Pv i σ H->SqL K H a xs)(hs:∀ i x σ H,xs[i]? =some x->Pv i σ H->g x σ H fun σ2 H2=>tb { D with nx:=Pv (i+1),ct:=Pv (i+1),bk:=D.nx } σ2 H2)(hd:∀ σ H,Pv xs.length σ H->D.nx σ H) :
  ∃ W:Nat->Nat->St->Hp->Prop,(∃ m,W 0 m σ H)/\∀ i m σ H,W i m σ H →
   ((Itl K a).stop i H/\D.nx σ H)\/((Itl K a).go i H/\∃ N:St->Hp->Prop,(∀ σ' H',N σ' H'->∃ m',m'<m/\W (i+1) m' σ' H')/\∀ x H',(Itl K a).yld i H x H'->g x σ H' fun σ2 H2=>tb { D with nx:=N,ct:=N,bk:=D.nx } σ2 H2):=by
 refine⟨fun i m σ H=>m=xs.length-i/\i<=xs.length/\Pv i σ H,⟨xs.length,by simp,FG _,h0⟩,?_⟩
 rintro i m σ H ⟨rfl,hi,p⟩;have q:=hl i σ H hi p
 by_cases hlt:i<xs.length
 ·refine .inr ⟨⟨xs,xs[i],q,by simp [hlt]⟩,Pv (i+1),fun σ' H' p'=>⟨xs.length-(i+1),by lia,rfl,hlt,p'⟩,fun x H' y=>?_⟩
  obtain⟨e,y⟩:=y;subst e;exact hs i x σ _ (y xs q) p
 ·have e:i=xs.length:=by lia
  subst e;exact .inl ⟨⟨xs,q,E7 _⟩,hd σ H p⟩
theorem AE{lo:Int}{n:Nat}{g:TG}{tb:TS}{D:Ends}{σ:St}{H:Hp}(Pv:Nat->St->Hp->Prop)(h0:Pv 0 σ H)(hs:∀ i σ H,i<n->Pv i σ H->g (.int (lo+i)) σ H fun σ2 H2=>tb { D with nx:=Pv (i+1),ct:=Pv (i+1),bk:=D.nx } σ2 H2)(hd:∀ σ H,Pv n σ H->D.nx σ H) :
  ∃ W:Nat->Nat->St->Hp->Prop,(∃ m,W 0 m σ H)/\∀ i m σ H,W i m σ H →
   ((Itr lo n).stop i H/\D.nx σ H)\/((Itr lo n).go i H/\∃ N:St->Hp->Prop,(∀ σ' H',N σ' H'->∃ m',m'<m/\W (i+1) m' σ' H')/\∀ x H',(Itr lo n).yld i H x H'->g x σ H' fun σ2 H2=>tb { D with nx:=N,ct:=N,bk:=D.nx } σ2 H2):=by
 refine⟨fun i m σ H=>m=n-i/\i<=n/\Pv i σ H,⟨n,by simp,FG _,h0⟩,?_⟩
 rintro i m σ H ⟨rfl,hi,p⟩
 by_cases hlt:i<n
 ·refine .inr ⟨hlt,Pv (i+1),fun σ' H' p'=>⟨n-(i+1),by lia,rfl,hlt,p'⟩,fun x H' y=>?_⟩
  obtain⟨e,y⟩:=y;subst e y;exact hs i σ _ hlt p
 ·have e:i=n:=by lia
  subst e;exact .inl ⟨E7 _,hd σ H p⟩
noncomputable abbrev R2:=V->V->Hp->VK->Prop
noncomputable def OpR (X:Cx)(f:Value->Value->Sem Value)(r:R2):Prop:=
 ∀(pins:List (Addr×Obj)) (s:Shared) (σ:St) (H:Hp) (x y:V) (v u:Value) (Q:VK),Inv X pins σ H s->RelV x v->RelV y u->r x y H Q →
  wpAny (model X.prog X.w) X.A (f v u) (EP X pins σ Q) X.xe s
noncomputable def UnR (X:Cx)(f:Value->Sem Value)(r:V->Hp->VK->Prop):Prop:=
 ∀(pins:List (Addr×Obj)) (s:Shared) (σ:St) (H:Hp) (x:V) (v:Value) (Q:VK),Inv X pins σ H s->RelV x v->r x H Q →
  wpAny (model X.prog X.w) X.A (f v) (EP X pins σ Q) X.xe s
noncomputable def aH (X:Cx)(f:Value)(r:List V->Hp->VK->Prop):Prop:=
 ∀(pins:List (Addr×Obj)) (s:Shared) (σ:St) (H:Hp) (xs:List V) (us:List Value) (Q:VK),Inv X pins σ H s->Vals xs us->r xs H Q →
  wpAny (model X.prog X.w) X.A (call f us) (EP X pins σ Q) X.xe s
noncomputable def zc (X:Cx)(r:V->Hp->(Bool->Hp->Prop)->Prop):Prop:=
 ∀(pins:List (Addr×Obj)) (s:Shared) (σ:St) (H:Hp) (x:V) (v:Value) (Q:Bool->Hp->Prop),Inv X pins σ H s->RelV x v->r x H Q →
  wpAny (model X.prog X.w) X.A (truthy v) (TP X pins σ Q) X.xe s
noncomputable def tOp (r:R2)(ta tb:TE):TE:=fun σ H Q=>ta σ H fun x H1=>tb σ H1 fun y H2=>r x y H2 Q
noncomputable def tUn (r:V->Hp->VK->Prop)(ta:TE):TE:=fun σ H Q=>ta σ H fun x H1=>r x H1 Q
noncomputable def rI (C:Int->Int->Prop)(g:Int->Int->V):R2:=fun x y H Q=>∃ i j,x=.int i/\y=.int j/\C i j/\Q (g i j) H
noncomputable def rI0 (g:Int->Int->V):R2:=fun x y H Q=>∃ i j,x=.int i/\y=.int j/\Q (g i j) H
noncomputable def rU (g:Int->V):V->Hp->VK->Prop:=fun x H Q=>∃ i,x=.int i/\Q (g i) H
section
variable {X:Cx}{a b c:Expr}{ta tb tc:TE}{pos:Pos}
theorem mZ(ha:PE X a ta)(hb:PE X b tb){σ:St}{H:Hp}{R:V->V->Hp->Prop}(I:Inv X pins σ H s)(h:ta σ H fun x H1=>tb σ H1 fun y H2=>R x y H2){f:Value->Value->Sem Value}(hf:∀ v u s2 x y H2,Inv X pins σ H2 s2->RelV x v->RelV y u->R x y H2->wpAny (model X.prog X.w) X.A (f v u) Q X.xe s2) :
  wpAny (model X.prog X.w) X.A (eval a X.env) (fun v s₁=>wpAny (model X.prog X.w) X.A (eval b X.env) (fun u s₂=>wpAny (model X.prog X.w) X.A (f v u) Q X.xe s₂) X.xe s₁) X.xe s:=by
 refine thn (ha pins s σ H _ I h) fun v s1 hZ=>?_
 obtain⟨x,H1,I1,r1,q1⟩:=hZ;refine thn (hb pins s1 σ H1 _ I1 q1) fun u s2 hZ=>?_
 obtain⟨y,H2,I2,r2,q2⟩:=hZ;exact hf v u s2 x y H2 I2 r1 r2 q2
theorem ak{op:Operator}{r:R2}(ho:OpR X (binaryOp op) r)(ha:PE X a ta)(hb:PE X b tb):PE X (.BinOp a op b pos) (tOp r ta tb):=by
 intro pins s σ H Q I h;exact wpAny_BinOp (mZ ha hb I h fun v u s2 x y H2 I2 rx ry q=>ho pins s2 σ H2 x y v u Q I2 rx ry q)
theorem k6{op:UnaryOp}{r:V->Hp->VK->Prop}(ho:UnR X (unaryOp op) r)(ha:PE X a ta):PE X (.UnaryOp op a pos) (tUn r ta):=by
 intro pins s σ H Q I h;exact UnaryOp_ (thn (ha pins s σ H _ I h) fun v s1 ⟨x,H1,I1,r1,q1⟩=>ho pins s1 σ H1 x v Q I1 r1 q1)
theorem opI{f:Value->Value->Sem Value}{C:Int->Int->Prop}{g:Int->Int->Int}(rule:∀(i j:Int)(t u:Tok)(s:Shared)(Q:Value->Shared->Prop)(E:Value->Shared->Prop),C i j->Q (.int (g i j) s.toks) { s with toks:=s.toks+1 }->wpAny (model X.prog X.w) X.A (f (.int i t) (.int j u)) Q E s) :
  OpR X f (rI C fun i j=>.int (g i j)):=by
 intro pins s σ H x y v u Q I rx ry h;obtain⟨i,j,rfl,rfl,hc,q⟩:=h;obtain⟨t,rfl⟩:=rx;obtain⟨t',rfl⟩:=ry;exact rule i j t t' s _ _ hc ⟨.int (g i j),H,I.tok _,⟨_,rfl⟩,q⟩
theorem Bu{f:Value->Value->Sem Value}{g:Int->Int->Int}(rule:∀(i j:Int)(t u:Tok)(s:Shared)(Q:Value->Shared->Prop)(E:Value->Shared->Prop),Q (.int (g i j) s.toks) { s with toks:=s.toks+1 }->wpAny (model X.prog X.w) X.A (f (.int i t) (.int j u)) Q E s) :
  OpR X f (rI0 fun i j=>.int (g i j)):=by
 intro pins s σ H x y v u Q I rx ry h;obtain⟨i,j,rfl,rfl,q⟩:=h;obtain⟨t,rfl⟩:=rx;obtain⟨t',rfl⟩:=ry;exact rule i j t t' s _ _ ⟨.int (g i j),H,I.tok _,⟨_,rfl⟩,q⟩
theorem nY{f:Value->Value->Sem Value}{g:Int->Int->Bool}(rule:∀(i j:Int)(t u:Tok)(s:Shared)(Q:Value->Shared->Prop)(E:Value->Shared->Prop),Q (.bool (g i j)) s->wpAny (model X.prog X.w) X.A (f (.int i t) (.int j u)) Q E s) :
  OpR X f (rI0 fun i j=>.bl (g i j)):=by
 intro pins s σ H x y v u Q I rx ry h;obtain⟨i,j,rfl,rfl,q⟩:=h;obtain⟨t,rfl⟩:=rx;obtain⟨t',rfl⟩:=ry;exact rule i j t t' s _ _ ⟨.bl (g i j),H,I,rfl,q⟩
noncomputable def rV (i j:Int):Prop:=0<j/\j<1073741824
noncomputable def pE (i j:Int):Prop:=0<=j/\j<=1000000/\i.natAbs<2^64
noncomputable def jJ (i j:Int):Prop:=(-(2^64)<i/\i<2^64)\/(-(2^64)<j/\j<2^64)
theorem jJ.ok{i j:Int}(h:jJ i j):IntMulOk i j:=by
 rcases h with⟨h1,h2⟩|⟨h1,h2⟩
 ·exact .of_left (intBits_le_64 h1 h2)
 ·exact .of_right (intBits_le_64 h1 h2)
theorem Bp:OpR X (binaryOp .Add) (rI0 fun i j=>.int (i+j)):=Bu fun _ _ _ _ _ _ _ q=>add_int q
theorem yF:OpR X (binaryOp .Mult) (rI jJ fun i j=>.int (i*j)):=opI fun _ _ _ _ _ _ _ hc q=>mul_int q hc.ok
theorem yd:OpR X (binaryOp .FloorDiv) (rI rV fun i j=>.int (i / j)):=opI fun i j _ _ _ _ _ hc q=>by
 have h1:(0:Int)<j:=hc.1;have h2:j<1073741824:=hc.2;exact floordiv_int (by lia) (by rw[Int.fdiv_eq_ediv_of_nonneg i (by lia)];exact q) (.inl (PyProof.noPylong_small (by lia)))
theorem Ap:OpR X (binaryOp .Mod) (rI (fun _ j=>0<j) fun i j=>.int (i%j)):=opI fun i j _ _ _ _ _ hc q=>by
 have h1:(0:Int)<j:=hc;exact mod_int' (by lia) (by rw[Int.fmod_eq_emod_of_nonneg i (by lia)];exact q)
theorem Bj:OpR X (binaryOp .LShift) (rI pE fun i j=>.int (i*2^j.toNat)):=opI fun _ _ _ _ _ _ _ hc q=>lshift_int_small hc.1 hc.2.1 hc.2.2 q
theorem unI{f:Value->Sem Value}{g:Int->Int}(rule:∀(i:Int)(t:Tok)(s:Shared)(Q:Value->Shared->Prop)(E:Value->Shared->Prop),Q (.int (g i) s.toks) { s with toks:=s.toks+1 }->wpAny (model X.prog X.w) X.A (f (.int i t)) Q E s) :
  UnR X f (rU fun i=>.int (g i)):=by
 intro pins s σ H x v Q I rx h;obtain⟨i,rfl,q⟩:=h;obtain⟨t,rfl⟩:=rx;exact rule i t s _ _ ⟨.int (g i),H,I.tok _,⟨_,rfl⟩,q⟩
theorem lx:UnR X (unaryOp .USub) (rU fun i=>.int (-i)):=unI fun _ _ _ _ _ q=>neg_int q
end
noncomputable def qN:V->V->Bool
 | .non,.non=>true | .non,.int _=>true | .int _,.non=>true | .non,.bl _=>true | .bl _,.non=>true | .non,.str _=>true | .str _,.non=>true
 | .int _,.int _=>true | .bl _,.bl _=>true | .str _,.str _=>true | .byt _,.byt _=>true
 | .int _,.str _=>true | .str _,.int _=>true | .bl _,.str _=>true | .str _,.bl _=>true
 | _,_=>false
noncomputable def rEq:R2:=fun x y H Q=>qN x y=true/\Q (.bl (decide (x=y))) H
noncomputable def rNe:R2:=fun x y H Q=>qN x y=true/\Q (.bl (!decide (x=y))) H
theorem sH{i j:Int}:decide (V.int i=V.int j)=(i==j):=by
 rw[FU]
 simp
theorem vd{i j:Bool}:decide (V.bl i=V.bl j)=(i==j):=by
 rw[FU]
 simp
theorem p9{i j:Str}:decide (V.str i=V.str j)=(i==j):=by
 rw[FU]
 simp
theorem pU{i j:Array UInt8}:decide (V.byt i=V.byt j)=(i.toList==j.toList):=by
 rw[FU];cases i
 cases j
 simp
section
variable {X:Cx}{a b c:Expr}{ta tb tc:TE}{pos:Pos}
theorem aR{σ:St}{H:Hp}{Q:VK}{k k':Bool}(I:Inv X pins σ H s)(q:Q (.bl k) H)(e:k=k'):EP X pins σ Q (.bool k') s:=by
 subst e;exact⟨.bl k,H,I,rfl,q⟩
theorem Dm:OpR X (compareOp .Eq) rEq:=by
 intro pins s σ H x y v u Q I rx ry h;obtain⟨hs,q⟩:=h;cases x with
 | non=>
  cases rx
  cases y with
  | non=>cases ry;exact PySem.EqNone.eq_none_none (aR I q (by simp))
  | bl j=>cases ry;exact PySem.EqNone.eq_none_bool (aR I q (by simp))
  | int j=>obtain⟨t',rfl⟩:=ry;exact PySem.EqNone.eq_none_int (aR I q (by simp))
  | str j=>obtain⟨t',rfl⟩:=ry;exact PySem.EqNone.eq_none_str (aR I q (by simp))
  | _=>exact absurd (show false=true from hs) FC
 | bl i=>
  cases rx
  cases y with
  | non=>cases ry;exact PySem.EqNone.eq_bool_none (aR I q (by simp))
  | bl j=>cases ry;exact eq_bool (aR I q vd)
  | str j=>obtain⟨t',rfl⟩:=ry;exact PySem.EqMixed.eq_bool_str (aR I q (by simp))
  | _=>exact absurd (show false=true from hs) FC
 | int i=>
  obtain⟨t,rfl⟩:=rx;cases y with
  | non=>cases ry;exact PySem.EqNone.eq_int_none (aR I q (by simp))
  | int j=>obtain⟨t',rfl⟩:=ry;exact eq_int (aR I q sH)
  | str j=>obtain⟨t',rfl⟩:=ry;exact PySem.EqMixed.eq_int_str (aR I q (by simp))
  | _=>exact absurd (show false=true from hs) FC
 | str i=>
  obtain⟨t,rfl⟩:=rx;cases y with
  | non=>cases ry;exact PySem.EqNone.eq_str_none (aR I q (by simp))
  | bl j=>cases ry;exact PySem.EqMixed.eq_str_bool (aR I q (by simp))
  | int j=>obtain⟨t',rfl⟩:=ry;exact PySem.EqMixed.eq_str_int (aR I q (by simp))
  | str j=>obtain⟨t',rfl⟩:=ry;exact eq_str (aR I q p9)
  | _=>exact absurd (show false=true from hs) FC
 | byt i=>
  obtain⟨t,rfl⟩:=rx;cases y with
  | byt j=>obtain⟨t',rfl⟩:=ry;exact PySem.W.eq_bytes (aR I q pU)
  | _=>exact absurd (show false=true from hs) FC
 | _=>cases y <;> exact absurd (show false=true from hs) FC
theorem CS:OpR X (compareOp .NotEq) rNe:=by
 intro pins s σ H x y v u Q I rx ry h;obtain⟨hs,q⟩:=h;cases x with
 | non=>
  cases rx
  cases y with
  | non=>cases ry;exact PySem.EqNone.ne_none_none (aR I q (by simp))
  | bl j=>cases ry;exact PySem.EqNone.ne_none_bool (aR I q (by simp))
  | int j=>obtain⟨t',rfl⟩:=ry;exact PySem.EqNone.ne_none_int (aR I q (by simp))
  | str j=>obtain⟨t',rfl⟩:=ry;exact PySem.EqNone.ne_none_str (aR I q (by simp))
  | _=>exact absurd (show false=true from hs) FC
 | bl i=>
  cases rx
  cases y with
  | non=>cases ry;exact PySem.EqNone.ne_bool_none (aR I q (by simp))
  | bl j=>cases ry;exact ne_bool (aR I q (congrArg not vd))
  | str j=>obtain⟨t',rfl⟩:=ry;exact PySem.EqMixed.ne_bool_str (aR I q (by simp))
  | _=>exact absurd (show false=true from hs) FC
 | int i=>
  obtain⟨t,rfl⟩:=rx;cases y with
  | non=>cases ry;exact PySem.EqNone.ne_int_none (aR I q (by simp))
  | int j=>obtain⟨t',rfl⟩:=ry;exact ne_int (aR I q (congrArg not sH))
  | str j=>obtain⟨t',rfl⟩:=ry;exact PySem.EqMixed.ne_int_str (aR I q (by simp))
  | _=>exact absurd (show false=true from hs) FC
 | str i=>
  obtain⟨t,rfl⟩:=rx;cases y with
  | non=>cases ry;exact PySem.EqNone.ne_str_none (aR I q (by simp))
  | bl j=>cases ry;exact PySem.EqMixed.ne_str_bool (aR I q (by simp))
  | int j=>obtain⟨t',rfl⟩:=ry;exact PySem.EqMixed.ne_str_int (aR I q (by simp))
  | str j=>obtain⟨t',rfl⟩:=ry;exact ne_str (aR I q (congrArg not p9))
  | _=>exact absurd (show false=true from hs) FC
 | byt i=>
  obtain⟨t,rfl⟩:=rx;cases y with
  | byt j=>obtain⟨t',rfl⟩:=ry;exact PySem.W.ne_bytes (aR I q (congrArg not pU))
  | _=>exact absurd (show false=true from hs) FC
 | _=>cases y <;> exact absurd (show false=true from hs) FC
theorem BZ:OpR X (compareOp .Lt) (rI0 fun i j=>.bl (decide (i<j))):=nY fun _ _ _ _ _ _ _ q=>lt_int q
theorem Dg:OpR X (compareOp .LtE) (rI0 fun i j=>.bl (decide (i<=j))):=nY fun _ _ _ _ _ _ _ q=>le_int q
theorem xt:OpR X (compareOp .Gt) (rI0 fun i j=>.bl (decide (j<i))):=nY fun _ _ _ _ _ _ _ q=>gt_int q
theorem EB:OpR X (compareOp .In) (fun x y H Q=>∃ i j,x=.str i/\y=.str j/\Q (.bl (!(Builtin.Str.occurrences j i 0 j.length 1).isEmpty)) H):=by
 intro pins s σ H x y v u Q I rx ry h;obtain⟨i,j,rfl,rfl,q⟩:=h;obtain⟨t,rfl⟩:=rx;obtain⟨t',rfl⟩:=ry;exact in_str (aR I q rfl)
theorem Cu:OpR X (compareOp .Is) (fun x y H Q=>y=.non/\Q (.bl (decide (x=.non))) H):=by
 intro pins s σ H x y v u Q I rx ry h;obtain⟨rfl,q⟩:=h;cases ry
 refine is_none_gen (aR I q ?_);cases x <;> first
  | (cases rx;rfl)
  | (obtain⟨t,rfl⟩:=rx;rfl)
theorem DL:OpR X (compareOp .IsNot) (fun x y H Q=>y=.non/\Q (.bl (!decide (x=.non))) H):=by
 intro pins s σ H x y v u Q I rx ry h;obtain⟨rfl,q⟩:=h;cases ry
 refine isnot_none_gen (aR I q ?_);cases x <;> first
  | (cases rx;rfl)
  | (obtain⟨t,rfl⟩:=rx;rfl)
theorem Dp{op:CmpOp}{r:R2}(ho:OpR X (compareOp op) r)(ha:PE X a ta)(hb:PE X b tb)(hm:behindInMarks op b=false):PE X (.Compare a [op] [b] pos) (tOp r ta tb):=by
 intro pins s σ H Q I h;exact wpAny_Compare1 (mZ ha hb I h fun v u s2 x y H2 I2 rx ry q=>ho pins s2 σ H2 x y v u Q I2 rx ry q) hm
noncomputable def zP (K:PySem.W.Frag)(x:V)(H:Hp)(k:Bool):Prop:=
 match x with
 | .non=>k=false
 | .bl b=>k=b
 | .int i=>k=(i !=0)
 | .str y=>y.length<=sizeLine/\k=((y.length:Int) !=0)
 | .byt y=>y.size<=sizeLine/\k=((y.size:Int) !=0)
 | .ref p=>(∃ xs,SqL K H p xs/\k = !xs.isEmpty)\/(∃ xs,SqT K H p xs/\k = !xs.isEmpty)\/∃ kvs,H p=some (.dK kvs)/\k = !kvs.isEmpty
 | _=>False
theorem Ec{κ:Type}{kvs:List (κ×V)}{vs:List (κ×Value)}(r:KV kvs vs):(!vs.isEmpty) = !kvs.isEmpty:=by
 cases r <;> rfl
theorem uQ{xs:List V}(r:Vals xs its):(!its.toArray.isEmpty) = !xs.isEmpty:=by
 cases r <;> simp
theorem fU:(sizeLine:Nat)<2^63:=by rw[Fz];decide
theorem su:zc X (fun x H Q=>∃ k,zP X.K x H k/\Q k H):=by
 intro pins s σ H x v Q I rx h;obtain⟨k,e,q⟩:=h;have hl:=fU;have hs:sizeLine=16777216:=Fz;cases x with
 | non=>
  cases rx
  have e':k=false:=e;subst e';exact truthy_none ⟨H,I,q⟩
 | bl b=>
  cases rx
  have e':k=b:=e;subst e';exact Gw ⟨H,I,q⟩
 | int i=>
  obtain⟨t,rfl⟩:=rx;have e':k=(i !=0):=e;subst e';exact PySem.P.truthy_int ⟨H,I,q⟩
 | str y=>
  obtain⟨t,rfl⟩:=rx;obtain⟨hy,e'⟩:y.length<=sizeLine/\k=((y.length:Int) !=0):=e;subst e';exact PySem.P.truthy_str (by lia) ⟨H,I.tok _,q⟩
 | byt y=>
  obtain⟨t,rfl⟩:=rx;obtain⟨hy,e'⟩:y.size<=sizeLine/\k=((y.size:Int) !=0):=e;subst e';exact PySem.W.truthy_bytes (by lia) ⟨H,I.tok _,q⟩
 | ref p=>
  cases rx
  have e':(∃ xs,SqL X.K H p xs/\k = !xs.isEmpty)\/(∃ xs,SqT X.K H p xs/\k = !xs.isEmpty)\/∃ kvs,H p=some (.dK kvs)/\k = !kvs.isEmpty:=e;rcases e' with⟨xs,hx,e'⟩|⟨xs,hx,e'⟩|⟨kvs,hx,e'⟩
  ·subst e';obtain⟨its,r,pl,hz⟩:=I.list hx;have hlen:=r.length;exact wpAny_truthy_list pl.isList (by simp only[FP];lia) ⟨H,I.tok _,by rw[uQ r];exact q⟩
  ·subst e';obtain⟨its,r,pl,hz⟩:=I.tuple hx;have hlen:=r.length;exact truthy_tuple pl (by simp only[FP];lia) ⟨H,I.tok _,by rw[uQ r];exact q⟩
  ·subst e';obtain⟨hz,hS,vs,r,m⟩:kvs.length<=sizeLine/\(p==sysModules)=false/\∃ vs,KV kvs vs/\s.heap.DictOf (az X.prog X.w) p vs:=I.hok p _ hx;have hlen:kvs.length=vs.length:=Paired.length r;exact wpAny_truthy_dict hS m (by lia) ⟨H,I.tok _,by rw[Ec r];exact q⟩
 | _=>exact(show False from e).elim
theorem zA:OpR X (binaryOp .Add) (fun x y H Q=>∃ i j,x=.str i/\y=.str j/\i.length+j.length<=sizeLine/\Q (.str (i++j)) H):=by
 intro pins s σ H x y v u Q I rx ry h;obtain⟨i,j,rfl,rfl,hz,q⟩:=h;obtain⟨t,rfl⟩:=rx;obtain⟨t',rfl⟩:=ry;exact add_str (fun t' tk=>⟨.str (i++j),H,I.tok _,⟨_,rfl⟩,q⟩) hz
theorem vals1{x:V}(r:Vals [x] us):∃ u,us=[u]/\RelV x u:=by
 cases r with
 | cons r1 r2=>cases r2;exact⟨_,rfl,r1⟩
theorem BO:aH X (.type "int") (fun xs H Q=>(∃ i,xs=[.int i]/\Q (.int i) H)\/∃ k,xs=[.bl k]/\Q (.int (if k then 1 else 0)) H):=by
 intro pins s σ H xs us Q I r h;rcases h with⟨i,rfl,q⟩|⟨k,rfl,q⟩
 ·obtain⟨u,rfl,t,rfl⟩:=vals1 r;exact call_int_int ⟨.int i,H,I,⟨_,rfl⟩,q⟩
 ·obtain⟨u,rfl,r1⟩:=vals1 r;cases r1
  exact call_int_bool ⟨.int (if k then 1 else 0),H,I.tok _,⟨_,rfl⟩,q⟩
end
structure fD (h:Heap)(x dx C:Addr)(mA:Str->Option Value):Prop where
 obj:h.get? x=some (PySem.W.instObj C dx)
 ns:h.Ns1 dx mA
 ne:dx≠x
theorem Al{dx:Addr}(n:h.Ns1 dx mA):∃ od,h.get? dx=some od/\∀ name,PySem.W.lookIn name od=some (mA name):=by
 obtain⟨o,es,ep,ho,hd,hk,_,hm⟩:=n;refine⟨o,ho,fun name=>?_⟩
 have e:=hm name;unfold nsFind findBy at e;rw[<-Array.find?_toList]at e;unfold PySem.W.lookIn;rw[hd];dsimp only
 split
 ·rename_i y q
  rw[q]at e;exact congrArg some e
 ·rename_i q
  rw[q]at e;have a:es.toList.any (·.refKey)=false:=by
   rw[List.any_eq_false];intro y hy;obtain⟨z,t,hkey⟩:=hk y (Array.mem_toList_iff.mp hy)
   simp [DictEntry.refKey,hkey]
  have a':¬ es.toList.any (·.refKey)=true:=by rw[a];exact FC
  rw[if_neg a'];exact congrArg some e
theorem fD.look{x dx:Addr}(I:fD h x dx C mA):∃ od,PySem.W.InstAt h x (PySem.W.instObj C dx) C (some od)/\∀ name,PySem.W.lookIn name od=some (mA name):=
 let ⟨od,ho,hl⟩:=Al I.ns
 ⟨od,⟨I.obj,rfl,rfl,ho⟩,hl⟩
section
variable {prog:Program}{w:World}{A:Around}{E:Value->Shared->Prop}{s:Shared}{K:PySem.W.Frag}{x dx C f:Addr}{mA:Str->Option Value}{name:Str}{v:Value}
theorem get_map{expr:Bool}(X:K.In s.heap)(I:fD s.heap x dx C mA)(hg:PySem.W.plainGet K C name=true)(hh:PySem.W.hasDictIn K C=true)(ha:PySem.W.findIn K (.ref C) name=some none)(hv:mA name=some v)(hv':PySem.W.handedIn v=true)(h:Q v { s with toks:=s.toks+1 }) :
  wpAny (model prog w) A (getAttr (.ref x) name expr) Q E s:=by
 obtain⟨od,J,hl⟩:=I.look;exact PySem.W.get_value X J (PySem.W.plainGet_of hg).1 (PySem.W.findObj_own hh ha rfl (by rw[hl,hv])) hv' h
theorem Dq{pl:Sem Bool}{Q:Value×List Value->Shared->Prop}(X:K.In s.heap)(I:fD s.heap x dx C mA)(hg:PySem.W.plainGet K C name=true)(hf:PySem.W.findIn K (.ref C) name=some (some (.ref f)))(ht:PySem.W.isFn K (.ref f)=true)(hv:mA name=none)(h:Q (.ref f,[.ref x]) s) :
  wpAny (model prog w) A (getMethod (.ref x) name pl) Q E s:=by
 obtain⟨od,J,hl⟩:=I.look;exact PySem.W.method_fn X J (PySem.W.plainGet_of hg).1 (PySem.W.plainGet_of hg).2 hf (beq_iff_eq.mp ht) (by show(PySem.W.lookIn name od).map (·.isSome)=some false;rw[hl,hv];rfl) h
theorem Dy{ns:List Str}{Q:Unit->Shared->Prop}(X:K.In s.heap)(I:fD s.heap x dx C mA)(hs:PySem.W.findIn K (.ref C) "__setattr__" = some (some (.builtin "object.__setattr__"))) (hp:PySem.W.plainOver K C=true) (ht:PySem.W.takerIn K C name=some none) (hh:PySem.W.hasDictIn K C=true) (hw:PySem.Within mA ns) (hsz:ns.length<=sizeLine) (h:∀ h',fD h' x dx C (fun y=>if y=name then some v else mA y)->Heap.SameBut dx s.heap h'->Q () { s with heap:=h',toks:=s.toks+2 }) :
  wpAny (model prog w) A (setAttr (.ref x) name v) Q E s:=by
 obtain⟨od,J,hl⟩:=I.look;refine PySem.W.set_plain X J hs (PySem.W.osa_open (s:={ s with toks:=s.toks+1 }) (r:=none) X J hp ht fun b=>?_)
 obtain⟨cd,hc,hd'⟩:=PySem.W.any_some hh;have hx:s.heap.get? x=some ⟨.ref C,some dx,.plain,#[]⟩:=I.obj;refine E4 (E6 (E4 (E4 (wpAny_loadPart hx (E4 (PySem.W.Looks.here (s:={ s with toks:=s.toks+1 }) (PySem.W.looks_clsIn X hc) ?_))))));rw[hd'];refine E6 (a:=some dx) (E4 (E6 (E4 ?_)));refine wpAny_nsSet1 (s:={ s with toks:=s.toks+1 }) I.ns fun h' hn2 hs2=>?_
 obtain⟨oD,esD,epD,hoD,hdD,hcD⟩:=hn2.count (PySem.Within.cons name v hw);refine E4 (wpAny_lookBehind hoD (by rw[hdD];exact pastItsLine_dict (FL hcD (by rw[Fy];lia))) ?_)
 exact E6 (h _ ⟨(hs2.2 _ (Ne.symm I.ne)).trans I.obj,hn2,I.ne⟩ hs2)
theorem Dw{R:Result->Shared->Prop}{kw:List (Str×Value)}(X:K.In s.heap)(hm:PySem.W.makesIn K C=true)(hi:PySem.W.findIn K (.ref C) "__init__" = some (some (.ref f))) (hf:PySem.W.typeIn K (.ref f)=some (.type "function")) (h:codeAny (model prog w) (A.under (.builtin "type.__call__" ⟨.ref C::vs,kw⟩)) (.call (.ref f) ⟨.ref (s.heap.objs.size+1)::vs,kw⟩) (PySem.W.InitBack (s.heap.objs.size+1) R)
   { s with heap:=(s.heap.push PySem.W.emptyDict).push (PySem.W.instObj C s.heap.objs.size) }) :
  codeAny (model prog w) A (.call (.ref C) ⟨vs,kw⟩) R s:=by
 obtain⟨hh,g,d,t,os⟩:=s;exact PySem.W.make_core (PySem.W.makes_of X hm) (PySem.W.looks_findIn X hi) (fun self=>PySem.W.bind_fn X self hf) (.inl rfl) h
end
noncomputable def ck (f:Str)(v:V):List (Str×V)->List (Str×V)
 | []=>[(f,v)]
 | (g,x)::r=>if g=f then(g,v)::r else(g,x)::ck f v r
theorem pQ(f g:Str)(v:V):∀ fs:List (Str×V),(ck f v fs).lookup g=if g=f then some v else fs.lookup g
 | []=>by
  show List.lookup g [(f,v)]=_
  by_cases h:g=f
  ·have hb:(g==f)=true:=beq_iff_eq.mpr h;simp only[List.lookup,hb,if_pos h]
  ·have hb:(g==f)=false:=beq_eq_false_iff_ne.mpr h;simp only[List.lookup,hb,if_neg h]
 | (k,x)::r=>by
  have ih:=pQ f g v r;rw[show ck f v ((k,x)::r)=(if k=f then(k,v)::r else(k,x)::ck f v r) from rfl]
  by_cases hk:k=f
  ·rw[if_pos hk]
   by_cases h:g=k
   ·have hb:(g==k)=true:=beq_iff_eq.mpr h;simp only[List.lookup,hb,if_pos (h.trans hk)]
   ·have hb:(g==k)=false:=beq_eq_false_iff_ne.mpr h;simp only[List.lookup,hb,if_neg (fun e:g=f=>h (e.trans hk.symm))]
  ·rw[if_neg hk]
   by_cases h:g=k
   ·have hb:(g==k)=true:=beq_iff_eq.mpr h;simp only[List.lookup,hb,if_neg (fun e:g=f=>hk (h.symm.trans e))]
   ·have hb:(g==k)=false:=beq_eq_false_iff_ne.mpr h;simp only[List.lookup,hb];exact ih
theorem mS(f:Str)(v:V):∀ fs:List (Str×V),f∈(ck f v fs).map (·.1)/\∀ g,g∈fs.map (·.1)->g∈(ck f v fs).map (·.1)
 | []=>⟨by simp [ck],fun g h=>by simp at h⟩
 | (k,x)::r=>by
  obtain⟨i1,i2⟩:=mS f v r;rw[show ck f v ((k,x)::r)=(if k=f then(k,v)::r else(k,x)::ck f v r) from rfl]
  by_cases hk:k=f
  ·rw[if_pos hk];subst hk;exact⟨by simp,fun g h=>by simpa using h⟩
  ·rw[if_neg hk];refine⟨?_,fun g h=>?_⟩
   ·rw[Fi];exact Ff _ i1
   ·rw[Fi]at h ⊢;rcases Fn.mp h with e|e
    ·exact Fn.mpr (.inl e)
    ·exact Ff _ (i2 g e)
theorem tZ(f:Str)(v:V):∀ fs:List (Str×V),(ck f v fs).length<=fs.length+1
 | []=>by simp [ck]
 | (k,x)::r=>by
  have ih:=tZ f v r;rw[show ck f v ((k,x)::r)=(if k=f then(k,v)::r else(k,x)::ck f v r) from rfl]
  by_cases hk:k=f
  ·rw[if_pos hk,Fy,Fy];lia
  ·rw[if_neg hk,Fy,Fy];lia
theorem bR.some_of{v:V}{o:Option Value}(r:bR (some v) o):∃ u,o=some u/\RelV v u:=by
 cases o with
 | none=>exact(show False from r).elim
 | some u=>exact⟨u,rfl,r⟩
theorem bR.none_of{o:Option Value}(r:bR none o):o=none:=by
 cases o with
 | none=>rfl
 | some u=>exact(show False from r).elim
theorem Bv{v:V}(r:RelV v u):PySem.W.handedIn u=true:=by
 cases v with
 | non=>cases (show u=Value.none from r);rfl
 | bl b=>cases (show u=Value.bool b from r);rfl
 | int i=>obtain⟨t,e⟩:=(show ∃ t,u=Value.int i t from r);cases e;rfl
 | str x=>obtain⟨t,e⟩:=(show ∃ t,u=Value.str x t from r);cases e;rfl
 | byt b=>obtain⟨t,e⟩:=(show ∃ t,u=Value.bytes b t from r);cases e;rfl
 | flt b=>obtain⟨t,e⟩:=(show ∃ t,u=Value.float b t from r);cases e;rfl
 | ref a=>cases (show u=Value.ref a from r);rfl
 | ty n=>cases (show u=Value.type n from r);rfl
section
variable {P:Program}{w:World}{H H':Hp}{h h':Heap}{a C dx:Addr}{fs fs':List (Str×V)}
theorem dw(hok:HOk P w H h)(e:H a=some (.ins C dx fs)):∃ mA,fD h a dx C mA/\(∀ f,bR (fs.lookup f) (mA f))/\PySem.Within mA (fs.map (·.1))/\fs.length<=1000/\H dx=some (.own a):=by
 obtain⟨d,z,ne,ob,mA,n,r,q⟩:=(show au P w H h a (.ins C dx fs) from hok a _ e)
 exact⟨mA,⟨ob,n,ne⟩,r,q,z,d⟩
end
structure Cls (K:PySem.W.Frag)(C:Addr):Prop where
 pg:PySem.W.plainGet K C Str.empty=true
 hd:PySem.W.hasDictIn K C=true
 po:PySem.W.plainOver K C=true
 sa:PySem.W.findIn K (.ref C) "__setattr__" = some (some (.builtin "object.__setattr__"))
theorem Cls.get{K:PySem.W.Frag}(c:Cls K C)(f:Str):PySem.W.plainGet K C f=true:=c.pg
noncomputable def cU (K:PySem.W.Frag)(C:Addr)(f:Str):Prop:=PySem.W.findIn K (.ref C) f=some none
theorem cU.CU{K:PySem.W.Frag}{f:Str}(n:cU K C f):PySem.W.takerIn K C f=some none:=by
 unfold PySem.W.takerIn;rw[show PySem.W.findIn K (.ref C) f=some none from n]
 rfl
structure Meth (K:PySem.W.Frag)(C:Addr)(m:Str)(f:Addr):Prop where
 at_:PySem.W.findIn K (.ref C) m=some (some (.ref f))
 fn:PySem.W.isFn K (.ref f)=true
 kp:PySem.W.keepIn K (.ref f)=true
section
variable {X:Cx}{pins:List (Addr×Obj)}{σ:St}{H:Hp}{s:Shared}{a C dx:Addr}{fs:List (Str×V)}{f:Str}{v:V}{A:Around}{E:Value->Shared->Prop}
theorem AO{b:Bool}(I:Inv X pins σ H s)(e:H a=some (.ins C dx fs))(c:Cls X.K C)(n:cU X.K C f)(l:fs.lookup f=some v)(h:∀ u s',Inv X pins σ H s'->RelV v u->Q u s'):wpAny (model X.prog X.w) A (getAttr (.ref a) f b) Q E s:=by
 obtain⟨mA,O,r,_,_,_⟩:=dw I.hok e;obtain⟨u,hu,ru⟩:=bR.some_of (v:=v) (o:=mA f) (by rw[<-l];exact r f)
 exact get_map I.kIn O (c.get f) c.hd n hu (Bv ru) (h u _ (I.tok _) ru)
theorem uA{m:Str}{g:Addr}{pl:Sem Bool}{Q:Value×List Value->Shared->Prop}(I:Inv X pins σ H s)(e:H a=some (.ins C dx fs))(c:Cls X.K C)(k:Meth X.K C m g)(l:fs.lookup m=none)(h:Q (.ref g,[.ref a]) s):wpAny (model X.prog X.w) A (getMethod (.ref a) m pl) Q E s:=by
 obtain⟨mA,O,r,_,_,_⟩:=dw I.hok e;have hn:mA m=none:=bR.none_of (by rw[<-l];exact r m)
 exact Dq I.kIn O (c.get m) k.at_ k.fn hn h
theorem CQ{y:V}{Q:Unit->Shared->Prop}(I:Inv X pins σ H s)(e:H a=some (.ins C dx fs))(c:Cls X.K C)(n:cU X.K C f)(hl:fs.length<1000)(ry:RelV y u)(h:∀ s',Inv X pins σ (upd H a (.ins C dx (ck f y fs))) s'->Q () s'):wpAny (model X.prog X.w) A (setAttr (.ref a) f u) Q E s:=by
 obtain⟨mA,O,r,wi,_,ho⟩:=dw I.hok e;have hz:(fs.map (·.1)).length<=sizeLine:=by rw[E3,Fz];lia
 refine Dy I.kIn O c.sa c.po n.CU c.hd wi hz fun h' O' sb=>h _ ?_
 have hd:∃ o,h'.get? dx=some o:=let ⟨o,_,_,e',_⟩:=O'.ns;⟨o,e'⟩
 refine I.write (x:=a) (e:=dx) (by rw[e];exact True.intro) (.inr ho) (fun b q hb z=>(sb.2 b hb).trans z) hd ?_
 refine⟨by rw[ar O.ne];exact ho,?_,O.ne,O'.obj,_,O'.ns,fun g=>?_,fun g hg=>?_⟩
 ·have:=tZ f y fs;lia
 ·show bR ((ck f y fs).lookup g) (if g=f then some u else mA g)
  rw[pQ]
  by_cases q:g=f
  ·rw[if_pos q,if_pos q];exact ry
  ·rw[if_neg q,if_neg q];exact r g
 ·by_cases q:g=f
  ·rw[q];exact(mS f y fs).1
  ·refine(mS f y fs).2 g (wi g fun z=>hg ?_)
   show(if g=f then some u else mA g)=none
   rw[if_neg q];exact z
theorem Inv.made(I:Inv X pins σ H s):Inv X pins σ (upd (upd H s.heap.objs.size (.own (s.heap.objs.size+1))) (s.heap.objs.size+1) (.ins C s.heap.objs.size []))
  { s with heap:=(s.heap.push PySem.W.emptyDict).push (PySem.W.instObj C s.heap.objs.size) }:=by
 have e1:(s.heap.push PySem.W.emptyDict).get? s.heap.objs.size=some PySem.W.emptyDict:=Fv s.heap rfl;have e2:((s.heap.push PySem.W.emptyDict).push (PySem.W.instObj C s.heap.objs.size)).get? (s.heap.objs.size+1)=some (PySem.W.instObj C s.heap.objs.size):=by
  have:=Fv (s.heap.push PySem.W.emptyDict) (o:=PySem.W.instObj C s.heap.objs.size) rfl
  rwa [GG]at this
 have e3:(s.heap.push PySem.W.emptyDict).Ns s.heap.objs.size (fun _=>none):=⟨PySem.W.emptyDict,#[],_,e1,rfl,(fun e he=>absurd he (by simp)),fun _=>rfl⟩
 have I1:=I.laid (a:=s.heap.objs.size) (o:=.own (s.heap.objs.size+1)) (h':=s.heap.push PySem.W.emptyDict) (t':=s.toks) (fun b u q=>E8 _ q) (E7 _) ⟨_,e1⟩
 refine I1.laid (a:=s.heap.objs.size+1) (o:=.ins C s.heap.objs.size []) (t':=s.toks) (fun b u q=>E8 _ q) (Nat.le_of_eq (GG _ _)) ?_
 have ne:s.heap.objs.size≠s.heap.objs.size+1:=FD (G3 _);refine⟨by rw[ar ne,aY],FG _,ne,e2,fun _=>none,(Heap.Ns1.of_empty e3).at fun o q=>E8 _ q,fun _=>True.intro,fun y hy=>absurd rfl hy⟩
theorem xo{f:Str}(hb:attributeBase e f env (eval e env)=eval e env)(h:wpAny (model prog w) A (eval e env) (fun o s₁=>wpAny (model prog w) A (getAttr o f true) Q E s₁) E s):wpAny (model prog w) A (eval (.Attribute e f pos) env) Q E s:=
 Attribute_any_ h (by rw[arm_eval_Attribute,hb])
end
noncomputable def CM (K:PySem.W.Frag)(ta:TE)(f:Str):TE:=fun σ H Q=>ta σ H fun x H1=>∃ a C dx fs v,x=.ref a/\H1 a=some (.ins C dx fs)/\Cls K C/\cU K C f/\fs.lookup f=some v/\Q v H1
noncomputable def wo (K:PySem.W.Frag)(ta tv:TE)(f:Str):TS:=fun D σ H=>tv σ H fun y H1=>ta σ H1 fun x H2=>∃ a C dx fs,x=.ref a/\H2 a=some (.ins C dx fs)/\Cls K C/\cU K C f/\fs.length<1000 ∧
 D.nx σ (upd H2 a (.ins C dx (ck f y fs)))
section
variable {X:Cx}{o e value:Expr}{f:Str}{pos pos' tpos:Pos}{ta tv:TE}
theorem xN(he:PE X e ta)(hb:attributeBase e f X.env (eval e X.env)=eval e X.env):PE X (.Attribute e f pos) (CM X.K ta f):=by
 intro pins s σ H Q I h;refine xo hb (thn (he pins s σ H _ I h) fun u s1 hZ=>?_)
 obtain⟨x,H1,I1,rx,a,C,dx,fs,v,ex,ea,c,n,l,q⟩:=hZ;subst ex;obtain rfl:u=Value.ref a:=rx;exact AO I1 ea c n l fun u' s2 I2 ru=>⟨v,H1,I2,ru,q⟩
theorem yB(ha:PE X o ta)(hv:PE X value tv)(hs:swapsWith value (some (.Attribute o f pos')) pos.line X.env=pure false):PS X (.Assign [.Attribute o f pos'] value pos) (wo X.K ta tv f):=by
 intro pins s σ H D I h;refine plainObj_wpAny_Assign_Attribute (thn (hv pins s σ H _ I h) fun u s1 ⟨y,H1,I1,ry,q⟩=>thn (ha pins s1 σ H1 _ I1 q) fun ov s2 ⟨x,H2,I2,rx,a,C,dx,fs,ex,ea,c,n,l,q2⟩=>?_) hs
 subst ex;obtain rfl:ov=Value.ref a:=rx;exact CQ I2 ea c n l ry fun s3 I3=>⟨σ,_,I3,q2⟩
end
section
variable {X:Cx}{pins:List (Addr×Obj)}{σ:St}{H:Hp}{s:Shared}{A:Around}{E:Value->Shared->Prop}{Q:Value->Shared->Prop}{c:Value}{b:Bool}
inductive cL (K:PySem.W.Frag)(H:Hp):V->Value->Prop where
 | non:cL K H .non (.type "NoneType")
 | bl (x:Bool):cL K H (.bl x) (.type "bool")
 | int (i:Int):cL K H (.int i) (.type "int")
 | str (x:Str):cL K H (.str x) (.type "str")
 | flt (x:UInt64):cL K H (.flt x) (.type "float")
 | lst {a:Addr} {xs:List V} (e:H a=some (.lst xs)):cL K H (.ref a) (.type "list")
 | frz {a:Addr} {o:Obj} {xs:List V} (e:H a=some (.frz o (.lst xs))):cL K H (.ref a) (.type "list")
 | tup {a:Addr} {xs:List V} (e:H a=some (.tup xs)):cL K H (.ref a) (.type "tuple")
 | dK {a:Addr} {kvs:List (Key×V)} (e:H a=some (.dK kvs)):cL K H (.ref a) (.type "dict")
 | dT {a:Addr} {kvs:List (List Key×V)} (e:H a=some (.dT kvs)):cL K H (.ref a) (.type "dict")
 | ins {a C dx:Addr} {fs:List (Str×V)} (e:H a=some (.ins C dx fs)) (cl:Cls K C) (ha:PySem.W.findIn K (.ref C) "__class__" = some (some (.builtin "object.__class__")))
   (hn:PySem.W.specialIn K (.builtin "object.__class__") "__get__" = some (some (.builtin "getset_descriptor.__get__"))) (htk:PySem.W.takesIn K (.builtin "object.__class__")=some true)
   (hm:PySem.W.mroIn K C (.type "object")=some true):cL K H (.ref a) (.ref C)
theorem xW{x:V}{t:Value}(I:Inv X pins σ H s)(rx:RelV x u)(ty:cL X.K H x t)(e:PySem.W.kitOne X.K t c=some b)(h:∀ tk,Q (.bool b) { s with toks:=tk }) :
  wpAny (model X.prog X.w) A (call (.builtin "isinstance") [u,c]) Q E s:=by
 cases ty with
 | non=>cases (show u=Value.none from rx);exact PySem.W.kia_one PySem.W.kitx_none I.kIn True.intro e (fun z=>nomatch z) h
 | bl y=>cases (show u=Value.bool y from rx);exact PySem.W.kia_one PySem.W.kitx_bool I.kIn True.intro e (fun z=>nomatch z) h
 | int i=>obtain⟨t,q⟩:=(show ∃ t,u=Value.int i t from rx);cases q;exact PySem.W.kia_one PySem.W.kitx_int I.kIn True.intro e (fun z=>nomatch z) h
 | str y=>obtain⟨t,q⟩:=(show ∃ t,u=Value.str y t from rx);cases q;exact PySem.W.kia_one PySem.W.kitx_str I.kIn True.intro e (fun z=>nomatch z) h
 | flt y=>obtain⟨t,q⟩:=(show ∃ t,u=Value.float y t from rx);cases q;exact PySem.W.kia_one PySem.W.kitx_float I.kIn True.intro e (fun z=>nomatch z) h
 | @lst a xs ea=>
  cases (show u=Value.ref a from rx)
  obtain⟨_,_,n,_,h1⟩:=(show au X.prog X.w H s.heap a (.lst xs) from I.hok a _ ea)
  exact PySem.W.kia_one PySem.W.kitx_list I.kIn ⟨_,h1,rfl⟩ e (fun z=>nomatch z) h
 | @frz a ob xs ea=>
  cases (show u=Value.ref a from rx)
  obtain⟨_,_,_,n,_,h1⟩:=(show au X.prog X.w H s.heap a (.frz ob (.lst xs)) from I.hok a _ ea)
  exact PySem.W.kia_one PySem.W.kitx_list I.kIn ⟨_,h1,rfl⟩ e (fun z=>nomatch z) h
 | @tup a xs ea=>
  cases (show u=Value.ref a from rx)
  obtain⟨_,_,_,p⟩:=(show au X.prog X.w H s.heap a (.tup xs) from I.hok a _ ea)
  obtain⟨o,h1,h2,_⟩:=p;exact PySem.W.kia_one PySem.W.kitx_tuple I.kIn ⟨o,h1,h2⟩ e (fun z=>nomatch z) h
 | @dK a kvs ea=>
  cases (show u=Value.ref a from rx)
  obtain⟨_,_,vs,_,p⟩:=(show au X.prog X.w H s.heap a (.dK kvs) from I.hok a _ ea)
  obtain⟨o,es,ep,h1,h2,_⟩:=p;exact PySem.W.kia_one PySem.W.kitx_dict I.kIn ⟨o,h1,h2.1⟩ e (fun z=>nomatch z) h
 | @dT a kvs ea=>
  cases (show u=Value.ref a from rx)
  obtain⟨_,_,xs,_,o,es,ep,h1,h2,_⟩:=(show au X.prog X.w H s.heap a (.dT kvs) from I.hok a _ ea)
  exact PySem.W.kia_one PySem.W.kitx_dict I.kIn ⟨o,h1,h2.1⟩ e (fun z=>nomatch z) h
 | @ins a C dx fs ea cl ha hn htk hm=>
  cases (show u=Value.ref a from rx)
  obtain⟨mA,O,_⟩:=dw I.hok ea;obtain⟨od,J,_⟩:=O.look;exact PySem.W.kia_one (PySem.W.kitx_own (cl.get _) cl.hd ha hn htk hm) I.kIn J e (fun z=>nomatch z) h
end
structure aE (k:Nat)(A:Around):Prop where
 hd:A.handled=none
 dp:A.depth+3*k+5<recursionLimit
 un:A.units+16*k+200<cLine
theorem aE.mono{k:Nat}(r:aE k A)(h:j<=k):aE j A:=⟨r.hd,by have:=r.dp;lia,by have:=r.un;lia⟩
theorem aE.deeper{k:Nat}(r:aE (k+1) A)(env:Env):aE k (A.deeper env):=
 ⟨r.hd,by have:=r.dp;show A.depth+1+3*k+5<_;lia,by have:=r.un;show A.units+3+16*k+200<_;lia⟩
theorem Ey{kw:List (Str×Value)}:(A.under (.builtin "type.__call__" ⟨.ref C::us,kw⟩)).depth=A.depth+1:=by
 first|rfl|simp [Around.under,Code.weight,Code.isCreation,Code.isGuard,Code.isCaller,Code.frames,Code.isFrame,guardIds]
theorem CP{kw:List (Str×Value)}:(A.under (.builtin "type.__call__" ⟨.ref C::us,kw⟩)).units=A.units+1:=by
 first|rfl|simp [Around.under,Code.cUnits,Code.frames,Code.isFrame]
theorem aE.make{k:Nat}(r:aE (k+1) A)(C:Addr)(us:List Value)(kw:List (Str×Value)):aE k (A.under (.builtin "type.__call__" ⟨.ref C::us,kw⟩)):=
 ⟨r.hd,by have:=r.dp;rw[Ey];lia,by have:=r.un;rw[CP];lia⟩
theorem aE.depth{k:Nat}(r:aE k A):A.depth<recursionLimit:=by have:=r.dp;lia
theorem aE.units{k:Nat}(r:aE k A):A.units+64<cLine:=by have:=r.un;lia
noncomputable def gy:TA:=fun _ H Q=>Q [] H
noncomputable def tN (ta:TE)(tr:TA):TA:=fun σ H Q=>ta σ H fun x H1=>tr σ H1 fun xs H2=>Q (x::xs) H2
section
variable {X:Cx}{e:Expr}{es:List Expr}{te:TE}{t:TA}{pos:Pos}
theorem ab:PA X [] gy:=fun _ _ _ _ H Q I h=>Calls.spliced_nil ⟨[],H,I,.nil,h⟩
theorem aa(ha:PE X e te)(hr:PA X es t)(hs:starEach (e::es) X.env=(false,eval e X.env)::starEach es X.env:=by rfl):PA X (e::es) (tN te t):=by
 intro pos pins s σ H Q I h;rw[hs];show wpAny _ _ (spliced ((false,eval e X.env)::backTo pos (starEach es X.env))) _ _ s
 refine Calls.spliced_cons (thn (ha pins s σ H _ I h) fun u s1 hZ=>?_)
 obtain⟨x,H1,I1,r1,q1⟩:=hZ;exact thn (hr pos pins s1 σ H1 _ I1 q1) fun us s2 ⟨xs,H2,I2,r2,q2⟩=>⟨x::xs,H2,I2,.cons r1 r2,q2⟩
end
noncomputable abbrev Sp:=List V->Hp->VK->XK->Prop
noncomputable abbrev CXT:=List Env->Hp->Shared->XK->Value->Shared->Prop
structure dW (P:Program)(w:World)(K:PySem.W.Frag)(mg:Str->Option Value)(base:Heap)(A:Around)(outer:List Env)(s:Shared)(H:Hp):Prop where
 frames:A.frames=some outer
 mod:Mod K mg base
 bs:∀ b o,base.get? b=some o->s.heap.get? b=some o/\H b=none
 bsz:base.objs.size<=s.heap.objs.size
 cA:s.heap.FunFrames base outer
 frf:∀ b∈frs outer,H b=none
 hok:HOk P w H s.heap
 bare:AllBare s.gens
noncomputable def CE (outer:List Env)(P:Program)(w:World)(H:Hp)(s:Shared)(Q:VK)(u:Value)(s':Shared):Prop:=
 ∃ v H',s'.os=s.os/\AllBare s'.gens/\Un (frs outer) [] H H' s.heap s'.heap/\HOk P w H' s'.heap/\RelV v u/\Q v H'
noncomputable def CR (CX:CXT)(outer:List Env)(P:Program)(w:World)(H:Hp)(s:Shared)(Q:VK)(E:XK)(r:Result)(s':Shared):Prop:=
 match r with
 | .ok (.ret u)=>CE outer P w H s Q u s'
 | .ok _=>False
 | .error e=>CX outer H s E e s'
structure ao (P:Program)(w:World)(K:PySem.W.Frag)(mg:Str->Option Value)(base:Heap)(CX:CXT)(k:Nat)(f:Addr)(fd:FuncData)(ps:List Str)(sp:Sp):Prop where
 len:∀ vs H Q E,sp vs H Q E->vs.length=ps.length
 run:∀(A:Around) (outer:List Env) (s:Shared) (H:Hp) (args:Args) (us:List Value) (vs:List V) (Q:VK) (E:XK),aE k A->dW P w K mg base A outer s H->BindsTo s fd args (ps.zip us)->Vals vs us->sp vs H Q E →
  codeAny (model P w) A (.call (.ref f) args) (CR CX outer P w H s Q E) s
theorem ao.mono{K:PySem.W.Frag}{CX:CXT}{k:Nat}{sp:Sp}(F:ao P w K mg base CX j f fd ps sp)(h:j<=k) :
  ao P w K mg base CX k f fd ps sp:=⟨F.len,fun A outer s H args us vs Q E hr=>F.run A outer s H args us vs Q E (hr.mono h)⟩
theorem dW.make{K:PySem.W.Frag}{outer:List Env}{H:Hp}(e:dW P w K mg base A outer s H)(C:Addr)(us:List Value)(kw:List (Str×Value)) :
  dW P w K mg base (A.under (.builtin "type.__call__" ⟨.ref C::us,kw⟩)) outer s H:=⟨by first|exact e.frames|(simpa [Around.under,Code.envs,Code.isFrame,pushEnvs] using e.frames),e.mod,e.bs,e.bsz,e.cA,e.frf,e.hok,e.bare⟩
section
variable {X:Cx}{pins:List (Addr×Obj)}{σ:St}{H:Hp}{s s':Shared}
theorem Inv.uj(I:Inv X pins σ H s):dW X.prog X.w X.K X.mg X.base X.A X.stack s H:=
 ⟨I.ok.frames,I.ok.mod,I.bs,FL I.ok.bsz I.sz,I.stack,I.oH,I.hok,I.bare⟩
theorem Inv.after{Q:VK}(I:Inv X pins σ H s)(h:CE X.stack X.prog X.w H s Q u s'):EP X pins σ Q u s':=by
 obtain⟨v,H',os,bare,un,hok,r,q⟩:=h;obtain⟨hh,g,d,t,os'⟩:=s';obtain rfl:os'=s.os:=os;exact⟨v,H',I.call (h':=hh) (g':=g) (d':=d) (t':=t) (ch:=[]) un hok bare (fun b z=>absurd z (by simp)),r,q⟩
end
noncomputable def AD (sp:Sp)(dvs:List V)(E:XK)(t:TA):TE:=fun σ H Q=>t σ H fun vs H1=>sp (vs++dvs) H1 Q E
noncomputable def uG (C:Addr)(m:Str)(sp:Sp)(dvs:List V)(E:XK)(ta:TE)(t:TA):TE:=fun σ H Q=>ta σ H fun x H1=>∃ a dx fs,x=.ref a/\H1 a=some (.ins C dx fs)/\fs.lookup m=none ∧
 t σ H1 fun vs H2=>sp (x::(vs++dvs)) H2 Q E
noncomputable def yw (C:Addr)(sp:Sp)(dvs:List V)(E:XK)(t:TA):TE:=fun σ H Q=>t σ H fun vs H1=>∀ x dx,H1 x=none->H1 dx=none->dx≠x →
 sp (.ref x::(vs++dvs)) (upd (upd H1 dx (.own x)) x (.ins C dx [])) (fun v H2=>v=.non/\Q (.ref x) H2) E
noncomputable def Binds (K:PySem.W.Frag)(fd:FuncData)(ps:List Str)(ds:List Value):Prop:=
 ∀(s:Shared) (us:List Value),K.In s.heap->(us++ds).length=ps.length->BindsTo s fd ⟨us,[]⟩ (ps.zip (us++ds))
theorem Binds.all{K:PySem.W.Frag}(h:∀ us:List Value,us.length=ps.length->bindArgs fd ⟨us,[]⟩=pure (ps.zip us)):Binds K fd ps []:=fun s us _ hl=>by
 rw[FR]at hl ⊢;exact .of_eq (h us hl)
noncomputable def Passes (CX:CXT)(X:Cx)(E:XK):Prop:=∀(pins:List (Addr×Obj))(σ:St)(H:Hp)(s:Shared)(e:Value)(s':Shared),Inv X pins σ H s->CX X.stack H s E e s'->X.xe e s'
section
variable {X:Cx}{CX:CXT}{k:Nat}{f C:Addr}{fd:FuncData}{ps:List Str}{sp:Sp}{dvs:List V}{ds:List Value}{E:XK}{x m:Str}{p pos apos:Pos}{e o:Expr}{es:List Expr}{ta:TE}{t:TA}
theorem lF{σ:St}{H:Hp}{Q:VK}{vs:List V}(F:ao X.prog X.w X.K X.mg X.base CX k f fd ps sp)(hr:aE k X.A)(hb:Binds X.K fd ps ds)(hd:Vals dvs ds)(hx:Passes CX X E)(I:Inv X pins σ H s)(r:Vals vs us)(h:sp (vs++dvs) H Q E):wpAny (model X.prog X.w) X.A (call (.ref f) us) (EP X pins σ Q) X.xe s:=by
 have r2:Vals (vs++dvs) (us++ds):=r.append hd;have hl:(us++ds).length=ps.length:=by rw[<-r2.length];exact F.len _ _ _ _ h
 refine wpAny_call (codeAny_mono (F.run X.A X.stack s H ⟨us,[]⟩ (us++ds) (vs++dvs) Q E hr I.uj (hb s us I.kIn hl) r2 h) fun r s' hq=>?_)
 cases r with
 | error e=>exact hx pins σ H s e s' I hq
 | ok fl=>
  cases fl with
  | ret u=>exact I.after hq
  | next=>exact False.elim hq
  | brk=>exact False.elim hq
  | cont=>exact False.elim hq
theorem yj(F:ao X.prog X.w X.K X.mg X.base CX k f fd ps sp)(hr:aE k X.A)(hg:Gl X x)(hm:X.mg x=some (.ref f))(hk:PySem.W.keepIn X.K (.ref f)=true)(hb:Binds X.K fd ps ds)(hd:Vals dvs ds)(hx:Passes CX X E)(ha:PA X (e::es) t)(hdb:(x==("__debug__":Str))=false:=by decide) (he:starEach (e::es) X.env=(false,eval e X.env)::starEach es X.env:=by rfl) (hpl:(backTo pos (starEach es X.env)).any (·.1)=false:=by rfl) :
  PE X (.Call (.Name x p) (e::es) [] pos) (AD sp dvs E t):=by
 intro pins s σ H Q I h;refine G6 (jt I hg hm ?_ hdb);refine PySem.W.callWith_K (h₀:=X.base) I.ok.mod.kin hk (thn (ha pos pins s σ H _ I h) fun us s1 ⟨vs,H1,I1,r,q⟩=>⟨I1.kIn,?_⟩) he hpl
 exact lF F hr hb hd hx I1 r q
theorem zt{pl:Sem Bool}(he:PE X o ta)(c:Cls X.K C)(hm:Meth X.K C m f)(F:ao X.prog X.w X.K X.mg X.base CX k f fd ps sp)(hr:aE k X.A)(hb:Binds X.K fd ps ds)(hd:Vals dvs ds)(hx:Passes CX X E)(ha:PA X (e::es) t)(hst:starEach (e::es) X.env=(false,eval e X.env)::starEach es X.env:=by rfl)(hpl:(backTo pos (starEach es X.env)).any (·.1)=false:=by rfl)(ht:eval (.Call (.Attribute o m apos) (e::es) [] pos) X.env=(do
   let ov <-eval o X.env
   standAt apos.atName
   let (f,first) <-holding [ov] (getMethod ov m pl)
   callWith pos f first (backTo pos (starEach (e::es) X.env)) (backToKw pos (keywordEach [] X.env))):=by rfl) :
  PE X (.Call (.Attribute o m apos) (e::es) [] pos) (uG C m sp dvs E ta t):=by
 intro pins s σ H Q I h;refine PySem.W.methodCall_KW (pl:=pl) (thn (he pins s σ H _ I h) fun u s1 ⟨x,H1,I1,rx,a,dx,fs,ex,ea,l,q⟩=>?_) ht
 subst ex;obtain rfl:u=Value.ref a:=rx;refine uA I1 ea c hm l ?_;refine PySem.W.callWith_K (first:=[.ref a]) (h₀:=X.base) I.ok.mod.kin hm.kp (thn (ha pos pins s1 σ H1 _ I1 q) fun us s2 ⟨vs,H2,I2,r,q2⟩=>⟨I2.kIn,?_⟩) hst hpl
 exact lF (us:=.ref a::us) (vs:=.ref a::vs) F hr hb hd hx I2 (.cons rfl r) q2
theorem AL{pl:Sem Bool}(he:PE X o ta)(c:Cls X.K C)(hm:Meth X.K C m f)(F:ao X.prog X.w X.K X.mg X.base CX k f fd ps sp)(hr:aE k X.A)(hb:Binds X.K fd ps ds)(hd:Vals dvs ds)(hx:Passes CX X E)(ht:eval (.Call (.Attribute o m apos) [] [] pos) X.env=(do
   let ov <-eval o X.env
   standAt apos.atName
   let (f,first) <-holding [ov] (getMethod ov m pl)
   callWith pos f first (backTo pos (starEach [] X.env)) (backToKw pos (keywordEach [] X.env))):=by rfl) :
  PE X (.Call (.Attribute o m apos) [] [] pos) (uG C m sp dvs E ta gy):=by
 intro pins s σ H Q I h;refine PySem.W.methodCall_KW (pl:=pl) (thn (he pins s σ H _ I h) fun u s1 ⟨x,H1,I1,rx,a,dx,fs,ex,ea,l,q⟩=>?_) ht
 subst ex;obtain rfl:u=Value.ref a:=rx;refine uA I1 ea c hm l ?_;exact PySem.W.callWith_K0 (first:=[.ref a]) I1.kIn hm.kp (lF (us:=[.ref a]) (vs:=[.ref a]) F hr hb hd hx I1 (.cons rfl .nil) q)
structure Mk (K:PySem.W.Frag)(C f:Addr):Prop where
 makes:PySem.W.makesIn K C=true
 init:PySem.W.findIn K (.ref C) "__init__" = some (some (.ref f))
 fn:PySem.W.isFn K (.ref f)=true
 kp:PySem.W.keepIn K (.ref C)=true
theorem Av{σ:St}{H:Hp}{Q:VK}{vs:List V}(M:Mk X.K C f)(F:ao X.prog X.w X.K X.mg X.base CX k f fd ps sp)(hr:aE (k+1) X.A)(hb:Binds X.K fd ps ds)(hd:Vals dvs ds)(hx:Passes CX X E)(I:Inv X pins σ H s)(r:Vals vs us)(h:∀ x dx,H x=none->H dx=none->dx≠x->sp (.ref x::(vs++dvs)) (upd (upd H dx (.own x)) x (.ins C dx [])) (fun v H2=>v=.non/\Q (.ref x) H2) E) :
  wpAny (model X.prog X.w) X.A (call (.ref C) us) (EP X pins σ Q) X.xe s:=by
 have hq:=h (s.heap.objs.size+1) s.heap.objs.size (I.hok.fresh (Nat.le_succ _)) (I.hok.fresh (E7 _)) (FD (G3 _));have I2:=Inv.made (C:=C) I;have r2:Vals (V.ref (s.heap.objs.size+1)::(vs++dvs)) (Value.ref (s.heap.objs.size+1)::(us++ds)):=.cons rfl (r.append hd);have hl:(Value.ref (s.heap.objs.size+1)::us++ds).length=ps.length:=by
  have e:=r2.length;rw[F.len _ _ _ _ hq]at e;exact e.symm
 refine wpAny_call (Dw (f:=f) I.kIn M.makes M.init (beq_iff_eq.mp M.fn) (codeAny_mono (F.run _ X.stack _ _ ⟨Value.ref (s.heap.objs.size+1)::us,[]⟩ (Value.ref (s.heap.objs.size+1)::(us++ds)) _ _ E (hr.make C us [])
  (I2.uj.make C us []) (hb _ (Value.ref (s.heap.objs.size+1)::us) I2.kIn hl) r2 hq) fun r s' hq'=>?_))
 cases r with
 | error e=>exact hx pins σ _ _ e s' I2 hq'
 | ok fl=>
  cases fl with
  | ret u=>
   obtain⟨v,H',I3,rv,ev,q3⟩:=I2.after hq';subst ev;exact⟨rv,⟨V.ref (s.heap.objs.size+1),H',I3,rfl,q3⟩⟩
  | next=>exact False.elim hq'
  | brk=>exact False.elim hq'
  | cont=>exact False.elim hq'
theorem xg(M:Mk X.K C f)(F:ao X.prog X.w X.K X.mg X.base CX k f fd ps sp)(hr:aE (k+1) X.A)(hg:Gl X x)(hm:X.mg x=some (.ref C))(hb:Binds X.K fd ps ds)(hd:Vals dvs ds)(hx:Passes CX X E)(ha:PA X (e::es) t)(hdb:(x==("__debug__":Str))=false:=by decide) (he:starEach (e::es) X.env=(false,eval e X.env)::starEach es X.env:=by rfl) (hpl:(backTo pos (starEach es X.env)).any (·.1)=false:=by rfl) :
  PE X (.Call (.Name x p) (e::es) [] pos) (yw C sp dvs E t):=by
 intro pins s σ H Q I h;refine G6 (jt I hg hm ?_ hdb);refine PySem.W.callWith_K (h₀:=X.base) I.ok.mod.kin M.kp (thn (ha pos pins s σ H _ I h) fun us s1 ⟨vs,H1,I1,r,q⟩=>⟨I1.kIn,?_⟩) he hpl
 exact Av M F hr hb hd hx I1 r q
end
section
variable {X:Cx}{CX:CXT}{k:Nat}{f C:Addr}{fd:FuncData}{ps ks:List Str}{sp:Sp}{E:XK}{x m:Str}{p pos apos kpos:Pos}{e o:Expr}{es:List Expr}{kws:List Keyword}{te ta:TE}{t tk:TA}{nm:Option Str}
variable {g:List Value->List Value->List Value}{gV:List V->List V->List V}
end
structure aJ (N P:List Str)(sc:Scope):Prop where
 kind:sc.kind=.function
 co:sc.isCoroutine=false
 gen:sc.isGenerator=false
 nd:N.Nodup
 pre:N.take P.length=P
 par:∀ x∈P,sc.names.lookup x=some .local\/sc.names.lookup x=some .cell
 nofree:∀ y∈sc.names,y.2≠.free
theorem rM{kindOf:Str->Option NameKind}:∀{binds:List (Str×Value)}{m:Str->Option Value},(∀ v,(x,v)∉binds)->bindL kindOf binds m x=m x
 | [],_,_=>rfl
 | (n,v)::r,m,h=>by
  unfold bindL;rw[rM fun w hw=>h w (Ff _ hw)]
  split
  ·have:x≠n:=by rintro rfl;exact h v Fd
   simp [this]
  ·rfl
theorem ui{kindOf:Str->Option NameKind}:∀{binds:List (Str×Value)}{m:Str->Option Value},(∀ v,(x,v)∉binds)->bindC kindOf binds m x=m x
 | [],_,_=>rfl
 | (n,v)::r,m,h=>by
  unfold bindC;rw[ui fun w hw=>h w (Ff _ hw)]
  split
  ·rfl
  ·have:x≠n:=by rintro rfl;exact h v Fd
   simp [this]
theorem uf{kindOf:Str->Option NameKind}:∀{P:List Str}{vs:List Value}{i:Nat}{m:Str->Option Value},P.Nodup->P[i]? =some x->vs[i]? =some v->kindOf x=some .local →
  bindL kindOf (P.zip vs) m x=some v
 | [],_,_,_,_,h,_,_=>by simp at h
 | _::_,[],_,_,_,_,h,_=>by simp at h
 | p::P,w::vs,0,m,nd,h1,h2,hk=>by
  simp at h1 h2;subst h1;subst h2
  show bindL kindOf ((p,w)::P.zip vs) m p=_
  unfold bindL;rw[rM fun v hv=>(Gg.mp nd).1 (List.of_mem_zip hv).1,if_pos hk]
  simp
 | p::P,w::vs,i+1,m,nd,h1,h2,hk=>by
  show bindL kindOf ((p,w)::P.zip vs) m x=_
  unfold bindL;exact uf (i:=i) (Gg.mp nd).2 (by simpa using h1) (by simpa using h2) hk
theorem uU{kindOf:Str->Option NameKind}:∀{P:List Str}{vs:List Value}{i:Nat}{m:Str->Option Value},P.Nodup->P[i]? =some x->vs[i]? =some v->kindOf x≠some .local →
  bindC kindOf (P.zip vs) m x=some v
 | [],_,_,_,_,h,_,_=>by simp at h
 | _::_,[],_,_,_,_,h,_=>by simp at h
 | p::P,w::vs,0,m,nd,h1,h2,hk=>by
  simp at h1 h2;subst h1;subst h2
  show bindC kindOf ((p,w)::P.zip vs) m p=_
  unfold bindC;rw[ui fun v hv=>(Gg.mp nd).1 (List.of_mem_zip hv).1,if_neg hk]
  simp
 | p::P,w::vs,i+1,m,nd,h1,h2,hk=>by
  show bindC kindOf ((p,w)::P.zip vs) m x=_
  unfold bindC;exact uU (i:=i) (Gg.mp nd).2 (by simpa using h1) (by simpa using h2) hk
noncomputable def start (N:List Str)(vs:List V):St:=vs.map some++List.replicate (N.length-vs.length) none
noncomputable def fM (CX:CXT)(P:Program)(w:World)(K:PySem.W.Frag)(mg:Str->Option Value)(base:Heap)(N:List Str)(qual:Str)(scope:Scope)(f:Addr)(cd:Value)(A:Around)(outer:List Env)(s:Shared)(H:Hp)(E:XK):Cx where
 prog:=P
 w:=w
 K:=K
 mg:=mg
 base:=base
 A:=A.deeper (envOfC qual scope s.heap.objs.size f cd)
 N:=N
 s₀:=s
 H₀:=H
 env:=envOfC qual scope s.heap.objs.size f cd
 outer:=outer
 stack:=envOfC qual scope s.heap.objs.size f cd::outer
 ex:=[]
 calm:=true
 fn:=fun _=>true
 pn:=[]
 xe:=fun e s'=>wpAny (model P w) (A.deeper (envOfC qual scope s.heap.objs.size f cd)) (leaving (envOfC qual scope s.heap.objs.size f cd) e) (fun _ s''=>CX outer H s E e s'') (fun e' s''=>CX outer H s E e' s'') s'
theorem vy{sc:Scope}{n:Nat}(h:sc.names.lookup x=some .cell):∃ c,(cellsFrom n sc.names []).lookup x=some c:=by
 have q:=PySem.W.cellsFrom_some sc.names n [] (.inl h);exact Option.isSome_iff_exists.mp q
theorem Dd{CX:CXT}{K:PySem.W.Frag}{cd:Value}{outer:List Env}{s1:Shared}{H:Hp}{E:XK}{vs:List V}(S:aJ N ps scope)(hd:A.handled=none)(e0:dW P w K mg base A outer s H)(hl:vs.length=ps.length)(r:Vals vs us)(x:InCallC s s.heap.objs.size (bindL (envOfC qual scope s.heap.objs.size f cd).kindOf (ps.zip us) fun _=>none) (cellsFrom (s.heap.objs.size+1) scope.names []) (bindC (envOfC qual scope s.heap.objs.size f cd).kindOf (ps.zip us) fun _=>none) s1) :
  Inv (fM CX P w K mg base N qual scope f cd A outer s H E) [] (start N vs) H s1:=by
 have hpl:ps.length<=N.length:=by have:=congrArg List.length S.pre;rw[F3]at this;lia
 obtain⟨h1,tk,rfl,hk⟩:=x.done;have noA:∀ b:Addr,b∉(fM CX P w K mg base N qual scope f cd A outer s H E).ex:=fun b z=>absurd (show b∈([]:List Addr) from z) (by simp)
 refine⟨⟨e0.mod,S.kind,rfl,rfl,E7 _,fun y z c h1 h2=>?_,fun y hy=>?_,fun y c _ h=>?_,fun _=>hd,Around.frames_deeper e0.frames,.inr ⟨rfl,rfl⟩,fun b z=>absurd z (noA b),e0.bs,e0.bsz,fun b _ _=>noA b,fun b z=>absurd z (noA b),e0.cA,e0.frf⟩,
  rfl,e0.bare,Un.kept hk,⟨_,x.toInCall.ns,fun i y v h1 h2 h3=>?_⟩,fun y c h=>⟨_,x.cell y c h⟩,e0.hok.fresh (E7 _),fun y c h=>?_,fun p hp=>absurd (show p∈([]:List (Addr×Obj)) from hp) (by simp),e0.hok.kept hk,?_⟩
 ·exact name_of_addr x.apart (PySem.mem_of_lookup h1) (PySem.mem_of_lookup h2)
 ·have hy:scope.names.lookup y=some .cell\/scope.names.lookup y=some .free:=hy;rcases hy with hy|hy
  ·exact vy hy
  ·exact absurd rfl (S.nofree _ (PySem.mem_of_lookup hy))
 ·exact GL (x.above y c (PySem.mem_of_lookup h))
 ·have hi:i<vs.length:=by
   unfold start at h2
   by_cases hi:i<vs.length
   ·exact hi
   ·rw[F6 (by simpa using hi)]at h2
    rw[List.getElem?_replicate]at h2
    split at h2 <;> cases h2
  have ha:vs[i]? =some v:=by
   unfold start at h2;rw[FX (by simpa using hi),E9]at h2
   cases e:vs[i]? with
   | none=>rw[e]at h2;cases h2
   | some a=>rw[e]at h2;cases h2;rfl
  obtain⟨u,hu,rv⟩:=r.get ha;have hp:ps[i]? =some y:=by
   rw[<-S.pre,List.getElem?_take_of_lt (by lia)];exact h1
  have ndP:ps.Nodup:=by rw[<-S.pre];exact S.nd.sublist (List.take_sublist _ _)
  refine⟨u,rv,?_⟩;rcases S.par y (Fe hp) with k|k
  ·exact .inl ⟨k,uf ndP hp hu k⟩
  ·obtain⟨c,e⟩:=vy (n:=s.heap.objs.size+1) k;refine .inr ⟨.inl k,c,e,?_⟩;have q:=x.cell y c e;rw[uU ndP hp hu (by show scope.names.lookup y≠_;rw[k];decide)]at q
   exact q
 ·exact e0.hok.fresh (GL (x.above y c (PySem.mem_of_lookup h)))
 ·unfold start;show _=N.length
  rw[Fh,E3,List.length_replicate];lia
theorem ql{CX:CXT}{K:PySem.W.Frag}{k:Nat}{name:Str}{params:Arguments}{dV kV doc cdv ct oc:Value}{an od:Option Addr}{osl:Array (Option Value)}{sp:Sp}(lk:K.lookup f=some ⟨oc,od,.func (PySem.W.fnOf name qual params body scope dV kV doc pm an cdv ct),osl⟩)(hcd:PySem.W.codeIn K cdv qual=true)(S:aJ N ps scope)(len:∀ vs H Q E,sp vs H Q E->vs.length=ps.length)(hbody:∀(A:Around)(outer:List Env)(s:Shared)(H:Hp)(vs:List V)(Q:VK)(E:XK),aE k (A.deeper (envOfC qual scope s.heap.objs.size f cdv))->sp vs H Q E →
   ∃ t,PSs (fM CX P w K mg base N qual scope f cdv A outer s H E) body t/\t { nx:=fun _ H'=>Q .non H',rt:=Q } (start N vs) H) :
  ao P w K mg base CX (k+1) f (PySem.W.fnOf name qual params body scope dV kV doc pm an cdv ct) ps sp:=by
 refine⟨len,fun A outer s H args us vs Q E hr e0 hb r hsp=>?_⟩
 have hl:=len _ _ _ _ hsp;have KX:K.In s.heap:=e0.mod.kin.keeps fun b o e=>(e0.bs b o e).1
 have lim:s.heap.NoLimit:=e0.mod.nolimit.keeps fun b o e=>(e0.bs b o e).1
 have hkind:∀ y∈ps.zip us,scope.names.lookup y.1=some .local\/(scope.names.lookup y.1=some .cell/\((cellsFrom (s.heap.objs.size+1) scope.names []).lookup y.1).isSome=true):=fun⟨n,v⟩ hy=>by
  rcases S.par n (List.of_mem_zip hy).1 with q|q
  ·exact .inl q
  ·exact .inr ⟨q,PySem.W.cellsFrom_some _ _ _ (.inl q)⟩
 refine codeAny_call_function hr.depth (KX _ _ lk) rfl S.co S.gen rfl (PySem.W.codeRec_of KX hcd) (hb _ _ _ _ ?_);refine wpAny_newFunctionEnv_cells S.kind hkind fun env he s1 x=>?_
 subst he;refine⟨lim.keeps x.toInCall.keep,codeAny_func ?_⟩;obtain⟨t,ht,hq⟩:=hbody A outer s H vs Q E (hr.deeper _) hsp;have I:Inv (fM CX P w K mg base N qual scope f cdv A outer s H E) [] (start N vs) H s1:=Dd S hr.hd e0 hl r x;refine Gf (ht [] s1 (start N vs) H _ I hq) (fun fl s' hs=>?_) fun e s' hs=>hs
 have fin:∀{σ':St} {H':Hp} {v:V} {u:Value},Inv (fM CX P w K mg base N qual scope f cdv A outer s H E) [] σ' H' s'->RelV v u->Q v H'->CE outer P w H s Q u s':=
  fun {σ' H' v u} J rv q=>⟨v,H',J.os,J.bare,J.base,J.hok,rv,q⟩
 cases fl with
 | ret u=>
  obtain⟨v,σ',H',J,rv,q⟩:=hs;exact fin J rv q
 | next=>
  obtain⟨σ',H',J,q⟩:=hs;exact fin (v:=V.non) (u:=Value.none) J rfl q
 | brk=>
  obtain⟨_,_,_,q⟩:=hs;exact False.elim q
 | cont=>
  obtain⟨_,_,_,q⟩:=hs;exact False.elim q
section
variable {X:Cx}{x:Str}{p pos:Pos}{e:Expr}{es:List Expr}{t:TA}{id T:String}{r:List V->Hp->VK->Prop}
noncomputable def tCB (r:List V->Hp->VK->Prop)(t:TA):TE:=fun σ H Q=>t σ H fun vs H1=>r vs H1 Q
theorem nz(hc:aH X (.builtin id) r)(hg:Gl X x)(hm:X.mg x=none)(hv:bootBuiltins x=some (.builtin id))(ha:PA X (e::es) t)(hn:x≠"__name__":=by decide) (hdb:(x==("__debug__":Str))=false:=by decide) (he:starEach (e::es) X.env=(false,eval e X.env)::starEach es X.env:=by rfl) (hpl:(backTo pos (starEach es X.env)).any (·.1)=false:=by rfl):PE X (.Call (.Name x p) (e::es) [] pos) (tCB r t):=by
 intro pins s σ H Q I h;refine G6 (jT I hg hm hv ?_ hn hdb);exact PyProof.Rows.callWith_builtin1 (thn (ha pos pins s σ H _ I h) fun us s1 ⟨vs,H1,I1,r1,q1⟩=>hc pins s1 σ H1 vs us Q I1 r1 q1) he hpl
theorem mU(hc:aH X (.type T) r)(hg:Gl X x)(hm:X.mg x=none)(hv:bootBuiltins x=some (.type T))(ha:PA X (e::es) t)(hn:x≠"__name__":=by decide) (hdb:(x==("__debug__":Str))=false:=by decide) (he:starEach (e::es) X.env=(false,eval e X.env)::starEach es X.env:=by rfl) (hpl:(backTo pos (starEach es X.env)).any (·.1)=false:=by rfl):PE X (.Call (.Name x p) (e::es) [] pos) (tCB r t):=by
 intro pins s σ H Q I h;refine G6 (jT I hg hm hv ?_ hn hdb);exact PyProof.Rows.callWith_type1 (thn (ha pos pins s σ H _ I h) fun us s1 ⟨vs,H1,I1,r1,q1⟩=>hc pins s1 σ H1 vs us Q I1 r1 q1) he hpl
end
end L2
end
section
namespace SB
open PySem PySem.W PySem.Calls PyProof.Rows
section
variable {prog:Program}{w:World}{A:Around}{E:Value->Shared->Prop}{s:Shared}
theorem ub{k k':Ky}(hu:L2.bI k u=true)(hv:L2.bI k' v=true)(hs:isI k=isI k'){C:Bool->Shared->Prop}(h:C (kLt k k') s):wpAny (model prog w) A (keyLt' oneType' u v) C E s:=by
 rcases L2.bH hu with⟨i,t,rfl,rfl⟩|⟨x,t,rfl,rfl⟩
 ·rcases L2.bH hv with⟨j,t',rfl,rfl⟩|⟨y,t',rfl,rfl⟩
  ·exact kat_lt_int h
  ·cases hs
 ·rcases L2.bH hv with⟨j,t',rfl,rfl⟩|⟨y,t',rfl,rfl⟩
  ·cases hs
  ·exact kas_lt_str h
theorem ze{k k':Ky}(hu:L2.bI k u=true)(hv:L2.bI k' v=true)(hs:isI k=isI k')(b:Bool){C:Bool->Shared->Prop}(h:C (kLt k k') s):wpAny (model prog w) A (oneLt' b u v) C E s:=by
 rcases L2.bH hu with⟨i,t,rfl,rfl⟩|⟨x,t,rfl,rfl⟩
 ·rcases L2.bH hv with⟨j,t',rfl,rfl⟩|⟨y,t',rfl,rfl⟩
  ·cases b
   ·exact kat_one _ _ (lt_int h)
   ·exact oneLt_int h
  ·cases hs
 ·rcases L2.bH hv with⟨j,t',rfl,rfl⟩|⟨y,t',rfl,rfl⟩
  ·cases hs
  ·cases b
   ·exact kat_one _ _ (lt_str h)
   ·exact oneLt_str h
theorem A0{b fin:Bool}{C:Bool->Shared->Prop}:∀{ks ks':List Ky}{vs vs':List Value}(i:Nat),ItemsAre (L2.az prog w) ks vs->ItemsAre (L2.az prog w) ks' vs'->ks.map isI=ks'.map isI->(ks=[]->ks'=[]->fin=false)->C (cT ks ks') s->(ks.length=ks'.length) →
  (fin=false)->KatLex prog w A b fin C (vs.zip vs') i s:=by
 intro ks;induction ks with
 | nil=>
  intro ks' vs vs' i a1 a2 hsh _ h hl hf;cases ks' with
  | nil=>
   cases a1
   cases a2
   rw[hf];exact h
  | cons=>cases hl
 | cons k ks ih=>
  intro ks' vs vs' i a1 a2 hsh _ h hl hf;cases ks' with
  | nil=>cases hl
  | cons k' ks'=>
   cases a1 with
   | cons h1 t1=>
    cases a2 with
    | cons h2 t2=>
     rw[Fi,Fi]at hsh;injection hsh with hs1 hs2;rw[List.zip_cons_cons];refine kat_cons ((L2.az prog w).eqBool h1 h2 ?_);unfold cT at h
     by_cases q:k=k'
     ·subst q;rw[if_pos rfl]at h;rw[show decide (k=k)=true from Fq rfl]
      exact kat_yes (ih (i+1) t1 t2 hs2 (fun _ _=>hf) h (by simpa using hl) hf)
     ·rw[if_neg q]at h;rw[FI q];exact kat_no (ze h1 h2 hs1 _ h)
theorem Bo{ks ks':List Ky}{a':Addr}(ht:IsTupleKey (L2.az prog w) s.heap ks a)(ht':IsTupleKey (L2.az prog w) s.heap ks' a')(hsh:ks.map isI=ks'.map isI)(b:Bool){C:Bool->Shared->Prop}(h:C (cT ks ks') s) :
  wpAny (model prog w) A (keyLt' (tuples' b) (.ref a) (.ref a')) C E s:=by
 obtain⟨o,items,n,ho,hc,hd,hi⟩:=ht;obtain⟨o',items',n',ho',hc',hd',hi'⟩:=ht';have hl:ks.length=ks'.length:=by have:=congrArg List.length hsh;simpa using this
 have hf:decide (items.size<items'.size)=false:=by
  have h1:=hi.length;have h2:=hi'.length;have e1:items.toList.length=items.size:=by simp
  have e2:items'.toList.length=items'.size:=by simp
  exact FI (by lia)
 exact kat_lt ho hd ho' hd' (A0 0 hi hi' hsh (fun _ _=>hf) h hl hf)
theorem uq{ys:List (Ky×Value)}{b:Bool}(hk:∀ p∈ys,L2.bI p.1 p.2=true/\isI p.1=b)(h2:2<=ys.length){Q:SortKind->Shared->Prop}(h:Q oneType' s):wpAny (model prog w) A (keyKind' (ys.map (·.2)).toArray) Q E s:=by
 refine kas_kind (T:=if b then Value.type "int" else Value.type "str") (by rw[E3];exact h2) (fun v hv=>?_) (by cases b <;> decide) (by cases b <;> decide) h
 obtain⟨p,hp,rfl⟩:=E5.mp hv;obtain⟨h1,h3⟩:=hk p hp;rcases L2.bH h1 with⟨i,t,e1,e2⟩|⟨x,t,e1,e2⟩
 ·rw[e1]at h3;have h3:true=b:=h3;subst h3;rw[e2];exact .now
 ·rw[e1]at h3;have h3:false=b:=h3;subst h3;rw[e2];exact .now
theorem C0{ys:List (List Ky×Value)}{sh:List Bool}(hk:∀ p∈ys,(∃ a,p.2=.ref a/\IsTupleKey (L2.az prog w) s.heap p.1 a)/\p.1.map isI=true::sh)(h2:2<=ys.length){Q:SortKind->Shared->Prop}(h:Q (tuples' true) s) :
  wpAny (model prog w) A (keyKind' (ys.map (·.2)).toArray) Q E s:=by
 have hall:∀(zs:List (List Ky×Value)),(∀ p∈zs,(∃ a,p.2=.ref a/\IsTupleKey (L2.az prog w) s.heap p.1 a)/\p.1.map isI=true::sh)->∃ fs:List Value,fs.length=zs.length/\KatTups s.heap (zs.map (·.2)) fs/\∀ f∈fs,∃ i t,f=Value.int i t:=by
  intro zs;induction zs with
  | nil=>intro _;exact⟨[],rfl,KatTups.nil,fun f hf=>by cases hf⟩
  | cons z zs ih=>
   intro hz;obtain⟨fs,l1,l2,l3⟩:=ih fun p hp=>hz p (Ff _ hp)
   obtain⟨⟨a,e,o,items,n,ho,hc,hd,hi⟩,hsh⟩:=hz z (Fd ..);obtain⟨zk,zv⟩:=z
   simp only at e hi hsh
   subst e;cases zk with
   | nil=>cases hsh
   | cons k0 kr=>
    rw[Fi]at hsh;injection hsh with hs1 hs2;generalize hIt:items.toList=its at hi;cases hi with
    | @cons _ v0 _ vr h1 h2=>
     obtain⟨i,t,e1,e2⟩:∃ i t,k0=Sum.inl i/\v0=Value.int i t:=by
      rcases L2.bH h1 with⟨i,t,e1,e2⟩|⟨x,t,e1,e2⟩
      ·exact⟨i,t,e1,e2⟩
      ·rw[e1]at hs1;cases hs1
     refine⟨v0::fs,by rw[Fy,Fy,l1],KatTups.cons ho hc hd ?_ l2,fun f hf=>?_⟩
     ·rw[<-FE,hIt];rfl
     ·rcases Fn.mp hf with rfl|hf
      ·exact⟨i,t,e2⟩
      ·exact l3 f hf
 obtain⟨fs,l1,l2,l3⟩:=hall ys hk;refine kat_kind (T:=Value.type "int") l2 (by lia) (fun v hv=>?_) (by decide) ?_
 ·obtain⟨i,t,rfl⟩:=l3 v hv;exact .now
 ·exact h
end
end SB
end
section
namespace HT
open PySem PyProof.Rows
section
open PySem.SeqAt
open PySem.AutoSeq1 (wpAny_loadPart')
open PySem.MeetsSeq PySem.MeetsSeq2 PySem.MeetsSeq3
end
section
variable {prog:Program}{w:World}{A:Around}{E:Value->Shared->Prop}{s:Shared}
noncomputable def sIx (n d:Nat):Option Int->Nat
 | none=>d
 | some v=>if v<0 then(v+(n:Int)).toNat else min v.toNat n
theorem mX(n d:Nat):sIx n d none=d:=rfl
theorem ft(n d k:Nat):sIx n d (some (k:Int))=min k n:=by
 show(if (k:Int)<0 then((k:Int)+(n:Int)).toNat else min (k:Int).toNat n)=min k n
 rw[if_neg (by lia),Int.toNat_natCast]
theorem sIx_le(n d:Nat)(hd:d<=n)(o:Option Int):sIx n d o<=n:=by
 cases o with
 | none=>exact hd
 | some v=>
  show(if v<0 then(v+(n:Int)).toNat else min v.toNat n)<=n
  by_cases hv:v<0
  ·rw[if_pos hv];lia
  ·rw[if_neg hv];exact Nat.min_le_right _ _
end
end HT
namespace L2
open PySem PySem.Spec PyProof.Rows
noncomputable abbrev TO:=St->Hp->(Option Int->Hp->Prop)->Prop
noncomputable def PO (X:Cx)(e:Option Expr)(t:TO):Prop:=
 ∀(pins:List (Addr×Obj)) (s:Shared) (σ:St) (H:Hp) (Q:Option Int->Hp->Prop),Inv X pins σ H s->t σ H Q →
  wpAny (model X.prog X.w) X.A (evalPart e X.env) (fun u s'=>∃ o H',Inv X pins σ H' s'/\IsPart u o/\Q o H') X.xe s
noncomputable def EN:TO:=fun _ H Q=>Q none H
section
variable {X:Cx}{e:Expr}{te:TE}{lo hi:Option Expr}{tl th:TO}{pos p2:Pos}
theorem iI:PO X none EN:=by
 intro pins s σ H Q I h;rw[evalPart_none];exact E6 ⟨none,H,I,.none,h⟩
noncomputable def SlR (X:Cx)(r:V->Option Int->Option Int->Hp->VK->Prop):Prop:=
 ∀(pins:List (Addr×Obj)) (s:Shared) (σ:St) (H:Hp) (x:V) (v vl vu:Value) (lo hi:Option Int) (sl:Addr) (Q:VK),Inv X pins σ H s->RelV x v->s.heap.IsSliceOf sl vl vu .none->IsPart vl lo->IsPart vu hi->r x lo hi H Q →
  ∃ T id,typeLookup (.type T) "__getitem__" = pure (some (.builtin id))/\s.TypeIs v T/\wpAny (model X.prog X.w) X.A (getItem v (.ref sl)) (EP X pins σ Q) X.xe s
noncomputable def tSl (r:V->Option Int->Option Int->Hp->VK->Prop)(te:TE)(tl th:TO):TE:=fun σ H Q=>te σ H fun x H1=>tl σ H1 fun l H2=>th σ H2 fun u H3=>r x l u H3 Q
theorem fh{r:V->Option Int->Option Int->Hp->VK->Prop}(hr:SlR X r)(he:PE X e te)(hl:PO X lo tl)(hu:PO X hi th):PE X (.Subscript e (.Slice lo hi none p2) pos) (tSl r te tl th):=by
 intro pins s σ H Q I h;refine Subscript_ (thn (he pins s σ H _ I h) fun v s1 hZ=>?_)
 obtain⟨x,H1,I1,r1,q1⟩:=hZ;refine wpAny_Slice (thn (hl pins s1 σ H1 _ I1 q1) fun vl s2 ⟨l,H2,I2,pl,q2⟩=>thn (hu pins s2 σ H2 _ I2 q2) fun vu s3 hZ=>?_)
 obtain⟨u,H3,I3,pu,q3⟩:=hZ;rw[evalPart_none];refine E6 ?_;have I4:Inv X pins σ H3 { s3 with heap:=s3.heap.push { cls:=.type "slice",data:=.fields #[vl,vu,.none] } }:=I3.kept (t':=s3.toks) fun b ob q=>E8 _ q
 obtain⟨T,id,hT,ht,hg⟩:=hr pins { s3 with heap:=s3.heap.push { cls:=.type "slice",data:=.fields #[vl,vu,.none] } } σ H3 x v vl vu l u s3.heap.objs.size Q I4 r1 (Heap.IsSliceOf.new ..) pl pu q3
 show wpAny (model X.prog X.w) X.A (subscriptTail e (.Slice lo hi none p2) v (.ref s3.heap.objs.size)) (EP X pins σ Q) X.xe { s3 with heap:=s3.heap.push { cls:=.type "slice",data:=.fields #[vl,vu,.none] } }
 exact tail_any (ops:=[.ref s3.heap.objs.size,v]) ht hT hg (by with_unfolding_all rfl)
noncomputable def cN (xs:List V)(lo hi:Option Int):List V:=(xs.drop (HT.sIx xs.length 0 lo)).take (HT.sIx xs.length xs.length hi-HT.sIx xs.length 0 lo)
theorem Ad(xs:List V)(lo hi:Option Int):(cN xs lo hi).length<=xs.length:=by
 unfold cN;rw[F3,GJ];lia
end
noncomputable def ixN (n:Nat)(i:Int):Option Nat:=if 0<=i then(if i<n then some i.toNat else none) else if -(n:Int)<=i then some (i+n).toNat else none
noncomputable def atI {α:Type}(xs:List α)(i:Int):Option α:=(ixN xs.length i).bind fun j=>xs[j]?
theorem Ea{n:Nat}{i:Int}(h:ixN n i=some j):seqIndex? i n=some j/\j<n/\-(n:Int)<=i/\i<n:=by
 unfold ixN at h
 by_cases h0:0<=i
 ·rw[if_pos h0]at h
  by_cases h1:i<n
  ·rw[if_pos h1]at h;have e:i.toNat=j:=Fw h;exact⟨by rw[seqIndex_of h0 h1,e],by lia,by lia,h1⟩
  ·rw[if_neg h1]at h;cases h
 ·rw[if_neg h0]at h
  by_cases h1:-(n:Int)<=i
  ·rw[if_pos h1]at h;have e:(i+n).toNat=j:=Fw h;exact⟨by rw[seqIndex_neg (by lia) h1,e],by lia,h1,by lia⟩
  ·rw[if_neg h1]at h;cases h
theorem nQ{α:Type}{xs:List α}{i:Int}{v:α}(h:atI xs i=some v):∃ j,seqIndex? i xs.length=some j/\xs[j]? =some v/\j<xs.length/\-(xs.length:Int)<=i/\i<xs.length:=by
 unfold atI at h;cases e:ixN xs.length i with
 | none=>rw[e]at h;cases h
 | some j=>
  rw[e]at h;obtain⟨h1,h2,h3,h4⟩:=Ea e;exact⟨j,h1,h,h2,h3,h4⟩
theorem gJ{α:Type}{xs:List α}{v:α}(h:xs[j]? =some v):atI xs (j:Int)=some v:=by
 have hj:j<xs.length:=(Fp.mp h).1;have e:ixN xs.length (j:Int)=some j:=by
  unfold ixN;rw[if_pos (by lia),if_pos (by lia)];simp
 unfold atI;rw[e];exact h
noncomputable def yZ (b:Expr):Prop:=∀ o i,subscripted b false o i=operate [o,i] (getItem o i)
noncomputable def IxR (X:Cx)(r:R2):Prop:=
 ∀(value slice:Expr) (pins:List (Addr×Obj)) (s:Shared) (σ:St) (H:Hp) (x y:V) (v u:Value) (Q:VK),Inv X pins σ H s->RelV x v->RelV y u->r x y H Q →
  subscripted slice false v u=operate [v,u] (getItem v u)->wpAny (model X.prog X.w) X.A (subscriptTail value slice v u) (EP X pins σ Q) X.xe s
noncomputable def MtR (X:Cx)(id:String)(r:V->List V->Hp->VK->Prop):Prop:=
 ∀(pins:List (Addr×Obj)) (s:Shared) (σ:St) (H:Hp) (x:V) (xs:List V) (v:Value) (us:List Value) (Q:VK),Inv X pins σ H s->RelV x v->Vals xs us->r x xs H Q →
  wpAny (model X.prog X.w) X.A (call (.builtin id) (v::us)) (EP X pins σ Q) X.xe s
section
variable {X:Cx}{a b:Expr}{ta tb:TE}{pos:Pos}
theorem aq{r:R2}(hr:IxR X r)(ha:PE X a ta)(hb:PE X b tb)(hs:yZ b):PE X (.Subscript a b pos) (tOp r ta tb):=by
 intro pins s σ H Q I h;exact Subscript_ (mZ ha hb I h fun v u s2 x y H2 I2 rx ry q=>hr a b pins s2 σ H2 x y v u Q I2 rx ry q (hs _ _))
noncomputable def Ab (K:PySem.W.Frag):R2:=fun x y H Q=>∃ p xs i v,x=.ref p/\y=.int i/\SqL K H p xs/\atI xs i=some v/\Q v H
noncomputable def yh (K:PySem.W.Frag):R2:=fun x y H Q=>∃ p xs i v,x=.ref p/\y=.int i/\SqT K H p xs/\atI xs i=some v/\Q v H
noncomputable def yo:R2:=fun x y H Q=>∃ z i c,x=.str z/\y=.int i/\z.length<=sizeLine/\atI z.cps.toList i=some c/\Q (.str ⟨#[c]⟩) H
theorem vF:IxR X (Ab X.K):=by
 intro value slice pins s σ H x y v u Q I rx ry h hs;obtain⟨p,xs,i,z,rfl,rfl,hq,he,q⟩:=h;cases rx
 obtain⟨t,rfl⟩:=ry;obtain⟨its,r,pl,hz⟩:=I.list hq;obtain⟨j,h1,h2,h3,h4,h5⟩:=nQ he;obtain⟨w,ew,rw'⟩:=r.get h2;have hl:=r.length;have hn:=fU;have fin:EP X pins σ Q w s:=⟨z,H,I,rw',q⟩
 by_cases h0:0<=i
 ·have hj:i.toNat=j:=by
   rw[seqIndex_of h0 h5]at h1;exact Fw h1
  exact item_listR pl.isList h0 (by lia) (by rw[hj];simpa using ew) fin hs
 ·have hj:(i+(its.toArray.size:Int)).toNat=j:=by
   rw[seqIndex_neg (by lia) h4]at h1
   rw[FP,<-hl];exact Fw h1
  exact subscriptTail_builtinR (x:=w) pl.isList.typeIs slot_list_getitem.lookup
   (wpAny_getItem_list_neg (Q:=fun r s'=>r=w/\EP X pins σ Q r s') pl.isList (by lia) (by rw[FP] <;> lia) (by lia) (by rw[hj];simpa using ew) ⟨rfl,fin⟩) hs
theorem xq:IxR X (yh X.K):=by
 intro value slice pins s σ H x y v u Q I rx ry h hs;obtain⟨p,xs,i,z,rfl,rfl,hq,he,q⟩:=h;cases rx
 obtain⟨t,rfl⟩:=ry;obtain⟨its,r,pl,hz⟩:=I.tuple hq;obtain⟨j,h1,h2,h3,h4,h5⟩:=nQ he;obtain⟨w,ew,rw'⟩:=r.get h2;have hl:=r.length;have hn:=fU;have fin:EP X pins σ Q w s:=⟨z,H,I,rw',q⟩;exact subscriptTail_builtinR (x:=w) pl.typeIs slot_tuple_getitem.lookup
  (getItem_tuple (j:=j) (Q:=fun r s'=>r=w/\EP X pins σ Q r s') pl (by lia) (by lia) (by rw[FP,<-hl];exact h1) (by simpa using ew) ⟨rfl,fin⟩) hs
theorem BU:IxR X yo:=by
 intro value slice pins s σ H x y v u Q I rx ry h hs;obtain⟨z,i,c,rfl,rfl,hz,he,q⟩:=h;obtain⟨t,rfl⟩:=rx;obtain⟨t',rfl⟩:=ry;obtain⟨j,h1,h2,h3,h4,h5⟩:=nQ he;have hl:z.cps.toList.length=z.length:=by simp [Str.length]
 rw[hl]at h1 h4 h5;have hn:=fU;exact tail_any (typeIs_str s z t) slot_str_getitem.lookup (getItem_str (c:=c) (by
  have e1:decide (i < -(2^63:Int))=false:=FI (by lia)
  have e2:decide (i ≥ 2^63)=false:=FI (by lia)
  rw[e1,e2,Bool.or_false]) (by rw[h1];simpa using h2) ⟨.str ⟨#[c]⟩,H,I.tok _,⟨_,rfl⟩,q⟩) hs
theorem Cf(lo hi:Option Int)(n:Nat):(sliceBounds lo hi none n).1=((HT.sIx n 0 lo:Nat):Int)/\(sliceBounds lo hi none n).2.1=((HT.sIx n n hi:Nat):Int)/\(sliceBounds lo hi none n).2.2=1:=by
 refine⟨?_,?_,rfl⟩
 ·cases lo with
  | none=>simp [sliceBounds,HT.sIx]
  | some i=>
   simp only[sliceBounds,HT.sIx,Option.getD_none,show(1:Int) > 0 by decide,if_true]
   by_cases h:i<0
   ·simp only[h,if_true] <;> lia
   ·simp only[h,if_false] <;> lia
 ·cases hi with
  | none=>simp [sliceBounds,HT.sIx]
  | some i=>
   simp only[sliceBounds,HT.sIx,Option.getD_none,show(1:Int) > 0 by decide,if_true]
   by_cases h:i<0
   ·simp only[h,if_true] <;> lia
   ·simp only[h,if_false] <;> lia
theorem yr(its:List Value)(lo hi:Option Int):slicePick its.toArray lo hi none=((its.drop (HT.sIx its.length 0 lo)).take (HT.sIx its.length its.length hi-HT.sIx its.length 0 lo)).toArray:=by
 obtain⟨h1,h2,h3⟩:=Cf lo hi its.toArray.size;unfold slicePick;rw[h1,h2,h3];simp only[sliceRange_one,pick_run,FP] <;> rfl
noncomputable def Cm (K:PySem.W.Frag):V->Option Int->Option Int->Hp->VK->Prop:=fun x lo hi H Q=>∃ a xs,x=.ref a/\SqL K H a xs/\∀ p,H p=none->Q (.ref p) (upd H p (.lst (cN xs lo hi)))
theorem xX:SlR X (Cm X.K):=by
 intro pins s σ H x v vl vu lo hi sl Q I rx hs pl pu h;obtain⟨a,xs,rfl,hx,q⟩:=h;cases rx
 obtain⟨its,r,ht,hz⟩:=I.list hx;have hlen:=r.length;refine⟨"list",_,slot_list_getitem.lookup,ht.isList.typeIs,?_⟩
 refine wpAny_getItem_list_slice ht.isList hs pl pu .none (by simp) ?_ (by rw[FP] <;> lia)
 rw[yr,<-hlen];refine⟨.ref s.heap.objs.size,_,I.laid (t':=s.toks) (o:=.lst (cN xs lo hi)) (fun b ob q=>E8 _ q) (E7 _) ?_,rfl,q _ (I.hok.fresh (E7 _))⟩
 exact⟨FL (Ad xs lo hi) hz,_,0,(r.drop (HT.sIx xs.length 0 lo)).take (HT.sIx xs.length xs.length hi-HT.sIx xs.length 0 lo),Fv _ rfl⟩
noncomputable def bP:V->Bool
 | .non=>true
 | .bl _=>true
 | .int _=>true
 | .str _=>true
 | _=>false
noncomputable def eqV:V->V->Bool
 | .non,.non=>true
 | .bl a,.bl b=>a==b
 | .bl a,.int b=>(if a then 1 else 0)==b
 | .int a,.bl b=>a==(if b then 1 else 0)
 | .int a,.int b=>a==b
 | .str a,.str b=>a==b
 | _,_=>false
theorem sU{y x:V}(ry:RelV y u)(rx:RelV x v)(fy:bP y=true)(fx:bP x=true):SeqAt.EqAt A s u v (eqV y x):=by
 cases y with
 | non=>
  cases ry
  cases x with
  | non=>cases rx;exact SeqAt.EqAt.same _
  | bl b=>cases rx;exact SeqAt.EqAt.none_bool b
  | int b=>obtain⟨t,rfl⟩:=rx;exact SeqAt.EqAt.none_int b t
  | str b=>obtain⟨t,rfl⟩:=rx;exact SeqAt.EqAt.none_str b t
  | _=>exact absurd (show false=true from fx) FC
 | bl a=>
  cases ry
  cases x with
  | non=>cases rx;exact SeqAt.EqAt.bool_none a
  | bl b=>cases rx;exact SeqAt.EqAt.bool_bool a b
  | int b=>obtain⟨t,rfl⟩:=rx;exact SeqAt.EqAt.bool_int a b t
  | str b=>obtain⟨t,rfl⟩:=rx;exact SeqAt.EqAt.bool_str a b t
  | _=>exact absurd (show false=true from fx) FC
 | int a=>
  obtain⟨t',rfl⟩:=ry;cases x with
  | non=>cases rx;exact SeqAt.EqAt.int_none a t'
  | bl b=>cases rx;exact SeqAt.EqAt.int_bool a t' b
  | int b=>obtain⟨t,rfl⟩:=rx;exact SeqAt.EqAt.int_int a t' b t
  | str b=>obtain⟨t,rfl⟩:=rx;exact SeqAt.EqAt.int_str a t' b t
  | _=>exact absurd (show false=true from fx) FC
 | str a=>
  obtain⟨t',rfl⟩:=ry;cases x with
  | non=>cases rx;exact SeqAt.EqAt.str_none a t'
  | bl b=>cases rx;exact SeqAt.EqAt.str_bool a t' b
  | int b=>obtain⟨t,rfl⟩:=rx;exact SeqAt.EqAt.str_int a t' b t
  | str b=>obtain⟨t,rfl⟩:=rx;exact SeqAt.EqAt.str_str a t' b t
  | _=>exact absurd (show false=true from fx) FC
 | _=>exact absurd (show false=true from fy) FC
noncomputable def eqU (x:V)(u:Value):Bool:=match u with
 | .none=>eqV .non x
 | .bool b=>eqV (.bl b) x
 | .int i _=>eqV (.int i) x
 | .str z _=>eqV (.str z) x
 | _=>false
theorem vw{x y:V}(r:RelV y u)(f:bP y=true):eqU x u=eqV y x:=by
 cases y with
 | non=>cases r;rfl
 | bl b=>cases r;rfl
 | int i=>obtain⟨t,rfl⟩:=r;rfl
 | str z=>obtain⟨t,rfl⟩:=r;rfl
 | _=>exact absurd (show false=true from f) FC
theorem ic{x:V}:∀{xs:List V}{us:List Value},Vals xs us->xs.all bP=true->us.any (eqU x)=xs.any fun y=>eqV y x
 | _,_,.nil,_=>rfl
 | y::xs,u::us,.cons r t,f=>by
  rw[List.all_cons,F1]at f;rw[GU,GU,vw r f.1,ic t f.2]
theorem iT{x:V}(rx:RelV x v)(fx:bP x=true):∀{xs:List V}{us:List Value},Vals xs us->xs.all bP=true->∀ u∈us,SeqAt.EqAt A s u v (eqU x u)
 | _,_,.nil,_=>fun u hu=>by cases hu
 | y::xs,u::us,.cons r t,f=>fun u' hu=>by
  rw[List.all_cons,F1]at f;rcases Fn.mp hu with rfl|hu
  ·rw[vw r f.1];exact sU r rx f.1 fx
  ·exact iT rx fx t f.2 u' hu
noncomputable def inV (x:V)(xs:List V):Bool:=xs.any fun y=>eqV y x
noncomputable def rIn (K:PySem.W.Frag)(neg:Bool):R2:=fun x y H Q=>∃ p xs,y=.ref p/\(SqL K H p xs\/SqT K H p xs)/\bP x=true/\xs.all bP=true/\Q (.bl (if neg then !inV x xs else inV x xs)) H
theorem uw:OpR X (compareOp .In) (rIn X.K false):=by
 intro pins s σ H x y v u Q I rx ry h;obtain⟨p,xs,rfl,hq,fx,fs,q⟩:=h;cases ry
 rcases hq with hq|hq
 ·obtain⟨its,r,pl,hz⟩:=I.list hq;refine SeqAt.in_listAt (eqU x) pl.isList (fun w hw=>iT rx fx r fs w (by simpa using hw)) ⟨.bl _,H,I,rfl,?_⟩
  rw[show its.toArray.any (eqU x)=its.any (eqU x) by simp,ic r fs]
  exact q
 ·obtain⟨its,r,pl,hz⟩:=I.tuple hq;refine SeqAt.in_tupleAt (eqU x) pl (fun w hw=>iT rx fx r fs w (by simpa using hw)) ⟨.bl _,H,I,rfl,?_⟩
  rw[show its.toArray.any (eqU x)=its.any (eqU x) by simp,ic r fs]
  exact q
theorem Ds:OpR X (compareOp .NotIn) (rIn X.K true):=by
 intro pins s σ H x y v u Q I rx ry h;obtain⟨p,xs,rfl,hq,fx,fs,q⟩:=h;cases ry
 rcases hq with hq|hq
 ·obtain⟨its,r,pl,hz⟩:=I.list hq;refine SeqAt.notIn_listAt (eqU x) pl.isList (fun w hw=>iT rx fx r fs w (by simpa using hw)) ⟨.bl _,H,I,rfl,?_⟩
  rw[show its.toArray.any (eqU x)=its.any (eqU x) by simp,ic r fs]
  exact q
 ·obtain⟨its,r,pl,hz⟩:=I.tuple hq;refine SeqAt.notIn_tupleAt (eqU x) pl (fun w hw=>iT rx fx r fs w (by simpa using hw)) ⟨.bl _,H,I,rfl,?_⟩
  rw[show its.toArray.any (eqU x)=its.any (eqU x) by simp,ic r fs]
  exact q
theorem qp:aH X (.builtin "len") (fun xs H Q=>∃ p ys,xs=[.ref p]/\(SqL X.K H p ys\/SqT X.K H p ys)/\Q (.int ys.length) H):=by
 intro pins s σ H xs us Q I r h;obtain⟨p,ys,rfl,hq,q⟩:=h;obtain⟨u,rfl,rx⟩:=vals1 r;cases rx
 have hn:=fU;rcases hq with hq|hq
 ·obtain⟨its,r',pl,hz⟩:=I.list hq;have hlen:=r'.length;exact Calls.call_len_list pl.isList (by simp only[FP] <;> lia) ⟨.int ys.length,H,I.tok _,⟨s.toks+1,by rw[FP,hlen]⟩,q⟩
 ·obtain⟨its,r',pl,hz⟩:=I.tuple hq;have hlen:=r'.length;exact len_tuple pl (by simp only[FP] <;> lia) ⟨.int ys.length,H,I.tok _,⟨s.toks+1,by rw[FP,hlen]⟩,q⟩
theorem Ac:aH X (.builtin "len") (fun xs H Q=>∃ z,xs=[.str z]/\z.length<=sizeLine/\Q (.int z.length) H):=by
 intro pins s σ H xs us Q I r h;obtain⟨z,rfl,hz,q⟩:=h;obtain⟨u,rfl,t,rfl⟩:=vals1 r;have hn:=fU;exact len_str (by lia) ⟨.int z.length,H,I.tok _,⟨_,rfl⟩,q⟩
theorem qY:aH X (.type "list") (fun xs H Q=>∃ p ys,xs=[.ref p]/\(SqL X.K H p ys\/SqT X.K H p ys)/\∀ l,H l=none->Q (.ref l) (upd H l (.lst ys))):=by
 intro pins s σ H xs us Q I r h;obtain⟨p,ys,rfl,hq,q⟩:=h;obtain⟨u,rfl,rx⟩:=vals1 r;cases rx
 have fin:∀(its:List Value),Vals ys its->ys.length<=sizeLine->∀(h':Heap) (c':Nat),(∀ b o',s.heap.get? b=some o'->h'.get? b=some o') →
   h'.get? s.heap.objs.size=some { cls:=.type "list",dict:=none,data:=.seq its.toArray c',slots:=#[] }->EP X pins σ Q (.ref s.heap.objs.size) { s with heap:=h' }:=fun its r' hz h' c' kp e=>
  ⟨.ref s.heap.objs.size,_,I.laid (t':=s.toks) kp (E7 _) (show au X.prog X.w _ h' _ (.lst ys) from⟨hz,its,c',r',e⟩),rfl,q _ (I.hok.fresh (E7 _))⟩
 rcases hq with hq|hq
 ·obtain⟨its,r',pl,hz⟩:=I.list hq;have hlen:=r'.length;obtain⟨o,ho,hc,n,hd⟩:=pl.isList;exact call_list_seq p (.inl rfl) ho hc hd (fun h' c' kp e=>fin its r' hz h' c' kp e) (by simp only[FP] <;> lia)
 ·obtain⟨its,r',pl,hz⟩:=I.tuple hq;have hlen:=r'.length;obtain⟨o,ho,hc,n,hd⟩:=pl;exact call_list_seq p (.inr rfl) ho hc hd (fun h' c' kp e=>fin its r' hz h' c' kp e) (by simp only[FP] <;> lia)
theorem yq:aH X (.type "tuple") (fun xs H Q=>∃ p ys,xs=[.ref p]/\((SqL X.K H p ys/\∀ l,H l=none->Q (.ref l) (upd H l (.tup ys)))\/(SqT X.K H p ys/\Q (.ref p) H))):=by
 intro pins s σ H xs us Q I r h;obtain⟨p,ys,rfl,h⟩:=h;obtain⟨u,rfl,rx⟩:=vals1 r;cases rx
 rcases h with⟨hq,q⟩|⟨hq,q⟩
 ·obtain⟨its,r',pl,hz⟩:=I.list hq;have hlen:=r'.length;refine call_tuple_list pl.isList (fun h' kp=>?_) (by simp only[FP] <;> lia)
  have I1:Inv X pins σ H { s with heap:=h' }:=I.kept (t':=s.toks) kp;have I2:Inv X pins σ (upd H h'.objs.size (.tup ys)) { s with heap:=h'.push { cls:=.type "tuple",data:=.seq its.toArray } }:=
   I1.laid (t':=s.toks) (fun b o e=>E8 _ e) (E7 _) (show au X.prog X.w _ _ _ (.tup ys) from⟨hz,its,r',IsTup.new _ _⟩)
  exact⟨.ref h'.objs.size,_,I2,rfl,q _ (I1.hok.fresh (E7 _))⟩
 ·obtain⟨its,r',pl,hz⟩:=I.tuple hq;exact call_tuple_same pl ⟨.ref p,H,I,rfl,q⟩
noncomputable def tyV (K:PySem.W.Frag)(T:String)(x:V)(H:Hp):Prop:=match x with
 | .str _=>T = "str"
 | .int _=>T = "int"
 | .ref p=>(T = "list"/\∃ xs,SqL K H p xs)\/(T = "tuple"/\∃ o,K.lookup p=some o/\o.cls=.type "tuple"/\o.dict=none) ∨
   (T = "dict"/\((∃ kvs,H p=some (.dK kvs))\/∃ kvs,H p=some (.dT kvs)))\/(T = "set"/\∃ S n,H p=some (.set S n))
 | _=>False
theorem qC{σ:St}{H:Hp}{T:String}{x:V}(I:Inv X pins σ H s)(r:RelV x v)(ty:tyV X.K T x H) :
  s.TypeIs v T/\∀ a,v=.ref a->∃ ob,s.heap.get? a=some ob/\ob.dict=none:=by
 cases x with
 | str z=>
  obtain⟨t,rfl⟩:=r;cases (show T = "str" from ty)
  exact⟨typeIs_str s z t,fun _ e=>nomatch e⟩
 | int i=>
  obtain⟨t,rfl⟩:=r;cases (show T = "int" from ty)
  exact⟨typeIs_int s i t,fun _ e=>nomatch e⟩
 | ref p=>
  cases r
  rcases ty with⟨rfl,xs,hq⟩|⟨rfl,o,hk,hc,hd⟩|⟨rfl,hk⟩|⟨rfl,S,n,hk⟩
  ·obtain⟨its,_,pl,_⟩:=I.list hq;refine⟨pl.isList.typeIs,fun a e=>?_⟩
   cases e
   obtain⟨o,n,e,c,hd,_⟩:=pl;exact⟨o,e,hd⟩
  ·refine⟨⟨o,I.kIn p o hk,hc⟩,fun a e=>?_⟩
   cases e
   exact⟨o,I.kIn _ o hk,hd⟩
  ·have z:∃ o,s.heap.get? p=some o/\o.ExactDict:=by
    rcases hk with⟨kvs,hk⟩|⟨kvs,hk⟩
    ·obtain⟨_,_,_,_,o,_,_,e,ex,_⟩:=I.hok p _ hk;exact⟨o,e,ex⟩
    ·obtain⟨_,_,_,_,o,_,_,e,ex,_⟩:=I.hok p _ hk;exact⟨o,e,ex⟩
   obtain⟨o,e,ex⟩:=z;refine⟨⟨o,e,ex.1⟩,fun a e2=>?_⟩
   cases e2
   exact⟨o,e,ex.2.1⟩
  ·obtain⟨o,_,_,_,e,ex,_⟩:=I.hok p _ hk;refine⟨⟨o,e,ex.1⟩,fun a e2=>?_⟩
   cases e2
   exact⟨o,e,ex.2.1⟩
 | _=>exact False.elim ty
noncomputable def rA (K:PySem.W.Frag)(T:String)(r:V->List V->Hp->VK->Prop)(to:TE):TE:=fun σ H Q=>to σ H fun x H1=>tyV K T x H1/\r x [] H1 Q
noncomputable def tBM (K:PySem.W.Frag)(T:String)(r:V->List V->Hp->VK->Prop)(to:TE)(t:TA):TE:=fun σ H Q=>to σ H fun x H1=>tyV K T x H1/\t σ H1 fun xs H2=>r x xs H2 Q
variable {o e:Expr}{es:List Expr}{to:TE}{t:TA}{name:Str}{apos cpos:Pos}{T id:String}{r:V->List V->Hp->VK->Prop}
theorem Aa(pa:PlainAttrs T)(slot:Slot T name id)(hty:typeOf (.builtin id)=pure (.type "method_descriptor")) (hm:MtR X id r) (ho:PE X o to) (hbase:attributeBase o name X.env (eval o X.env)=eval o X.env:=by rfl) (hline:(apos.endLine==cpos.line)=true:=by rfl):PE X (.Call (.Attribute o name apos) [] [] cpos) (rA X.K T r to):=by
 intro pins s σ H Q I h;refine wpAny_Call_method0_late hbase hline (thn (ho pins s σ H _ I h) fun v s1 hZ=>?_)
 obtain⟨x,H1,I1,r1,ty,q1⟩:=hZ;obtain⟨h1,h2⟩:=qC I1 r1 ty;exact⟨T,id,pa,slot,hty,h1,h2,Calls.callWith_builtin rfl (PySem.evalArgs_none (hm pins s1 σ H1 x [] v [] Q I1 r1 .nil q1))⟩
theorem wQ(pa:PlainAttrs T)(slot:Slot T name id)(hty:typeOf (.builtin id)=pure (.type "method_descriptor")) (hm:MtR X id r) (ho:PE X o to) (ha:PA X (e::es) t) (hbase:attributeBase o name X.env (eval o X.env)=eval o X.env:=by rfl) (hfew:((backTo cpos (starEach (e::es) X.env)).all (fun x=>!x.1)&&(backToKw cpos (keywordEach [] X.env)).all (fun x=>x.1.isSome)
   &&decide ((e::es).length+([]:List Keyword).length+(if ([]:List Keyword).isEmpty then 0 else 1)<30))=true:=by rfl) (hline:(apos.endLine==cpos.line)=true:=by rfl) (hs:starEach (e::es) X.env=(false,eval e X.env)::starEach es X.env:=by rfl) (hplain:(backTo cpos (starEach es X.env)).any (·.1)=false:=by rfl) :
  PE X (.Call (.Attribute o name apos) (e::es) [] cpos) (tBM X.K T r to t):=by
 intro pins s σ H Q I h;refine wpAny_Call_method_late hbase hfew hline rfl (thn (ho pins s σ H _ I h) fun v s1 hZ=>?_)
 obtain⟨x,H1,I1,r1,ty,q1⟩:=hZ;obtain⟨h1,h2⟩:=qC I1 r1 ty;refine⟨T,id,pa,slot,hty,h1,h2,?_⟩;have hA:=ha cpos pins s1 σ H1 _ I1 q1;rw[hs]at hA ⊢;refine Calls.callWith_builtin (by show(false||(backTo cpos (starEach es X.env)).any (·.1))=false;rw[hplain] <;> rfl) (Calls.evalArgs_plain ?_)
 exact thn hA fun us s2 ⟨vs,H2,I2,r2,q2⟩=>hm pins s2 σ H2 x vs v us Q I2 r1 r2 q2
end
noncomputable def MtM (X:Cx)(id:String)(r:V->List V->Hp->VK->Prop):Prop:=
 ∀(pins:List (Addr×Obj)) (s:Shared) (σ:St) (H:Hp) (x:V) (xs:List V) (v:Value) (us:List Value) (Q:VK),Inv X pins σ H s->RelV x v->Vals xs us->r x xs H Q →
  wpAny (model X.prog X.w) X.A (call (.builtin id) (v::us)) (EP X pins σ Q) X.xe s
theorem Vals.one:∀{x:V}{us:List Value},Vals [x] us->∃ u,us=[u]/\RelV x u
 | _,_,.cons r .nil=>⟨_,rfl,r⟩
theorem Vals.zero:∀{us:List Value},Vals [] us->us=[]
 | _,.nil=>rfl
theorem Vals.reverse{xs:List V}(h:Vals xs us):Vals xs.reverse us.reverse:=by
 induction h with
 | nil=>exact .nil
 | cons r t ih=>rw[List.reverse_cons,List.reverse_cons];exact Vals.append ih (.cons r .nil)
section
variable {X:Cx}{pins:List (Addr×Obj)}{σ:St}{H:Hp}{s:Shared}{l b:Addr}{xs ys zs:List V}
theorem Inv.um{its':List Value}{n:Nat}{f:Array Value->Array Value}(I:Inv X pins σ H s)(hH:H l=some (.lst xs))(e:s.heap.get? l=some { cls:=.type "list",data:=.seq its.toArray n }) (hf:f its.toArray=its'.toArray) (hv:Vals ys its') (hz:ys.length<=sizeLine) :
  Inv X pins σ (upd H l (.lst ys)) { s with heap:=s.heap.update l (Obj.mapSeq f),toks:=t' }:=by
 have q:=PySem.IsL.update e f;rw[hf]at q;refine I.write (x:=l) (e:=l) (by rw[hH];exact trivial) (.inl rfl) (fun b' u hb hu=>(G4 s.heap (Obj.mapSeq f) (Ne.symm hb)).trans hu) ⟨_,q⟩ ?_
 exact⟨hz,its',_,hv,q⟩
theorem Inv.wD(I:Inv X pins σ H s)(hv:Vals ys its)(hz:ys.length<=sizeLine) :
  Inv X pins σ (upd H s.heap.objs.size (.lst ys)) { s with heap:=s.heap.push { cls:=.type "list",data:=.seq its.toArray },toks:=t' }:=
 I.laid (fun _ _ q=>E8 _ q) (E7 _) ⟨hz,its,0,hv,Fv _ rfl⟩
theorem Inv.fresh(I:Inv X pins σ H s):H s.heap.objs.size=none:=I.hok.fresh (E7 _)
theorem Inv.lJ(I:Inv X pins σ H s)(hH:H l=some (.lst xs)):xs.length<=sizeLine/\∃(its:List Value)(n:Nat),Vals xs its/\xs.length=its.length/\s.heap.get? l=some { cls:=.type "list",data:=.seq its.toArray n }:=by
 obtain⟨z,its,n,r,e⟩:=I.hok l _ hH;exact⟨z,its,n,r,r.length,e⟩
theorem vA{n:Nat}(h:n<=sizeLine):Builtin.List.listTooLong n=false:=by
 unfold Builtin.List.listTooLong;exact FI (by lia)
end
section
variable {X:Cx}
noncomputable def xB:V->List V->Hp->VK->Prop:=fun x vs H Q=>∃ l xs y,x=.ref l/\vs=[y]/\H l=some (.lst xs)/\xs.length<sizeLine/\Q .non (upd H l (.lst (xs++[y])))
theorem rF:MtM X "list.append" xB:=by
 intro pins s σ H x vs v us Q I rx rv h;obtain⟨l,xs,y,rfl,rfl,hH,hz,q⟩:=h;cases rx
 obtain⟨u,rfl,ru⟩:=rv.one;obtain⟨z,its,n,r,hl,e⟩:=I.lJ hH;refine call_meets F.slot_list_append ⟨_,e,rfl⟩ F.entry_list_append (F.args_list_append_2 _ _) (PySem.list_append l its.toArray n u (by rw[FP];lia)) ⟨e,?_⟩
 refine⟨.non,_,I.um (its':=its++[u]) hH e (by simp) (r.append (.cons ru .nil)) ?_,rfl,q⟩
 rw[Fh,FZ];lia
noncomputable def vS:V->List V->Hp->VK->Prop:=fun x vs H Q=>∃ l xs,x=.ref l/\vs=[]/\H l=some (.lst xs)/\Q .non (upd H l (.lst xs.reverse))
theorem D8:MtM X "list.reverse" vS:=by
 intro pins s σ H x vs v us Q I rx rv h;obtain⟨l,xs,rfl,rfl,hH,q⟩:=h;cases rx
 have hus:=rv.zero;subst hus;obtain⟨z,its,n,r,hl,e⟩:=I.lJ hH;refine call_meets F.slot_list_reverse ⟨_,e,rfl⟩ F.entry_list_reverse (F.args_list_reverse_1 _) (AutoSeq1.list_reverse_list_0 l its.toArray n (by rw[FP];lia)) ⟨e,?_⟩
 refine⟨.non,_,I.um (its':=its.reverse) hH e (by simp) r.reverse ?_,rfl,q⟩
 rw[List.length_reverse];lia
noncomputable def yX:R2:=fun x y H Q=>∃ l b xs zs,x=.ref l/\y=.ref b/\H l=some (.lst xs)/\H b=some (.lst zs)/\xs.length+zs.length<=sizeLine/\∀ p,H p=none->Q (.ref p) (upd H p (.lst (xs++zs)))
theorem yE:OpR X (binaryOp .Add) yX:=by
 intro pins s σ H x y v u Q I rx ry h;obtain⟨l,b,xs,zs,rfl,rfl,hH,hB,hz,q⟩:=h;cases rx
 cases ry
 obtain⟨z,its,n,r,hl,e⟩:=I.lJ hH;obtain⟨z2,its2,n2,r2,hl2,e2⟩:=I.lJ hB;refine PySem.P.add_list e e2 ?_ (by rw[FP,FP];lia)
 have ea:its.toArray++its2.toArray=(its++its2).toArray:=by simp
 rw[ea];exact⟨.ref _,_,I.wD (t':=s.toks) (r.append r2) (by rw[Fh];lia),rfl,q _ I.fresh⟩
end
section
variable {prog:Program}{w:World}{A:Around}{E:Value->Shared->Prop}{s:Shared}
theorem Ed{a c n:Nat}(hac:a<=c)(hc:c<=n):sliceBounds (some (a:Int)) (some (c:Int)) none n=((a:Int),(c:Int),1):=by
 simp only[sliceBounds,Option.getD_none];have h1:¬ ((a:Int)<0):=by lia
 have h2:¬ ((c:Int)<0):=by lia
 simp only[h1,h2,if_false,show(1:Int) > 0 by decide,if_true]
 congr 1
 ·lia
 ·congr 1;lia
set_option maxRecDepth 100000 in
theorem setItem_slice{sl:Addr}{new:Array Value}{n n2:Nat}{vl vu:Value}{a c:Nat}{Q:Unit->Shared->Prop}(e:s.heap.get? l=some { cls:=.type "list",data:=.seq items n }) (e2:s.heap.get? b=some { cls:=.type "list",data:=.seq new n2 }) (hne:l≠b) (hs:s.heap.IsSliceOf sl vl vu .none) (pl:IsPart vl (some (a:Int))) (pu:IsPart vu (some (c:Int))) (hac:a<=c) (hc:c<=items.size) (hsz:items.size+new.size<=sizeLine) (h:Q () { s with heap:=s.heap.update l (Obj.mapSeq fun xs=>xs.extract 0 a++new++xs.extract c xs.size) }) :
  wpAny (model prog w) A (setItem (.ref l) (.ref sl) (.ref b)) Q E s:=by
 have hl:s.heap.IsList l items:=PySem.IsL.isList e;have hb:s.heap.IsList b new:=PySem.IsL.isList e2;obtain⟨os,hos,hcs,hds⟩:=id hs;have hTs:s.TypeIs (.ref sl) "slice":=⟨os,hos,hcs⟩
 have hstep:¬ ((rawPart none==rawInt 0)=true):=FC;have hsame:Builtin.List.listSameRef (.ref l) (.ref b)=false:=by
  unfold Builtin.List.listSameRef;exact beq_eq_false_iff_ne.mpr hne
 have hmax:(max (a:Int) (c:Int)).toNat=c:=by lia
 have hz':((fun xs:Array Value=>xs.extract 0 a++new++xs.extract c xs.size) items).size<=sizeLine+1:=by
  simp only[Array.size_append,Array.size_extract];lia
 unfold setItem
 try with_reducible refine F7 ?_
 first|refine E4 (E6 ?_)|skip
 refine E4 (wpAny_sequenceKey hl.typeIs (by decide) ?_)
 refine E4 (wpAny_callSpecial?_slot (name:=Str.ofString "__setitem__") hl.typeIs slot_list_setitem
  (Gh slot_list_setitem hl.typeIs entry_list_setitem ?_ (args_list_setitem _ _ _)))
 show wpAny _ _ (Builtin.List.listSubscript? (.ref sl) >>= _) _ _ s
 refine E4 ?_;unfold Builtin.List.listSubscript?;refine E4 (wpAny_specialOf hTs slice_no_index ?_);simp only[Option.isNone_none,if_true];refine E6 ?_;show wpAny _ _ (typeOf (.ref sl) >>= _) _ _ s
 refine E4 (wpAny_typeOf hTs ?_)
 first
  | rw[if_neg (by decide)]
  | refine PySem.W.KFB.if_not (by decide) ?_
 rw[listSliceParts_eq];refine E4 (E4 (wpAny_field hos hds (x:=.none) rfl (E4 (wpAny_listPart .none ?_))));rw[if_neg hstep];refine E4 (wpAny_field hos hds (x:=vl) rfl (E4 (wpAny_listPart pl ?_)));refine E4 (wpAny_field hos hds (x:=vu) rfl (E4 (wpAny_listPart pu (E6 ?_))))
 first
  | simp only[hsame,Fo,if_false]
  | refine PySem.W.KFB.if_not hsame ?_
  | (
    dsimp only;rw[if_neg (by rw[hsame];exact FC)])
 refine E4 (m:=Builtin.List.listAllItems (.ref b) "must assign iterable to extended slice") ?_
 unfold Builtin.List.listAllItems;refine E4 (wpAny_typeOf hb.typeIs ?_)
 first
  | refine PySem.W.KFB.if_so (by decide) ?_
  | rw[if_pos (by decide)]
  | simp only[beq_self_eq_true,Bool.true_or,if_true]
 unfold Builtin.List.listItems;refine E4 (wpAny_seqItems e2 rfl (E6 ?_));refine E4 (E4 (wpAny_seqItems e rfl (E6 ?_)));refine E4 (wpAny_of_eq ((sliceIndices_raw (some (a:Int)) (some (c:Int)) none items.size (by simp)).trans (congrArg (pure:Int×Int×Int->Sem (Int×Int×Int)) (Ed hac hc))) ?_)
 show wpAny _ _ (if ((1:Int)==1)=true then _ else _) _ _ s
 rw[if_pos (by decide)]
 refine E4 (GO ?_)
 first
  | simp only[vA hsz,Fo,if_false]
  | refine PySem.W.KFB.if_not (vA hsz) ?_
 first|refine E4 (E6 ?_)|skip
 show wpAny _ _ (updateSeq l (fun xs=>xs.extract 0 ((a:Int)).toNat++new++xs.extract (max (a:Int) (c:Int)).toNat xs.size) >>= _) _ _ s
 rw[hmax,Int.toNat_natCast];refine E4 (wpAny_updateSeq (hz:=FL (Nat.le_add_right _ _) hsz) (_hz':=hz') e rfl ?_);refine E4 (wpAny_letGo ?_)
 first
  | exact E4 (E6 (E6 ⟨.none,rfl,E6 h⟩))
  | exact E6 ⟨.none,rfl,E6 h⟩
end
section
variable {X:Cx}
end
section
variable {κ:Type} [DecidableEq κ]
noncomputable def aN (kvs:List (κ×V))(k:κ):Option V:=(kvs.find? fun kv=>decide (kv.1=k)).map (·.2)
noncomputable def putK (kvs:List (κ×V))(k:κ)(v:V):List (κ×V):=
 if (kvs.any fun kv=>decide (kv.1=k))=true then kvs.map (fun kv=>if kv.1=k then(kv.1,v) else kv) else kvs++[(k,v)]
theorem n9{p:κ×V}{r:List (κ×V)}{k:κ}(e:p.1=k):aN (p::r) k=some p.2:=by simp [aN,F9,e]
theorem lU{p:κ×V}{r:List (κ×V)}{k:κ}(e:¬ p.1=k):aN (p::r) k=aN r k:=by simp [aN,F9,e]
theorem sm(k:κ):∀ kvs:List (κ×V),(kvs.any fun kv=>decide (kv.1=k))=(aN kvs k).isSome
 | []=>rfl
 | p::r=>by
  rw[GU]
  by_cases e:p.1=k
  ·simp only[n9 e,Fq e,Bool.true_or,Option.isSome_some]
  ·rw[lU e,FI e,Bool.false_or];exact sm k r
theorem mP(kvs:List (κ×V))(k:κ)(v:V):(putK kvs k v).length<=kvs.length+1:=by
 unfold putK
 split
 ·rw[E3];lia
 ·rw[Fh,Fy,GP];lia
theorem bR.iu{o:Option V}{u:Option Value}(r:bR o u):o.isSome=u.isSome:=by
 cases o with
 | none=>cases u with
  | none=>rfl
  | some _=>exact(show False from r).elim
 | some _=>cases u with
  | none=>exact(show False from r).elim
  | some _=>rfl
theorem bR.getD{o:Option V}{u:Option Value}{d:V}{d':Value}(r:bR o u)(rd:RelV d d'):RelV (o.getD d) (u.getD d'):=by
 cases o with
 | none=>cases u with
  | none=>exact rd
  | some _=>exact(show False from r).elim
 | some _=>cases u with
  | none=>exact(show False from r).elim
  | some _=>exact r
theorem KV.val{kvs:List (κ×V)}{vs:List (κ×Value)}(r:KV kvs vs)(k:κ):bR (aN kvs k) (valueAt vs k):=by
 unfold KV at r;induction r with
 | nil=>exact True.intro
 | @cons p q ps qs h t ih=>
  obtain⟨h1,h2⟩:=h
  by_cases e:p.1=k
  ·have e':q.1=k:=h1.symm.trans e;have b:valueAt (q::qs) k=some q.2:=by simp [valueAt,F9,e']
   rw[n9 e,b];exact h2
  ·have e':¬ q.1=k:=fun z=>e (h1.trans z)
   have b:valueAt (q::qs) k=valueAt qs k:=by simp [valueAt,F9,e']
   rw[lU e,b];exact ih
theorem KV.any{kvs:List (κ×V)}{vs:List (κ×Value)}(r:KV kvs vs)(k:κ):(kvs.any fun kv=>decide (kv.1=k))=vs.any fun kv=>decide (kv.1=k):=by
 unfold KV at r;induction r with
 | nil=>rfl
 | cons h t ih=>rw[GU,GU,ih,h.1]
theorem KV.nE{kvs:List (κ×V)}{vs:List (κ×Value)}(r:KV kvs vs)(k:κ){y:V}(ry:RelV y u) :
  KV (kvs.map fun kv=>if kv.1=k then(kv.1,y) else kv) (vs.map fun kv=>if kv.1=k then(kv.1,u) else kv):=by
 unfold KV at r ⊢;induction r with
 | nil=>exact .nil
 | @cons p q ps qs h t ih=>
  rw[Fi,Fi];refine .cons ?_ ih;obtain⟨h1,h2⟩:=h
  by_cases e:p.1=k
  ·rw[if_pos e,if_pos (h1.symm.trans e)];exact⟨h1,ry⟩
  ·rw[if_neg e,if_neg (fun z=>e (h1.trans z))];exact⟨h1,h2⟩
theorem KV.put{kvs:List (κ×V)}{vs:List (κ×Value)}(r:KV kvs vs)(k:κ){y:V}(ry:RelV y u):KV (putK kvs k y) (stored vs k u):=by
 unfold putK stored;rw[r.any k]
 by_cases e:(vs.any fun kv=>decide (kv.1=k))=true
 ·rw[if_pos e,if_pos e];exact r.nE k ry
 ·rw[if_neg e,if_neg e];exact Paired.snoc r ⟨rfl,ry⟩
theorem KV.length{kvs:List (κ×V)}{vs:List (κ×Value)}(r:KV kvs vs):kvs.length=vs.length:=Paired.length r
end
theorem fR{k:Key}(r:RelV (kV k) u):(az P w).is k u=true:=by
 cases k with
 | inl i=>obtain⟨t,e⟩:=(show ∃ t,u=Value.int i t from r);subst e;exact Ai P w i t
 | inr x=>obtain⟨t,e⟩:=(show ∃ t,u=Value.str x t from r);subst e;exact Di P w x t
theorem ud:∀{ks:List Key}{us:List Value},Vals (ks.map kV) us->ItemsAre (az P w) ks us
 | [],_,r=>by rw[GN]at r;cases r;exact .nil
 | k::ks,_,r=>by
  rw[Fi]at r;cases r with
  | cons h t=>exact .cons (fR h) (ud t)
noncomputable abbrev KT (H:Hp):List (List Key×V)->List (List Key×Addr×Value)->Prop:=Paired fun p q=>p.1=q.1/\H q.2.1=some (.tup (p.1.map kV))/\RelV p.2 q.2.2
theorem KT.val{H:Hp}{kvs:List (List Key×V)}{xs:List (List Key×Addr×Value)}(r:KT H kvs xs)(k:List Key):bR (aN kvs k) ((atKey xs k).map (·.2)):=by
 induction r with
 | nil=>exact True.intro
 | @cons p q ps qs h t ih=>
  obtain⟨h1,_,h2⟩:=h
  by_cases e:p.1=k
  ·have e':q.1=k:=h1.symm.trans e;have b:atKey (q::qs) k=some q.2:=by simp [atKey,F9,e']
   rw[n9 e,b];exact h2
  ·have e':¬ q.1=k:=fun z=>e (h1.trans z)
   have b:atKey (q::qs) k=atKey qs k:=by simp [atKey,F9,e']
   rw[lU e,b];exact ih
theorem KT.nE{H:Hp}{kvs:List (List Key×V)}{xs:List (List Key×Addr×Value)}(r:KT H kvs xs)(k:List Key){y:V}(ry:RelV y u) :
  KT H (kvs.map fun kv=>if kv.1=k then(kv.1,y) else kv) (xs.map (putAt k u)):=by
 induction r with
 | nil=>exact .nil
 | @cons p q ps qs h t ih=>
  rw[Fi,Fi];refine .cons ?_ ih;obtain⟨h1,h2,h3⟩:=h;unfold putAt
  by_cases e:p.1=k
  ·rw[if_pos e,if_pos (h1.symm.trans e)];exact⟨h1,h2,ry⟩
  ·rw[if_neg e,if_neg (fun z=>e (h1.trans z))];exact⟨h1,h2,h3⟩
theorem KT.put{H:Hp}{kvs:List (List Key×V)}{xs:List (List Key×Addr×Value)}(r:KT H kvs xs)(k:List Key){y:V}(hb:H b=some (.tup (k.map kV)))(ry:RelV y u) :
  KT H (putK kvs k y) (storedH xs k b u):=by
 have e:(kvs.any fun kv=>decide (kv.1=k))=(atKey xs k).isSome:=by
  rw[sm,(r.val k).iu,GZ]
 unfold putK storedH;rw[e]
 by_cases q:(atKey xs k).isSome=true
 ·rw[if_pos q,if_pos q];exact r.nE k ry
 ·rw[if_neg q,if_neg q];exact Paired.snoc r ⟨rfl,hb,ry⟩
theorem KT.keeps{H H':Hp}{kvs:List (List Key×V)}{xs:List (List Key×Addr×Value)}(r:KT H kvs xs)(ht:∀ b ys,H b=some (.tup ys)->H' b=some (.tup ys)):KT H' kvs xs:=
 Paired.oX r fun _ _ z=>⟨z.1,ht _ _ z.2.1,z.2.2⟩
section
variable {P:Program}{w:World}{H:Hp}{h:Heap}{a:Addr}
theorem p7{u:HO}(ok:HOk P w H h)(e:Rd H a u):au P w H h a u:=e.ok ok
theorem eV{kvs:List (Key×V)}(ok:HOk P w H h)(e:Rd H a (.dK kvs)):kvs.length<=sizeLine/\(a==sysModules)=false/\∃ vs,KV kvs vs/\h.DictOf (az P w) a vs:=
 show au P w H h a (.dK kvs) from p7 ok e
theorem uz{kvs:List (Key×V)}(ok:HOk P w H h)(e:H a=some (.dK kvs)):kvs.length<=sizeLine/\(a==sysModules)=false/\∃ vs,KV kvs vs/\h.DictOf (az P w) a vs:=eV ok (.inl e)
theorem gL{ks:List Key}(ok:HOk P w H h)(e:H a=some (.tup (ks.map kV))):(tupleKind (az P w)).is h ks a:=by
 obtain⟨_,its,r,o,h1,h2,n,h3⟩:=(show au P w H h a (.tup (ks.map kV)) from ok a _ e)
 exact⟨o,its.toArray,n,h1,h2,h3,by simpa using ud r⟩
theorem fG{kvs:List (List Key×V)}(ok:HOk P w H h)(e:Rd H a (.dT kvs)):kvs.length<=sizeLine/\(a==sysModules)=false ∧
  ∃ xs,KT H kvs xs/\h.DictOfH (tupleKind (az P w)) a xs:=by
 obtain⟨z,y,xs,r,o,es,ep,h1,h2,h3,h4,h5⟩:=(show au P w H h a (.dT kvs) from p7 ok e)
 refine⟨z,y,xs,r,o,es,ep,h1,h2,h3,h4,fun x hx=>?_,h5⟩
 have all:∀{l:List (List Key×V)} {m:List (List Key×Addr×Value)},KT H l m->∀ x∈m,(tupleKind (az P w)).is h x.1 x.2.1:=by
  intro l m q;induction q with
  | nil=>intro x hx;exact nomatch hx
  | @cons p q ps qs hq t ih=>
   intro x hx;rcases Fn.mp hx with e|hx
   ·subst e;exact gL ok (by rw[<-hq.1];exact hq.2.1)
   ·exact ih x hx
 exact all r x hx
theorem xU{kvs:List (List Key×V)}(ok:HOk P w H h)(e:H a=some (.dT kvs)):kvs.length<=sizeLine/\(a==sysModules)=false ∧
  ∃ xs,KT H kvs xs/\h.DictOfH (tupleKind (az P w)) a xs:=fG ok (.inl e)
end
noncomputable def dF (H:Hp)(a:Addr)(y:V)(r:Option V):Prop:=
 (∃ kvs k,Rd H a (.dK kvs)/\y=kV k/\r=aN kvs k)\/∃ kvs k b,Rd H a (.dT kvs)/\y=.ref b/\H b=some (.tup (k.map kV))/\r=aN kvs k
noncomputable def gq (H:Hp)(a:Addr)(y v:V)(H':Hp):Prop:=
 (∃ kvs k,H a=some (.dK kvs)/\y=kV k/\kvs.length<sizeLine/\H'=upd H a (.dK (putK kvs k v))) ∨
 ∃ kvs k b,H a=some (.dT kvs)/\y=.ref b/\H b=some (.tup (k.map kV))/\kvs.length<sizeLine/\H'=upd H a (.dT (putK kvs k v))
theorem dF.k{H:Hp}{kvs:List (Key×V)}{k:Key}(e:H a=some (.dK kvs)):dF H a (kV k) (aN kvs k):=.inl ⟨kvs,k,.inl e,rfl,rfl⟩
theorem dF.t{H:Hp}{kvs:List (List Key×V)}{k:List Key}(e:H a=some (.dT kvs))(eb:H b=some (.tup (k.map kV))):dF H a (.ref b) (aN kvs k):=.inr ⟨kvs,k,b,.inl e,rfl,eb,rfl⟩
theorem gq.k{H:Hp}{kvs:List (Key×V)}{k:Key}{v:V}(e:H a=some (.dK kvs))(hl:kvs.length<sizeLine):gq H a (kV k) v (upd H a (.dK (putK kvs k v))):=.inl ⟨kvs,k,e,rfl,hl,rfl⟩
theorem gq.t{H:Hp}{kvs:List (List Key×V)}{k:List Key}{v:V}(e:H a=some (.dT kvs))(eb:H b=some (.tup (k.map kV)))(hl:kvs.length<sizeLine) :
  gq H a (.ref b) v (upd H a (.dT (putK kvs k v))):=.inr ⟨kvs,k,b,e,rfl,eb,hl,rfl⟩
section
variable {X:Cx}{pins:List (Addr×Obj)}{σ:St}{H:Hp}{s:Shared}{a:Addr}{y v:V}{u r:Value}{o:Option V}{A:Around}{E:Value->Shared->Prop}
theorem Inv.big(I:Inv X pins σ H s):sysModules<s.heap.objs.size:=by
 have h:mainGlobals<s.heap.objs.size:=(I.mod.glob.keeps I.bk).lt;exact Nat.lt_trans (by decide) h
theorem wA(hu:A.units+1<cLine)(I:Inv X pins σ H s)(g:dF H a y (some v))(ry:RelV y u)(h:∀ w' s',Inv X pins σ H s'->RelV v w'->Q w' s') :
  wpAny (model X.prog X.w) A (getItem (.ref a) u) Q E s:=by
 rcases g with⟨kvs,k,e,ey,l⟩|⟨kvs,k,b,e,ey,eb,l⟩
 ·subst ey;obtain⟨z,hd,vs,rel,dd⟩:=eV I.hok e;obtain⟨w',hw,rw'⟩:=bR.some_of (v:=v) (o:=valueAt vs k) (by rw[l];exact rel.val k)
  exact wpAny_getItem_of (fR ry) dd.mapOf hw (h w' _ (I.tok _) rw')
 ·subst ey;cases (show u=Value.ref b from ry)
  obtain⟨z,hd,xs,rel,dd⟩:=fG I.hok e;obtain⟨w',hw,rw'⟩:=bR.some_of (v:=v) (o:=(atKey xs k).map (·.2)) (by rw[l];exact rel.val k)
  obtain⟨p,hp,hp2⟩:=Fl.mp hw;refine wpAny_getItem_heap (tupleKind_room_in1 hu) (gL I.hok eb) dd hp ?_;rw[hp2];exact h w' _ (I.tok _) rw'
theorem Aw(hu:A.units+1<cLine)(I:Inv X pins σ H s)(g:dF H a y o)(ry:RelV y u)(h:∀ s',Inv X pins σ H s'->Q (.bool o.isSome) s') :
  wpAny (model X.prog X.w) A (compareOp .In u (.ref a)) Q E s:=by
 rcases g with⟨kvs,k,e,ey,l⟩|⟨kvs,k,b,e,ey,eb,l⟩
 ·subst ey;obtain⟨z,hd,vs,rel,dd⟩:=eV I.hok e;refine wpAny_in_of (fR ry) hd dd.mapOf ?_;rw[<-(rel.val k).iu,<-l];exact h _ (I.tok _)
 ·subst ey;cases (show u=Value.ref b from ry)
  obtain⟨z,hd,xs,rel,dd⟩:=fG I.hok e;refine wpAny_in_heap (tupleKind_room_in1 hu) (gL I.hok eb) hd dd ?_;have q:=(rel.val k).iu;rw[GZ]at q;rw[<-q,<-l];exact h _ (I.tok _)
theorem BW(hu:A.units+1<cLine)(I:Inv X pins σ H s)(g:dF H a y o)(ry:RelV y u)(h:∀ s',Inv X pins σ H s'->Q (.bool (!o.isSome)) s') :
  wpAny (model X.prog X.w) A (compareOp .NotIn u (.ref a)) Q E s:=by
 rcases g with⟨kvs,k,e,ey,l⟩|⟨kvs,k,b,e,ey,eb,l⟩
 ·subst ey;obtain⟨z,hd,vs,rel,dd⟩:=eV I.hok e;refine wpAny_notIn_of (fR ry) hd dd.mapOf ?_;rw[<-(rel.val k).iu,<-l];exact h _ (I.tok _)
 ·subst ey;cases (show u=Value.ref b from ry)
  obtain⟨z,hd,xs,rel,dd⟩:=fG I.hok e;refine wpAny_notIn_heap (tupleKind_room_in1 hu) (gL I.hok eb) hd dd ?_;have q:=(rel.val k).iu;rw[GZ]at q;rw[<-q,<-l];exact h _ (I.tok _)
theorem kQ{ob:HO}(I:Inv X pins σ H s)(mu:Mut (H a))(hs:Heap.SameBut a s.heap h')(he:∃ q,h'.get? a=some q)(new:au X.prog X.w (upd H a ob) h' a ob) :
  Inv X pins σ (upd H a ob) { s with heap:=h',toks:=t' }:=
 I.write (x:=a) (e:=a) mu (.inl rfl) (fun b q hb z=>(hs.2 b hb).trans z) he new
theorem nj{H':Hp}{kvs:List (Key×V)}{vs:List (Key×Value)}(z:kvs.length<=sizeLine)(hd:(a==sysModules)=false)(rel:KV kvs vs)(dd:h'.DictOf (az P w) a vs) :
  au P w H' h' a (.dK kvs):=⟨z,hd,vs,rel,dd⟩
theorem Bi{H':Hp}{Q:Unit->Shared->Prop}(hu:A.units+1<cLine)(I:Inv X pins σ H s)(g:gq H a y v H')(ry:RelV y u)(rv:RelV v r)(h:∀ s',Inv X pins σ H' s'->Q () s') :
  wpAny (model X.prog X.w) A (setItem (.ref a) u r) Q E s:=by
 rcases g with⟨kvs,k,e,ey,l,eH⟩|⟨kvs,k,b,e,ey,eb,l,eH⟩
 ·subst ey eH;obtain⟨z,hd,vs,rel,dd⟩:=uz I.hok e;have hz:vs.length<=sizeLine:=by rw[<-rel.length];exact z
  have hl:(putK kvs k v).length<=sizeLine:=by have:=mP kvs k v;lia
  refine wpAny_setItem_pairs (hsz:=hz) (fR ry) dd fun h' dd' hs=>h _ ?_
  have he:∃ q,h'.get? a=some q:=let ⟨q,_,_,hq,_⟩:=dd';⟨q,hq⟩
  exact kQ I (by rw[e];exact True.intro) hs he (nj hl hd (rel.put k rv) dd')
 ·subst ey eH;cases (show u=Value.ref b from ry)
  obtain⟨z,hd,xs,rel,dd⟩:=xU I.hok e;have hz:xs.length<=sizeLine:=by rw[<-Paired.length rel];exact z
  have hl:(putK kvs k v).length<=sizeLine:=by have:=mP kvs k v;lia
  refine wpAny_setItem_heap (hsz:=hz) (tupleKind_room_in1 hu) (gL I.hok eb) dd fun h' dd' hs=>h _ ?_
  obtain⟨q,es,ep,hq,h2,h3,h4,_,h5⟩:=dd';refine kQ I (by rw[e];exact True.intro) hs ⟨q,hq⟩ ⟨hl,hd,_,(rel.put k eb rv).keeps fun c ys ec=>?_,q,es,ep,hq,h2,h3,h4,h5⟩
  rw[ar (aX ec e (fun z=>nomatch z))]
  exact ec
end
section
variable {X:Cx}{pins:List (Addr×Obj)}{σ:St}{H:Hp}{s:Shared}{a:Addr}{kvs:List (Key×V)}{k:Key}{u:Value}{A:Around}{E:Value->Shared->Prop}
end
noncomputable def jy (i:Expr):Prop:=∀ ov iv,subscripted i false ov iv=operate [ov,iv] (getItem ov iv)
theorem rR{value slice:Expr}{T id:String}(hl:typeLookup (.type T) "__getitem__" = pure (some (.builtin id))) (hs:jy slice) (h:wpAny (model prog w) A (eval value env) (fun o s₁=>wpAny (model prog w) A (eval slice env) (fun i s₂=>s₂.TypeIs o T/\wpAny (model prog w) A (getItem o i) Q E s₂) E s₁) E s) :
  wpAny (model prog w) A (eval (.Subscript value slice pos) env) Q E s:=by
 refine Subscript_ (Gf h (fun o s₁ h₁=>Gf h₁ (fun i s₂ h₂=>?_) fun _ _ x=>x) fun _ _ x=>x)
 obtain⟨hT,h₂⟩:=h₂;unfold subscriptTail;refine E4 ?_;rw[getitemInPython_of_ne hT.not_modules];refine E4 (wpAny_specialOf hT hl ?_);have fin:wpAny (model prog w) A (subscripted slice false o i) (fun r s₃=>wpAny (model prog w) A (letTemporaryGo value o r >>= fun _=>pure r) Q E s₃) E s₂:=by
  rw[hs o i];exact wpAny_operating (Gf h₂ (fun r s₃ h₃=>E4 (wpAny_letTemporaryGo (E6 h₃))) fun _ _ x=>x)
 first
  | exact E6 (E4 fin)
  | exact E4 (E6 (E4 fin))
  | exact E4 fin
theorem AU{X:Cx}{σ:St}{H:Hp}{y:V}{o:Option V}(I:Inv X pins σ H s)(g:dF H a y o):s.TypeIs (.ref a) "dict":=by
 rcases g with⟨kvs,k,e,_,_⟩|⟨kvs,k,b,e,_,_,_⟩
 ·obtain⟨_,_,vs,_,dd⟩:=eV I.hok e;exact dd.typeIs
 ·obtain⟨_,_,xs,_,dd⟩:=fG I.hok e;exact dd.typeIs
noncomputable def EI (td ty:TE):TE:=fun σ H Q=>td σ H fun x H1=>ty σ H1 fun y H2=>∃ a v,x=.ref a/\dF H2 a y (some v)/\Q v H2
noncomputable def Bw (td ty tv:TE):TS:=fun D σ H=>tv σ H fun v H1=>td σ H1 fun x H2=>ty σ H2 fun y H3=>∃ a H4,x=.ref a/\gq H3 a y v H4/\D.nx σ H4
section
variable {X:Cx}{o i e value:Expr}{pos pos' tpos:Pos}{td ty tv:TE}
theorem wX(hu:X.A.units+1<cLine)(ho:PE X o td)(hi:PE X i ty)(hs:jy i):PE X (.Subscript o i pos) (EI td ty):=by
 intro pins s σ H Q I h;refine rR PySem.F.slot_dict_getitem.lookup hs (thn (ho pins s σ H _ I h) fun u s1 ⟨x,H1,I1,rx,q1⟩=>thn (hi pins s1 σ H1 _ I1 q1) fun iv s2 hZ=>?_)
 obtain⟨y,H2,I2,ry,a,v,ex,g,q2⟩:=hZ;subst ex;obtain rfl:u=Value.ref a:=rx;exact⟨AU I2 g,wA hu I2 g ry fun w' s3 I3 rw'=>⟨v,H2,I3,rw',q2⟩⟩
theorem zZ(hu:X.A.units+1<cLine)(ho:PE X o td)(hi:PE X i ty)(hv:PE X value tv)(hs:swapsWith value (some (.Subscript o i pos')) pos.line X.env=pure false) :
  PS X (.Assign [.Subscript o i pos'] value pos) (Bw td ty tv):=by
 intro pins s σ H D I h;refine wpAny_Assign_Subscript (thn (hv pins s σ H _ I h) fun r s1 ⟨v,H1,I1,rv,q1⟩=>thn (ho pins s1 σ H1 _ I1 q1) fun u s2 ⟨x,H2,I2,rx,q2⟩=>thn (hi pins s2 σ H2 _ I2 q2) fun iv s3 ⟨y,H3,I3,ry,a,H4,ex,g,q3⟩=>?_) hs
 subst ex;obtain rfl:u=Value.ref a:=rx;exact Bi hu I3 g ry rv fun s4 I4=>⟨σ,H4,I4,q3⟩
end
theorem xD{H:Hp}(h:Heap)(hb:sysModules<h.objs.size):au P w H (h.push { cls:=.type "dict",data:=.dict #[] }) h.objs.size (.dK []):=
 ⟨FG _,beq_eq_false_iff_ne.mpr (Ne.symm (FD hb)),[],.nil,Heap.DictOf.new h⟩
noncomputable def yt:TE:=fun _ H Q=>∀ p,H p=none->Q (.ref p) (upd H p (.dK []))
section
variable {X:Cx}{pos:Pos}
theorem BR:PE X (.Dict [] [] pos) yt:=fun pins s σ H Q I h=>
 wpAny_Dict_empty ⟨.ref s.heap.objs.size,_,I.laid (a:=s.heap.objs.size) (o:=.dK []) (t':=s.toks) (fun _ _ q=>E8 _ q) (E7 _) (xD s.heap I.big),rfl,h _ (I.hok.fresh (E7 _))⟩
end
structure M1 (X:Cx)(o:Expr)(m:Str)(apos:Pos)(e:Expr)(cpos:Pos):Prop where
 base:attributeBase o m X.env (eval o X.env)=eval o X.env
 few:((backTo cpos (starEach [e] X.env)).all (fun x=>!x.1)&&(backToKw cpos (keywordEach [] X.env)).all (fun x=>x.1.isSome)
  &&decide (([e]:List Expr).length+([]:List Keyword).length+(if ([]:List Keyword).isEmpty then 0 else 1)<30))=true
 line:(apos.endLine==cpos.line)=true
 trees:backTo cpos (starEach [e] X.env)=[(false,eval e X.env)]
structure M2 (X:Cx)(o:Expr)(m:Str)(apos:Pos)(e f:Expr)(cpos:Pos):Prop where
 base:attributeBase o m X.env (eval o X.env)=eval o X.env
 few:((backTo cpos (starEach [e,f] X.env)).all (fun x=>!x.1)&&(backToKw cpos (keywordEach [] X.env)).all (fun x=>x.1.isSome)
  &&decide (([e,f]:List Expr).length+([]:List Keyword).length+(if ([]:List Keyword).isEmpty then 0 else 1)<30))=true
 line:(apos.endLine==cpos.line)=true
 trees:backTo cpos (starEach [e,f] X.env)=[(false,eval e X.env),(false,eval f X.env)]
noncomputable def IsD (H:Hp)(a:Addr):Prop:=(∃ kvs,Rd H a (.dK kvs))\/∃ kvs,Rd H a (.dT kvs)
theorem iO{X:Cx}{σ:St}{H:Hp}(I:Inv X pins σ H s)(d:IsD H a) :
  s.TypeIs (.ref a) "dict"/\(∀ b,Value.ref a=.ref b->∃ ob,s.heap.get? b=some ob/\ob.dict=none)/\(a==sysModules)=false:=by
 rcases d with⟨kvs,e⟩|⟨kvs,e⟩
 ·obtain⟨_,hd,vs,_,dd⟩:=eV I.hok e;refine⟨dd.typeIs,fun b q=>?_,hd⟩
  cases q
  obtain⟨ob,_,_,h1,h2,_⟩:=dd;exact⟨ob,h1,h2.2.1⟩
 ·obtain⟨_,hd,xs,_,dd⟩:=fG I.hok e;refine⟨dd.typeIs,fun b q=>?_,hd⟩
  cases q
  obtain⟨ob,_,_,h1,h2,_⟩:=dd;exact⟨ob,h1,h2.2.1⟩
section
variable {X:Cx}{pins:List (Addr×Obj)}{σ:St}{H:Hp}{s:Shared}{a:Addr}{y d:V}{u r:Value}{o:Option V}{A:Around}{E:Value->Shared->Prop}
theorem vM(hu:A.units+1<cLine)(I:Inv X pins σ H s)(g:dF H a y o)(ry:RelV y u)(h:∀ w' s',Inv X pins σ H s'->RelV (o.getD .non) w'->Q w' s') :
  wpAny (model X.prog X.w) A (call (.builtin "dict.get") [.ref a,u]) Q E s:=by
 rcases g with⟨kvs,k,e,ey,l⟩|⟨kvs,k,b,e,ey,eb,l⟩
 ·subst ey;obtain⟨z,hd,vs,rel,dd⟩:=eV I.hok e;refine call_meetsIn PySem.F.slot_dict_get dd.typeIs PySem.F.entry_dict_get (PySem.F.args_dict_get_2 _ _) (meets_dict_get (az X.prog X.w) a (fR ry) hd) ⟨_,dd.mapOf,h _ _ (I.tok _) ?_⟩;rw[l]
  exact(rel.val k).getD rfl
 ·subst ey;cases (show u=Value.ref b from ry)
  obtain⟨z,hd,xs,rel,dd⟩:=fG I.hok e;refine call_meetsIn PySem.F.slot_dict_get dd.typeIs PySem.F.entry_dict_get (PySem.F.args_dict_get_2 _ _) (meetsH_dict_get (tupleKind (az X.prog X.w)) a b hd) ⟨tupleKind_room_in1 hu,k,xs,gL I.hok eb,dd,h _ _ (I.tok _) ?_⟩;rw[l]
  exact(rel.val k).getD rfl
end
noncomputable def BY (td ty:TE):TE:=fun σ H Q=>td σ H fun x H1=>∃ a,x=.ref a/\IsD H1 a/\ty σ H1 fun y H2=>∃ o,dF H2 a y o/\Q (o.getD .non) H2
section
variable {X:Cx}{o e f:Expr}{apos cpos:Pos}{td ty tx:TE}
theorem Aq(hu:X.A.units+1<cLine)(ho:PE X o td)(he:PE X e ty)(m:M1 X o "get" apos e cpos):PE X (.Call (.Attribute o "get" apos) [e] [] cpos) (BY td ty):=by
 intro pins s σ H Q I h;refine wpAny_Call_method m.base m.few m.line PySem.F.plainAttrs_dict PySem.F.slot_dict_get PySem.F.type_dict_get (thn (ho pins s σ H _ I h) fun u s1 hZ=>?_)
 obtain⟨x,H1,I1,rx,a,ex,d,q1⟩:=hZ;subst ex;obtain rfl:u=Value.ref a:=rx;obtain⟨t1,t2,_⟩:=iO I1 d;refine⟨t1,t2,?_⟩;rw[m.trees];refine Calls.callWith_builtin rfl (Calls.evalArgs_plain (Calls.spliced_cons (thn (he pins s1 σ H1 _ I1 q1) fun iv s2 ⟨y,H2,I2,ry,ov,g,q2⟩=>Calls.spliced_nil ?_)))
 exact vM hu I2 g ry fun w' s3 I3 rw'=>⟨_,H2,I3,rw',q2⟩
end
section
variable {X:Cx}{pins:List (Addr×Obj)}{σ:St}{H:Hp}{s:Shared}{a:Addr}{kvs:List (Key×V)}{A:Around}{E:Value->Shared->Prop}
end
section
variable {X:Cx}{pins:List (Addr×Obj)}{σ:St}{H:Hp}{s:Shared}{a:Addr}{y:V}{u:Value}{A:Around}{E:Value->Shared->Prop}
end
end L2
end
section
namespace Att
open PySem PySem.W PySem.Calls PyProof.Rows
theorem zE{P:Params}:∀(ns:List Int)(vs:List Value),WellAll P h vs (ns.map WData.int)->IntsAre vs ns:=by
 intro ns;induction ns with
 | nil=>
  intro vs w;rw[GN]at w;cases w
  exact .nil
 | cons n ns ih=>
  intro vs w;rw[Fi]at w;cases w with
  | cons a b=>
   cases a
   exact .cons _ _ (ih _ b)
theorem B4{l:OpenLaw}{n:Nat}(hn:l.most=some n){P:Params}{args:List WData}{vals:List Value}(hpre:l.row.toRowW.claim.pre args=true)(hwl:WellAll P h vals args) :
  ∃ a vs ns,vals=[Value.ref a]/\args=[WData.list (ns.map WData.int)]/\h.get? a=some { cls:=.type "list",data:=.seq vs.toArray }/\IntsAre vs ns/\ns.length<=n:=by
 have hsh:WShape.hasAll [] args [.list .int]=true:=(pre_splitW hpre).1;have hc:l.pre.holds [] { args:=args }=true:=(pre_splitW hpre).2;obtain⟨d,r,rfl,h1,h2⟩:=hasAllW_cons hsh;obtain rfl:=hasAllW_nil h2;obtain⟨xs,rfl,h3⟩:=hasW_list h1;obtain⟨ns,rfl⟩:=items_int h3;have hlen:ns.length<=n:=by
  unfold OpenLaw.pre at hc;have h4:(WTm.not (.lt (.lit (.int (n:Int))) (.len (.arg 0)))).holds [] { args:=[.list (ns.map .int)] }=true:=by
   have h4:=(holds_andW hc).1;rw[hn]at h4;exact h4
  have h5:=condW_of h4 (w_not (w_lt w_lit (w_len_list (w_arg rfl))));rw[E3]at h5;refine Nat.le_of_not_lt fun q=>?_
  have q':(n:Int)<((ns.length:Nat):Int):=by lia
  first
   | (rw[Fq q']at h5;exact absurd h5 (by decide))
   | (simp at h5;lia)
 cases hwl with
 | cons w1 w2=>
  cases w2
  cases w1 with
  | list ho hall=>exact⟨_,_,ns,rfl,rfl,ho,zE ns _ hall,hlen⟩
theorem Bc(l:OpenLaw)(args:List WData):l.row.toRowW.claim.post args (.bool true) args=true:=
 postW_of (r:=l.row.toRowW) (X:=(true==true))
  (show WShape.has [] (.bool true) .bool=true by first|rfl|decide|simp [WShape.has,WShape.arms,WShape.armsAll])
  (show(WTm.eq .res (.lit (.bool true))).value [] { args:=args,res:=some (.bool true),after:=args }=some (.bool (true==true)) from w_eq_bool (w_res rfl) w_lit) rfl
theorem w9{l:OpenLaw}{n:Nat}{q:Program}{loose:List Str}{XP:(Str->Option Value)->Heap->Prop}{YP:World->Heap->Prop}{d:DefRec}(hn:l.most=some n)(hdf:d.params.defaults=[])(call:∀(w:World)(s₀ s₁:Shared)(mg mb:Str->Option Value)(fa:Addr)(o:Obj)(pm cd doc:Value)(a:Addr)(vs:List Value)(ns:List Int),
   Ground q loose [] XP w s₀ mg mb s₁.heap->YP w s₁.heap →
   s₁.heap.get? fa=some o->o.data=.func (docDef d.name d.params d.body d.scope pm cd doc)->s₁.heap.CodeRec cd d.name->mg d.name=some (.ref fa) →
   s₁.heap.get? a=some { cls:=.type "list",data:=.seq vs.toArray }->IntsAre vs ns->ns.length<=n->s₁.gens=#[] →
   codeAny (model l.prog w) callerA (.call (.ref fa) ⟨[.ref a],[]⟩) (fun r s'=>r=.ok (.ret (.bool true))/\OldK s₁.heap s'.heap/\s'.os=s₁.os/\AllBare s'.gens) s₁) :
  WalkO q loose XP YP l.row.toRowW d [] (fun f vs=>PySem.call f vs):=by
 intro w s₀ s₁ mg mb G Y fa o pm cd doc dV kV ho hd hcd hD hmg hg args vals as hpre hlay hrd hwl hlo;obtain rfl:dV=.none:=Dflts.none hD hdf;obtain rfl:kV=.none:=Dflts.noKw hD;obtain⟨a,vs,ns,rfl,rfl,hobj,hints,hlen⟩:=B4 hn hpre hwl;refine enter_call (codeAny_mono (call w s₀ s₁ mg mb fa o pm cd doc a vs ns G Y ho (fd_plain hd) hcd hmg hobj hints hlen hg) fun r s' hq=>?_)
 obtain⟨rfl,h2,h3,h4⟩:=hq;exact⟨.inl ⟨.bool true,.bool true,[],rfl,fun _=>rfl,.bool true,Bc l _,fun _=>⟨List.Pairwise.nil,fun _ hm=>(nomatch hm)⟩⟩,h2,h3,h4⟩
section
variable {prog:Program}{w:World}{A:Around}{E:Value->Shared->Prop}{s:Shared}{K:Frag}
end
end Att
namespace L2
open PySem PySem.Spec PyProof.Rows
theorem sC:∀{vs:List Value}{ns:List Int},IntsAre vs ns->Vals (ns.map V.int) vs
 | _,_,.nil=>.nil
 | _,_,.cons n t h=>.cons ⟨t,rfl⟩ (sC h)
noncomputable def inClass (s:Stmt)(j:Nat):Stmt:=match s with
 | .ClassDef _ _ _ body _ _ _ _ _ _ _=>body.getD j (.Pass ⟨0,0,0,0⟩)
 | _=>.Pass ⟨0,0,0,0⟩
noncomputable def cR (s:Stmt):Arguments:=match s with
 | .FunctionDef _ a _ _ _ _ _ _ _ _=>a
 | _=>{ posonlyargs:=[],args:=[],vararg:=none,kwonlyargs:=[],kw_defaults:=[],kwarg:=none,defaults:=[] }
noncomputable def cy (s:Stmt):List Stmt:=match s with
 | .FunctionDef _ _ b _ _ _ _ _ _ _=>b
 | _=>[]
noncomputable def ah (s:Stmt):Scope:=match s with
 | .FunctionDef _ _ _ _ _ _ sc _ _ _=>sc
 | _=>{ kind:=.function,names:=[],isGenerator:=false,isCoroutine:=false }
noncomputable abbrev CX0:CXT:=fun _ _ _ _ _ _=>False
noncomputable abbrev E0:XK:=fun _ _ _=>False
theorem iE{X:Cx}:Passes CX0 X E0:=fun _ _ _ _ _ _ _ h=>h.elim
structure Fun (K:PySem.W.Frag)(x qual:Str)(st:Stmt)(f:Addr)(fd:FuncData):Prop where
 ex:∃(oc:Value) (od:Option Addr) (kV doc pm:Value) (an:Option Addr) (cdv ct:Value) (osl:Array (Option Value)),
  fd=PySem.W.fnOf x qual (cR st) (cy st) (ah st) .none kV doc pm an cdv ct/\K.lookup f=some ⟨oc,od,.func fd,osl⟩/\PySem.W.codeIn K cdv qual=true
 kp:PySem.W.keepIn K (.ref f)=true
section
variable {P:Program}{w:World}{K:PySem.W.Frag}{mg:Str->Option Value}{base:Heap}
theorem Fun.ok{st:Stmt}{k:Nat}{sp:Sp}(F:Fun K x qual st f fd)(S:aJ N ps (ah st))(len:∀ vs H Q E,sp vs H Q E->vs.length=ps.length)(hbody:∀(cdv:Value)(A:Around)(outer:List Env)(s:Shared)(H:Hp)(vs:List V)(Q:VK)(E:XK),aE k (A.deeper (envOfC qual (ah st) s.heap.objs.size f cdv))->sp vs H Q E →
   ∃ t,PSs (fM CX0 P w K mg base N qual (ah st) f cdv A outer s H E).nox (cy st) t/\t { nx:=fun _ H'=>Q .non H',rt:=Q } (start N vs) H):ao P w K mg base CX0 (k+1) f fd ps sp:=by
 obtain⟨oc,od,kV,doc,pm,an,cdv,ct,osl,rfl,lk,hcd⟩:=F.ex;refine ql lk hcd S len fun A outer s H vs Q E hr hsp=>?_
 obtain⟨t,h,q⟩:=hbody cdv A outer s H vs Q E hr hsp;exact⟨t,h.nox,q⟩
theorem Fun.binds{st:Stmt}(F:Fun K x qual st f fd)(h:∀(kV doc pm:Value)(an:Option Addr)(cdv ct:Value)(us:List Value),us.length=ps.length->bindArgs (PySem.W.fnOf x qual (cR st) (cy st) (ah st) .none kV doc pm an cdv ct) ⟨us,[]⟩=pure (ps.zip us)):Binds K fd ps []:=by
 obtain⟨oc,od,kV,doc,pm,an,cdv,ct,osl,rfl,lk,hcd⟩:=F.ex;exact .all (h kV doc pm an cdv ct)
theorem qe{st:Stmt}{oc:Value}{od an:Option Addr}{osl:Array (Option Value)}{kV doc cdv ct:Value}(l:K.lookup f=some ⟨oc,od,.func (PySem.W.fnOf x qual (cR st) (cy st) (ah st) .none kV doc pm an cdv ct),osl⟩)(c:PySem.W.codeIn K cdv qual=true)(k:PySem.W.keepIn K (.ref f)=true):Fun K x qual st f (PySem.W.fnOf x qual (cR st) (cy st) (ah st) .none kV doc pm an cdv ct):=⟨⟨oc,od,kV,doc,pm,an,cdv,ct,osl,rfl,l,c⟩,k⟩
end
section
variable {X:Cx}
end
theorem fK{A B:Prop}(h:B):if false=true then A else B:=by
 rw[if_neg FC];exact h
theorem aV{c A B:Prop} [Decidable c] (h1:c->A)(h2:¬ c->B):if c then A else B:=by
 by_cases h:c
 ·rw[if_pos h];exact h1 h
 ·rw[if_neg h];exact h2 h
noncomputable def fO (H H':Hp):Prop:=∀ b o,H b=some o->H' b=some o
theorem fO.trans{H H1 H2:Hp}(a:fO H H1)(b:fO H1 H2):fO H H2:=fun c o h=>b c o (a c o h)
theorem fO.free{H H':Hp}(e:fO H H')(h:H' l=Option.none):H l=Option.none:=by
 cases q:H l with
 | none=>rfl
 | some o=>
  rw[e l o q]at h;cases h
section
variable {κ:Type} [DecidableEq κ]
end
end L2
end
variable {H H1 H' H2:L2.Hp}{σ:L2.St}{xs:List L2.V}{X:L2.Cx}{te:L2.TE}{D:L2.Ends}{tif:L2.TT}
section
namespace SB
open PySem PySem.W PySem.Calls PyProof.Rows L2
section
variable {α:Type} [DecidableEq α] (lt:α->α->Bool)
noncomputable def du (x:α):List α->List α
 | []=>[x]
 | y::r=>if x=y then y::r else if lt x y=true then x::y::r else y::du x r
noncomputable def srt (xs:List α):List α:=xs.foldr (du lt) []
variable {lt}
theorem oR{x z:α}:∀{l:List α},z∈du lt x l↔z=x\/z∈l
 | []=>by simp [du]
 | y::r=>by
  unfold du
  split
  ·rename_i e;subst e;simp
  ·split
   ·simp
   ·rw[Fn,oR,Fn];constructor
    ·rintro(h|h|h)
     ·exact .inr (.inl h)
     ·exact .inl h
     ·exact .inr (.inr h)
    ·rintro(h|h|h)
     ·exact .inr (.inl h)
     ·exact .inl h
     ·exact .inr (.inr h)
theorem cx{z:α}:∀{xs:List α},z∈srt lt xs↔z∈xs
 | []=>by simp [srt]
 | x::xs=>by
  show z∈du lt x (srt lt xs)↔_
  rw[oR,cx,Fn]
theorem vt{ok:α->Prop}(L:cw ok lt){x:α}(hx:ok x):∀{l:List α},(∀ k∈l,ok k)->l.Pairwise (fun a b=>lt a b=true)->(du lt x l).Pairwise (fun a b=>lt a b=true)
 | [],_,_=>List.pairwise_singleton _ _
 | y::r,hk,hu=>by
  have oky:=hk y (Fd ..);obtain⟨h1,h2⟩:=Gk.mp hu;unfold du
  split
  ·exact hu
  ·rename_i ne
   split
   ·rename_i h
    refine Gk.mpr ⟨fun z hz=>?_,hu⟩
    rcases Fn.mp hz with rfl|hz
    ·exact h
    ·exact L.tr _ _ _ hx oky (hk z (Ff _ hz)) h (h1 z hz)
   ·rename_i h
    have h':lt y x=true:=L.tot _ _ hx oky ne (by simpa using h)
    refine Gk.mpr ⟨fun z hz=>?_,vt L hx (fun k hk'=>hk k (Ff _ hk')) h2⟩
    rcases oR.mp hz with rfl|hz
    ·exact h'
    ·exact h1 z hz
theorem iB{ok:α->Prop}(L:cw ok lt):∀{xs:List α},(∀ k∈xs,ok k)->(srt lt xs).Pairwise (fun a b=>lt a b=true)
 | [],_=>List.Pairwise.nil
 | x::xs,hk=>vt L (hk x (Fd ..)) (fun k h=>hk k (Ff _ (cx.mp h))) (iB L fun k h=>hk k (Ff _ h))
theorem uk{ok:α->Prop}(L:cw ok lt){l:List α}(hk:∀ k∈l,ok k)(h:l.Pairwise (fun a b=>lt a b=true)):l.Nodup:=by
 refine List.Pairwise.imp_of_mem (fun {a b} ha hb hlt e=>?_) h
 subst e
 have:=L.asy _ _ (hk a ha) (hk a ha) hlt
 rw[hlt]at this;cases this
theorem iP{ok:α->Prop}(L:cw ok lt){l xs:List α}(hk:∀ k∈xs,ok k)(hm:∀ k,k∈l↔k∈xs)(h:l.Pairwise (fun a b=>lt a b=true)):l=srt lt xs:=by
 have hkl:∀ k∈l,ok k:=fun k hk'=>hk k ((hm k).mp hk')
 have hks:∀ k∈srt lt xs,ok k:=fun k hk'=>hk k (cx.mp hk')
 refine L.same hkl ((List.perm_ext_iff_of_nodup (uk L hkl h) (uk L hks (iB L hk))).mpr fun k=>?_) h (iB L hk)
 rw[hm,cx]
theorem kj{ok:α->Prop}(L:cw ok lt){xs ys:List α}(hk:∀ k∈xs,ok k)(hm:∀ k,k∈xs↔k∈ys):srt lt xs=srt lt ys:=by
 refine iP L (fun k h=>hk k ((hm k).mpr h)) (fun k=>?_) (iB L hk)
 rw[cx,hm]
end
noncomputable def dS (w:World)(a:Addr)(xs:List V):HO:=.ext fun h=>∃ o es ep t,bK w h a o es ep t/\Vals xs (es.toList.map (·.2))
theorem vm{es:Array (Int×Value)}{t:SetTable}(S:bK w h a o es ep t)(r:Vals xs (es.toList.map (·.2))):au P w H h a (dS w a xs):=
 ⟨⟨o,es,ep,t,S,r⟩,⟨o,S.ho⟩,fun h1 h2 ⟨o,es,ep,t,S,r⟩ k=>⟨o,es,ep,t,S.keep fun o' e=>k o' e,r⟩⟩
theorem Ek{P:Program}{w:World}{ks:List Ky}:∀{vs:List Value},Vals (ks.map kV) vs->∀(i:Nat)(v:Value),vs[i]? =some v->∃ k,ks[i]? =some k/\bI k v=true:=by
 induction ks with
 | nil=>intro vs r i v h;rw[GN]at r;cases r;simp at h
 | cons k ks ih=>
  intro vs r i v h;rw[Fi]at r;cases r with
  | cons r1 r2=>
   cases i with
   | zero=>
    have h:=Fw h;subst h;refine⟨k,rfl,?_⟩;cases k with
    | inl i=>obtain⟨t,rfl⟩:=r1;exact kK _ _
    | inr x=>obtain⟨t,rfl⟩:=r1;exact jA _ _
   | succ i=>exact ih r2 i v (by simpa using h)
theorem i8{k:Ky}(h:bI k v=true):RelV (kV k) v:=by
 rcases bH h with⟨i,t,rfl,rfl⟩|⟨x,t,rfl,rfl⟩
 ·exact⟨t,rfl⟩
 ·exact⟨t,rfl⟩
theorem ye{k:Ky}(h:bI k v=true):v.scannable=true:=by
 rcases bH h with⟨i,t,rfl,rfl⟩|⟨x,t,rfl,rfl⟩ <;> rfl
theorem kX{α:Type}{f:α->V}{xs:List (α×Value)}(h:∀ p∈xs,RelV (f p.1) p.2):Vals (xs.map fun p=>f p.1) (xs.map (·.2)):=by
 induction xs with
 | nil=>exact .nil
 | cons p r ih=>exact .cons (h p (Fd ..)) (ih fun q hq=>h q (Ff _ hq))
section
variable {X:Cx}
noncomputable def AF (K:PySem.W.Frag)(w:World):List V->Hp->VK->Prop:=fun vs H Q=>∃(l:Addr)(ks:List Ky),vs=[.ref l]/\SqL K H l (ks.map kV)/\ks.length<=60 ∧
 ∀(p:Addr) (ys:List Ky),H p=none->ys.Nodup->(∀ k,k∈ys↔k∈ks)->Q (.ref p) (upd H p (dS w p (ys.map kV)))
theorem xZ(hc:X.calm=true):aH X (.type "set") (AF X.K X.w):=by
 intro pins s σ H vs us Q I r h;obtain⟨l,ks,rfl,hl,h60,k⟩:=h;obtain⟨u,rfl,ru⟩:=vals1 r;cases ru
 obtain⟨its,rv,pl,hz⟩:=I.list hl;have hlen:ks.length=its.length:=by have:=rv.length;simpa using this
 have kind:=L2.az X.prog X.w;refine sX (J:=fun i h=>∃ xs,lQ (L2.az X.prog X.w) h s.heap.objs.size (cp X.w) xs/\xs.length<=i/\∀ k,k∈xs.map (·.1)↔k∈ks.take i) (I.ok.hd hc) pl.isList ?_ ?_ ?_ ?_
 ·intro h' hg _;refine⟨[],⟨_,#[],0,_,hg,⟨rfl,rfl,rfl⟩,rfl,⟨rfl,.inl rfl,rfl,fun a b _ hb=>absurd hb (Gy _),fun i j hj=>by simp [SetTable.fresh]at hj,fun i h j hh=>by simp at hh⟩,(by show 0*5<7*3;decide),rfl,rfl,GW,fun p hp=>by cases hp⟩,E7 _,fun k=>by simp⟩
 ·rintro i h h' ⟨xs,⟨o,es,ep,t,ho,r⟩,z⟩ keep;exact⟨xs,⟨o,es,ep,t,keep _ _ (FD (G3 _)) ho,r⟩,z⟩
 ·rintro i v A' s' Q' E' _ hv ⟨xs,hS,hxl,hxm⟩ q;have hv:its[i]? =some v:=by simpa using hv
  have hil:i<its.length:=(Fp.mp hv).1;obtain⟨k,hk,hkv⟩:=Ek (P:=X.prog) (w:=X.w) rv i v hv;unfold setAdd;refine F7 (E4 ((L2.az X.prog X.w).pyHash (k:=k) hkv ?_));refine EF (s:={ s' with toks:=s'.toks+1 }) hS hkv (ye hkv) (by lia) fun h' xs' r hsb hS' hp=>?_
  refine q h' (s'.toks+1) r hsb (Nat.le_succ _) ⟨xs',hS',?_,fun k'=>?_⟩
  ·rw[hp.length_eq]
   split
   ·lia
   ·rw[Fh,FZ];lia
  ·rw[(hp.map (·.1)).mem_iff];have e2:ks.take (i+1)=ks.take i++[k]:=by
    rw[List.take_succ,hk];rfl
   rw[e2,Fs,Fb,<-hxm]
   split
   ·rename_i hin
    constructor
    ·exact fun z=>.inl z
    ·rintro(z|rfl)
     ·exact z
     ·exact hin
   ·rw[Fc,Fs]
    simp
 ·rintro h' tk ⟨xs,⟨o,es,ep,t,ho,hex,hd,T,hr,hled,hes,hnd,hks⟩,hxl,hxm⟩ keep;have hev:es.toList.map (·.2)=xs.map (·.2):=by rw[hes,Fm];rfl
  have S:bK X.w h' s.heap.objs.size o es ep t:=⟨ho,hex,hd,T,by lia,hled⟩
  have rv2:Vals ((xs.map (·.1)).map kV) (es.toList.map (·.2)):=by
   rw[hev,Fm];exact kX (f:=kV) fun p hp=>i8 (hks p hp).1
  have I2:Inv X pins σ (upd H s.heap.objs.size (dS X.w s.heap.objs.size ((xs.map (·.1)).map kV))) { s with heap:=h',toks:=tk }:=I.laid keep (E7 _) (vm S rv2);refine⟨V.ref s.heap.objs.size,_,I2,rfl,k _ _ (I.hok.fresh (E7 _)) hnd fun k'=>?_⟩
  rw[hxm,FQ (by simp [hlen])]
noncomputable def zm (w:World):List V->Hp->VK->Prop:=fun vs H Q=>∃(p:Addr)(ys:List Ky)(b:Bool),vs=[.ref p]/\H p=some (dS w p (ys.map kV))/\ys.Nodup/\(∀ k∈ys,isI k=b)/\ys.length<64 ∧
 ∀ q:Addr,H q=none->Q (.ref q) (upd H q (.lst ((srt kLt ys).map kV)))
theorem sD(x:HOk P w H h)(e:H a=some (dS w a xs)):∃ o es ep t,bK w h a o es ep t/\Vals xs (es.toList.map (·.2)):=(x a _ e).1
theorem zf{α:Type}{f:α->V}{P:α->Value->Prop}(hf:∀ a v,RelV (f a) v->P a v):∀{ks:List α}{vs:List Value},Vals (ks.map f) vs->∃ xs:List (α×Value),xs.map (·.1)=ks/\xs.map (·.2)=vs/\∀ p∈xs,P p.1 p.2:=by
 intro ks;induction ks with
 | nil=>intro vs r;rw[GN]at r;cases r;exact⟨[],rfl,rfl,fun p hp=>by cases hp⟩
 | cons k ks ih=>
  intro vs r;rw[Fi]at r;cases r with
  | @cons _ u _ us r1 r2=>
   obtain⟨xs,h1,h2,h3⟩:=ih r2;refine⟨(k,u)::xs,by rw[Fi,h1],by rw[Fi,h2],fun p hp=>?_⟩
   rcases Fn.mp hp with rfl|hp
   ·exact hf _ _ r1
   ·exact h3 p hp
theorem qi{k:Ky}(r:RelV (kV k) v):bI k v=true:=by
 cases k with
 | inl i=>obtain⟨t,rfl⟩:=r;exact kK _ _
 | inr x=>obtain⟨t,rfl⟩:=r;exact jA _ _
theorem Inv.sG{d:Drawn}{tk:Nat}{o:HO}(I:Inv X pins σ H s)(k:∀ b u,s.heap.get? b=some u->h'.get? b=some u)(hp:s.heap.objs.size<=a)(new:au X.prog X.w (upd H a o) h' a o) :
  Inv X pins σ (upd H a o) { s with heap:=h',drawn:=d,toks:=tk }:=
 I.call (g':=s.gens) (ch:=[]) (Un.laid k hp (I.hok.fresh hp)) (I.hok.laid k hp new) I.bare fun b hb=>by cases hb
theorem oT{k k':Ky}(h1:L2.bI k v=true)(h2:L2.bI k' v=true):k=k':=by
 rcases L2.bH h1 with⟨i,t,e1,e2⟩|⟨x,t,e1,e2⟩ <;> rcases L2.bH h2 with⟨j,t',e3,e4⟩|⟨y,t',e3,e4⟩
 ·rw[e2]at e4;injection e4 with e5 _;rw[e1,e3,e5]
 ·rw[e2]at e4;cases e4
 ·rw[e2]at e4;cases e4
 ·rw[e2]at e4;injection e4 with e5 _;rw[e1,e3,e5]
theorem zR{ks ks':List Ky}(h:ItemsAre (L2.az P w) ks vs):ItemsAre (L2.az P w) ks' vs->ks=ks':=by
 induction h generalizing ks' with
 | nil=>
  intro h2;cases h2
  rfl
 | cons a b ih=>
  intro h2;cases h2 with
  | cons c d=>rw[oT a c,ih d]
theorem Bz{ks ks':List Ky}(h1:IsTupleKey (L2.az P w) h ks a)(h2:IsTupleKey (L2.az P w) h ks' a):ks=ks':=by
 obtain⟨o,its,n,ho,_,hd,hi⟩:=h1;obtain⟨o',its',n',ho',_,hd',hi'⟩:=h2;rw[ho]at ho';cases ho'
 rw[hd]at hd';cases hd'
 exact zR hi hi'
theorem xp(hc:X.calm=true):aH X (.builtin "sorted") (zm X.w):=by
 intro pins s σ H vs us Q I r h;obtain⟨p,ys,b,rfl,hp,nd,hb,h64,k⟩:=h;obtain⟨u,rfl,ru⟩:=vals1 r;cases ru
 obtain⟨o,es,ep,t,S,rv⟩:=sD I.hok hp;obtain⟨xs,e1,e2,e3⟩:=zf (f:=kV) (P:=fun k v=>bI k v=true) (fun _ _ r=>qi r) rv
 have hxl:xs.length=ys.length:=by rw[<-e1,E3]
 refine rC (I.ok.hd hc) S (dI b) (xs:=xs) e2.symm (by lia) (by rw[e1];exact nd) (fun p hp q hq e=>oT (e3 p hp) (e▸e3 q hq)) (fun q hq=>hb _ (by rw[<-e1];exact E5.mpr ⟨q,hq,rfl⟩)) oneType' ?_ ?_ ?_
 ·intro s1 zs hz _ h2 Q' q;exact uq (b:=b) (fun q hq=>⟨e3 q (hz.mem_iff.mp hq),hb _ (by rw[<-e1];exact E5.mpr ⟨q,hz.mem_iff.mp hq,rfl⟩)⟩) h2 q
 ·intro s1 _ x hx y hy C hC;refine ub (e3 x hx) (e3 y hy) ?_ hC;rw[hb x.1 (by rw[<-e1];exact E5.mpr ⟨x,hx,rfl⟩),hb y.1 (by rw[<-e1];exact E5.mpr ⟨y,hy,rfl⟩)]
 ·intro h' d tk D c out hpo hup keep hD hg;have ho:out.map (·.1)=srt kLt ys:=by
   refine iP (dI b) hb (fun k'=>?_) hup
   rw[<-e1]
   exact(hpo.map (·.1)).mem_iff
  have rv2:Vals ((srt kLt ys).map kV) (out.map (·.2)):=by
   rw[<-ho,Fm];exact kX (f:=kV) fun q hq=>i8 (e3 q (hpo.mem_iff.mp hq))
  have hol:out.length=ys.length:=by rw[hpo.length_eq,hxl]
  have I2:Inv X pins σ (upd H D (.lst ((srt kLt ys).map kV))) { s with heap:=h',drawn:=d,toks:=tk }:=
   SB.Inv.sG I keep hD (show au X.prog X.w _ h' D (.lst ((srt kLt ys).map kV)) from⟨by rw[<-ho,E3,E3,hol,Fz];lia,out.map (·.2),c,rv2,hg⟩)
  exact⟨V.ref D,_,I2,rfl,k D (I.hok.fresh hD)⟩
noncomputable def xA (K:PySem.W.Frag)(w:World):List V->Hp->VK->Prop:=fun vs H Q=>∃(l:Addr)(ps:List (List Ky×Addr)),vs=[.ref l]/\SqL K H l (ps.map fun p=>V.ref p.2)/\(∀ p∈ps,H p.2=some (.tup (p.1.map kV)))/\ps.length<=60 ∧
 ∀(p:Addr) (qs:List (List Ky×Addr)),H p=none->(qs.map (·.1)).Nodup->(∀ q∈qs,q∈ps)->(∀ k,k∈qs.map (·.1)↔k∈ps.map (·.1))->qs.length<=ps.length->Q (.ref p) (upd H p (dS w p (qs.map fun q=>V.ref q.2)))
theorem wm:∀{ks:List Ky}{vs:List Value},Vals (ks.map kV) vs->ItemsAre (L2.az P w) ks vs:=by
 intro ks;induction ks with
 | nil=>intro vs r;rw[GN]at r;cases r;exact .nil
 | cons k ks ih=>
  intro vs r;rw[Fi]at r;cases r with
  | cons r1 r2=>exact .cons (qi r1) (ih r2)
theorem qP(x:HOk P w H h){ks:List Ky}(e:H b=some (.tup (ks.map kV))):IsTupleKey (L2.az P w) h ks b:=by
 obtain⟨_,its,r,t⟩:=x b _ e;obtain⟨o,ho,hc,n,hd⟩:=t;exact⟨o,its.toArray,n,ho,hc,hd,by simpa using wm r⟩
theorem vj:∀{ps:List (List Ky×Addr)}{vs:List Value},Vals (ps.map fun p=>V.ref p.2) vs->vs=ps.map fun p=>Value.ref p.2:=by
 intro ps;induction ps with
 | nil=>intro vs r;rw[GN]at r;cases r;rfl
 | cons p ps ih=>
  intro vs r;rw[Fi]at r;cases r with
  | cons r1 r2=>rw[ih r2];cases r1;rfl
theorem mW:∀(ps:List (List Ky×Addr)),Vals (ps.map fun p=>V.ref p.2) (ps.map fun p=>Value.ref p.2)
 | []=>.nil
 | _::r=>.cons rfl (mW r)
theorem yG(hc:X.calm=true)(hu:X.A.units+64<cLine):aH X (.type "set") (xA X.K X.w):=by
 intro pins s σ H vs us Q I r h;obtain⟨l,ps,rfl,hl,htup,h60,k⟩:=h;obtain⟨u,rfl,ru⟩:=vals1 r;cases ru
 obtain⟨its,rv,pl,hz⟩:=I.list hl;have hits:=vj rv;subst hits;have hkey:∀ p∈ps,IsTupleKey (L2.az X.prog X.w) s.heap p.1 p.2:=fun p hp=>qP I.hok (htup p hp)
 have hlt:∀ p∈ps,p.2<s.heap.objs.size:=fun p hp=>I.hok.lt (htup p hp)
 refine sX (J:=fun i h=>(∀ p∈ps,IsTupleKey (L2.az X.prog X.w) h p.1 p.2)/\∃ xs,oz (L2.az X.prog X.w) h s.heap.objs.size (cp X.w) xs/\xs.length<=i/\(∀ q∈xs,q∈ps)/\∀ k,k∈xs.map (·.1)↔k∈(ps.take i).map (·.1)) (I.ok.hd hc) pl.isList ?_ ?_ ?_ ?_
 ·intro h' hg keep;refine⟨fun p hp=>?_,[],⟨_,#[],0,_,hg,⟨rfl,rfl,rfl⟩,rfl,⟨rfl,.inl rfl,rfl,fun a b _ hb=>absurd hb (Gy _),fun i j hj=>by simp [SetTable.fresh]at hj,fun i h j hh=>by simp at hh⟩,(by show 0*5<7*3;decide),rfl,rfl,GW,fun p hp=>by cases hp⟩,E7 _,(fun q hq=>nomatch hq),fun k=>by simp⟩
  obtain⟨o,items,n,ho,rest⟩:=hkey p hp;exact⟨o,items,n,keep _ _ ho,rest⟩
 ·rintro i h h' ⟨hk1,xs,⟨o,es,ep,t,ho,h1,h2,h3,h4,h5,h6,h7,h8⟩,hxl,hin,z⟩ keep;have mv:∀ p∈ps,IsTupleKey (L2.az X.prog X.w) h' p.1 p.2:=fun p hp=>by
   obtain⟨o,items,n,ho,rest⟩:=hk1 p hp;exact⟨o,items,n,keep _ _ (FD (Nat.lt_succ_of_lt (hlt p hp))) ho,rest⟩
  exact⟨mv,xs,⟨o,es,ep,t,keep _ _ (FD (G3 _)) ho,h1,h2,h3,h4,h5,h6,h7,fun p hp=>mv p (hin p hp)⟩,hxl,hin,z⟩
 ·rintro i v A' s' Q' E' hA hv ⟨hk1,xs,hS,hxl,hin,hxm⟩ q;have hv:(ps.map fun p=>Value.ref p.2)[i]? =some v:=by simpa using hv
  rw[E9,Fl]at hv;obtain⟨p,hp,rfl⟩:=hv;have hpm:=Fe hp;have hil:i<ps.length:=(Fp.mp hp).1;unfold setAdd;have hu':A'.units<cLine:=by lia
  refine F7 (E4 (wpAny_pyHash_tuple hu' (hk1 p hpm) ?_));refine xf (s:={ s' with toks:=s'.toks+(p.1.length+1) }) hS (hk1 p hpm) hu' (by lia) fun h' xs' r hsb hS' hp'=>?_
  have mv:∀ p∈ps,IsTupleKey (L2.az X.prog X.w) h' p.1 p.2:=fun p hp=>by
   obtain⟨o,items,n,ho,rest⟩:=hk1 p hp;exact⟨o,items,n,(hsb.2 _ (FD (hlt p hp))).trans ho,rest⟩
  refine q h' (s'.toks+(p.1.length+1)) r hsb (Nat.le_add_right _ _) ⟨mv,xs',hS',?_,fun q' hq'=>?_,fun k'=>?_⟩
  ·rw[hp'.length_eq]
   split
   ·lia
   ·rw[Fh,FZ];lia
  ·have:=hp'.mem_iff.mp hq'
   split at this
   ·exact hin _ this
   ·rcases Fs.mp this with z|z
    ·exact hin _ z
    ·rw[Fb]at z;subst z;exact hpm
  ·rw[(hp'.map (·.1)).mem_iff];have e2:ps.take (i+1)=ps.take i++[p]:=by
    rw[List.take_succ,hp];rfl
   rw[e2,Fc,Fs,Fi,GN,Fb,<-hxm]
   split
   ·rename_i hin'
    constructor
    ·exact fun z=>.inl z
    ·rintro(z|rfl)
     ·exact z
     ·exact hin'
   ·rw[Fc,Fs]
    simp
 ·rintro h' tk ⟨hk1,xs,⟨o,es,ep,t,ho,hex,hd,T,hr,hled,hes,hnd,hks⟩,hxl,hin,hxm⟩ keep;have S:bK X.w h' s.heap.objs.size o es ep t:=⟨ho,hex,hd,T,by lia,hled⟩
  have rv2:Vals (xs.map fun q=>V.ref q.2) (es.toList.map (·.2)):=by
   rw[hes,Fm];exact mW xs
  have I2:Inv X pins σ (upd H s.heap.objs.size (dS X.w s.heap.objs.size (xs.map fun q=>V.ref q.2))) { s with heap:=h',toks:=tk }:=I.laid keep (E7 _) (vm S rv2)
  refine⟨V.ref s.heap.objs.size,_,I2,rfl,k _ xs (I.hok.fresh (E7 _)) hnd hin (fun k'=>?_) (by simpa using hxl)⟩
  rw[hxm,FQ (by simp)]
noncomputable def wa (w:World):List V->Hp->VK->Prop:=fun vs H Q=>∃(p:Addr)(qs:List (List Ky×Addr))(sh:List Bool),vs=[.ref p]/\H p=some (dS w p (qs.map fun q=>V.ref q.2))/\(qs.map (·.1)).Nodup/\(∀ q∈qs,H q.2=some (.tup (q.1.map kV))/\q.1.map isI=true::sh)/\qs.length<64 ∧
 ∀(d:Addr) (out:List (List Ky×Addr)),H d=none->out.map (·.1)=srt cT (qs.map (·.1))->(∀ q∈out,q∈qs)->out.length=qs.length->Q (.ref d) (upd H d (.lst (out.map fun q=>V.ref q.2)))
theorem Dk(hc:X.calm=true):aH X (.builtin "sorted") (wa X.w):=by
 intro pins s σ H vs us Q I r h;obtain⟨p,qs,sh,rfl,hp,nd,hq,h64,k⟩:=h;obtain⟨u,rfl,ru⟩:=vals1 r;cases ru
 obtain⟨o,es,ep,t,S,rv⟩:=sD I.hok hp;have hits:=vj rv;have hok:∀ k∈qs.map (·.1),k.map isI=true::sh:=fun k hk=>by
  obtain⟨q,hq',rfl⟩:=E5.mp hk
  exact(hq q hq').2
 have hkey:∀ q∈qs,IsTupleKey (L2.az X.prog X.w) s.heap q.1 q.2:=fun q hq'=>qP I.hok (hq q hq').1
 have mvk:∀(s1:Shared),(∀ b o,s.heap.get? b=some o->s1.heap.get? b=some o)->∀ q∈qs,IsTupleKey (L2.az X.prog X.w) s1.heap q.1 q.2:=fun s1 keep q hq'=>by
  obtain⟨o,items,n,ho,rest⟩:=hkey q hq';exact⟨o,items,n,keep _ _ ho,rest⟩
 have hxs:(qs.map fun q=>(q.1,Value.ref q.2)).map (·.1)=qs.map (·.1):=by rw[Fm];rfl
 have hmem:∀{x:List Ky×Value},x∈(qs.map fun q=>(q.1,Value.ref q.2))->∃ q∈qs,x=(q.1,Value.ref q.2):=fun {x} hx=>by
  obtain⟨q,hq',rfl⟩:=E5.mp hx;exact⟨q,hq',rfl⟩
 refine rC (I.ok.hd hc) S (lN (true::sh)) (xs:=qs.map fun q=>(q.1,Value.ref q.2)) (by rw[hits,Fm];rfl) (by rw[E3];exact h64) (by rw[hxs];exact nd) (fun x hx y hy e=>?_) (fun x hx=>?_) (tuples' true) ?_ ?_ ?_
 ·obtain⟨q1,hq1,rfl⟩:=hmem hx;obtain⟨q2,hq2,rfl⟩:=hmem hy;injection e with e;have k1:=hkey q1 hq1;rw[e]at k1;exact Bz k1 (hkey q2 hq2)
 ·obtain⟨q,hq',rfl⟩:=hmem hx
  exact(hq q hq').2
 ·intro s1 zs hz keep h2 Q' q;refine C0 (sh:=sh) (fun x hx=>?_) h2 q
  obtain⟨q',hq',rfl⟩:=hmem (hz.mem_iff.mp hx);exact⟨⟨q'.2,rfl,mvk s1 keep q' hq'⟩,(hq q' hq').2⟩
 ·intro s1 keep x hx y hy C hC;obtain⟨q1,hq1,rfl⟩:=hmem hx;obtain⟨q2,hq2,rfl⟩:=hmem hy;exact Bo (mvk s1 keep q1 hq1) (mvk s1 keep q2 hq2) (by rw[(hq q1 hq1).2,(hq q2 hq2).2]) true hC
 ·intro h' d tk D c out hpo hup keep hD hg;obtain⟨out2,hp2,ho2⟩:∃ out2:List (List Ky×Addr),out2.Perm qs/\out=out2.map fun q=>(q.1,Value.ref q.2):=g0 hpo
  have e1:out.map (·.1)=out2.map (·.1):=by rw[ho2,Fm];rfl
  have e2:out.map (·.2)=out2.map fun q=>Value.ref q.2:=by rw[ho2,Fm];rfl
  have ho:out2.map (·.1)=srt cT (qs.map (·.1)):=by
   refine iP (lN (true::sh)) hok (fun k'=>(hp2.map (·.1)).mem_iff) ?_
   rw[<-e1];exact hup
  have I2:Inv X pins σ (upd H D (.lst (out2.map fun q=>V.ref q.2))) { s with heap:=h',drawn:=d,toks:=tk }:=
   SB.Inv.sG I keep hD (show au X.prog X.w _ h' D (.lst (out2.map fun q=>V.ref q.2)) from⟨by rw[E3,hp2.length_eq,Fz];lia,out.map (·.2),c,by rw[e2];exact mW out2,hg⟩)
  exact⟨V.ref D,_,I2,rfl,k D out2 (I.hok.fresh hD) ho (fun q hq'=>hp2.mem_iff.mp hq') hp2.length_eq⟩
end
end SB
end
section
namespace SB
open PySem PySem.Spec PyProof.Rows L2
noncomputable def ba (env:Env):List (Str×NameKind)->List (Str×Addr)->List (Str×Addr)
 | [],cs=>cs
 | (n,k)::r,cs=>ba env r (if k=.free then(n,(env.cells.lookup n).getD 0)::cs else cs)
theorem vc(env:Env):∀(l:List (Str×NameKind))(cs:List (Str×Addr)),(∀ n k,(n,k)∈l->k=.free->∃ c,env.cells.lookup n=some c) →
  (forIn l cs fun(x:Str×NameKind) (r:List (Str×Addr))=>(if (x.2==.free)=true then do
    let a <-cellOf env x.1
    pure (ForInStep.yield ((x.1,a)::r))
   else pure (ForInStep.yield r):Sem (ForInStep (List (Str×Addr)))))=pure (ba env l cs)
 | [],cs,_=>by rw[List.forIn_nil];rfl
 | (n,k)::r,cs,h=>by
  rw[List.forIn_cons];have ih:=fun cs'=>vc env r cs' fun n' k' hm=>h n' k' (Ff _ hm)
  by_cases q:k=.free
  ·subst q;obtain⟨c,hc⟩:=h n .free (Fd ..) rfl;dsimp only;rw[if_pos (by rfl)]
   have ec:cellOf env n=pure c:=by unfold cellOf;rw[hc]
   rw[ec]
   show(forIn r ((n,c)::cs) _:Sem _)=_
   rw[ih]
   conv=>rhs;unfold ba
   rw[if_pos rfl,hc];rfl
  ·have q':(k==NameKind.free)=false:=by simpa using q
   dsimp only;rw[q']
   show(forIn r cs _:Sem _)=_
   rw[ih]
   conv=>rhs;unfold ba
   rw[if_neg q]
theorem mD(h:∀ n k,(n,k)∈scope.names->k=.free->∃ c,env.cells.lookup n=some c):closureFor scope env=pure (ba env scope.names []):=by
 unfold closureFor;have e:=vc env scope.names [] h
 show(forIn scope.names [] _ >>= fun r=>pure r)=_
 rw[bind_pure];exact e
theorem kI(env:Env):∀(l:List (Str×NameKind))(cs:List (Str×Addr)),(∀ n k,(n,k)∈l->k=.free->∃ c,env.cells.lookup n=some c)->(∀ x c,cs.lookup x=some c->env.cells.lookup x=some c) →
  ∀ x c,(ba env l cs).lookup x=some c->env.cells.lookup x=some c
 | [],cs,_,hc=>hc
 | (n,k)::r,cs,h,hc=>by
  unfold ba;refine kI env r _ (fun n' k' hm=>h n' k' (Ff _ hm)) fun x c hx=>?_
  split at hx
  ·rename_i q
   obtain⟨c',hc'⟩:=h n k (Fd ..) q;rw[hc']at hx;rw[GC]at hx
   split at hx
   ·rename_i e
    have e:x=n:=by simpa using e
    subst e;rw[hc'];exact hx
   ·exact hc x c hx
  ·exact hc x c hx
theorem i6(env:Env):∀(l:List (Str×NameKind))(cs:List (Str×Addr))(x:Str),((x,NameKind.free)∈l\/∃ c,cs.lookup x=some c)->∃ c,(ba env l cs).lookup x=some c
 | [],cs,x,h=>by
  rcases h with h|h
  ·cases h
  ·exact h
 | (n,k)::r,cs,x,h=>by
  unfold ba;refine i6 env r _ x ?_;rcases h with h|⟨c,h⟩
  ·rcases Fn.mp h with e|h
   ·right
    have e1:x=n:=congrArg Prod.fst e;have e2:NameKind.free=k:=congrArg Prod.snd e;subst e1;subst e2
    rw[if_pos rfl];exact⟨_,by rw[GC];simp;rfl⟩
   ·exact .inl h
  ·right
   split
   ·rw[GC]
    split
    ·exact⟨_,rfl⟩
    ·exact⟨c,h⟩
   ·exact⟨c,h⟩
noncomputable abbrev bo (X:Cx)(scope:Scope)(C:Addr)(N':List Str)(s₁:Shared)(H₁:Hp)(ex:List Addr):Cx:=
 { X with N:=N',s₀:=s₁,H₀:=H₁,env:=compEnvC scope (ba X.env scope.names []) C X.env,outer:=X.stack,ex:=ex,fn:=fun _=>false,pn:=[],xe:=fun _ _=>False }
structure gW (N:List Str)(env:Env)(scope:Scope)(N':List Str)(fr:List (Option Nat)):Prop where
 kind:scope.kind=.function
 ekind:env.scope.kind=.function
 len:N'.length=fr.length
 nocell:∀ y∈scope.names,y.2≠.cell
 names:∀ y∈scope.names,y.2=.local->scope.names.lookup y.1=some .local
 frees:∀ y∈scope.names,y.2=.free->env.scope.names.lookup y.1=some .cell\/env.scope.names.lookup y.1=some .free
 slots:∀(i j:Nat) (x:Str),fr[i]? =some (some j)->N'[i]? =some x->N[j]? =some x/\(x,NameKind.free)∈scope.names/\((relabel scope env).names.lookup x=some .cell\/(relabel scope env).names.lookup x=some .free)
noncomputable def frV (fr:List (Option Nat))(σ:L2.St):L2.St:=fr.map fun o=>o.bind fun j=>(σ[j]?).bind id
theorem zu(h:(relabel scope env).names.lookup x=some .cell\/(relabel scope env).names.lookup x=some .free)(hn:∀ y∈scope.names,y.2≠.cell):(x,NameKind.free)∈scope.names:=by
 have gen:∀(l:List (Str×NameKind)),(∀ y∈l,y.2≠.cell)->∀ k,(l.map fun(n,k)=>if (k==.free&&env.scope.kind==.function&&env.kindOf n==some .cell) then(n,NameKind.cell) else(n,k)).lookup x=some k->k=.cell\/k=.free->(x,NameKind.free)∈l:=by
  intro l;induction l with
  | nil=>intro _ k h;simp at h
  | cons p r ih=>
   obtain⟨n,kd⟩:=p;intro hn k h hk;have hn':=fun y hy=>hn y (Ff _ hy)
   rw[Fi]at h
   by_cases q:x=n
   ·subst q;dsimp only at h
    by_cases c:(kd==NameKind.free&&env.scope.kind==.function&&env.kindOf x==some .cell)=true
    ·have:kd=.free:=by
      rw[F1,F1]at c;simpa using c.1.1
     subst this;exact Fd ..
    ·rw[if_neg c,GC]at h;simp at h;subst h;rcases hk with e|e
     ·exact absurd e (hn (x,kd) (Fd ..))
     ·subst e;exact Fd ..
   ·refine Ff _ (ih hn' k ?_ hk);dsimp only at h;have qb:(x==n)=false:=by simpa using q
    by_cases c:(kd==NameKind.free&&env.scope.kind==.function&&env.kindOf n==some .cell)=true
    ·rw[if_pos c,GC,qb]at h;exact h
    ·rw[if_neg c,GC,qb]at h;exact h
 rcases h with h|h
 ·exact gen scope.names hn _ h (.inl rfl)
 ·exact gen scope.names hn _ h (.inr rfl)
section
variable {X:Cx}{pins:List (Addr×Obj)}{σ:L2.St}{H:Hp}{s:Shared}
theorem kN{fr:List (Option Nat)}(I:Inv X pins σ H s)(S:gW X.N X.env scope N' fr):∀ n k,(n,k)∈scope.names->k=.free->∃ c,X.env.cells.lookup n=some c:=fun n k hm e=>by
 refine I.ok.has n ?_;exact S.frees (n,k) hm e
theorem Aj{fr:List (Option Nat)}{fp:List Addr}{m:Str->Option Value}(I:Inv X pins σ H s)(S:gW X.N X.env scope N' fr)(hfp:∀ b∈fp,dR X pins H b)(hin:∀ b∈fp,b<s.heap.objs.size)(hn:h'.Ns s.heap.objs.size m)(keep:∀ b o,s.heap.get? b=some o->h'.get? b=some o) :
  Inv (bo X scope s.heap.objs.size N' s H fp) (X.pn++pins) (frV fr σ) H { s with heap:=h' }:=by
 have hcl:=kN I S;have cg:=kI X.env scope.names [] hcl (fun x c h=>by simp at h)
 have hfresh:H s.heap.objs.size=none:=I.hok.fresh (E7 _);have cellK:∀ x c,X.env.cells.lookup x=some c->∀ v,s.heap.IsCell c v->h'.IsCell c v:=fun x c _ v ⟨o,ho,hd⟩=>⟨o,keep c o ho,hd⟩
 have hokd:HOk X.prog X.w H h':=I.hok.kept keep;refine⟨⟨I.ok.mod,S.kind,I.ok.glob,I.ok.blt,E7 _,fun x y c h1 h2=>I.ok.inj x y c (cg x c h1) (cg y c h2),fun x hx=>?_,fun x c h=>Bool.noConfusion h,I.ok.hd,I.ok.frames,.inl rfl,fun b hb=>⟨FD (hin b hb),fun x c hx=>(hfp b hb).2.2.2.2.1 x c (cg x c hx)⟩,
   I.bs,FL I.ok.bsz I.sz,fun b o e hb=>?_,fun b hb z=>?_,I.stack,I.oH⟩,rfl,I.bare,Un.kept keep,⟨m,hn,fun i x v h1 h2 h3=>?_⟩,fun x c hx=>?_,hfresh,fun x c hx=>I.freeC x c (cg x c hx),fun p hp=>?_,hokd,?_⟩
 ·exact i6 X.env scope.names [] x (.inl (zu hx S.nocell))
 ·rcases(hfp b hb).2.2.2.1 with z|z
  ·exact I.ok.noex b o e z
  ·exact absurd (FJ (Ft e) (FL I.ok.bsz z)) (Gm _)
 ·rcases Fn.mp (I.fC b z) with e|e
  ·exact(hfp b hb).2.1 e
  ·exact(hfp b hb).2.2.1 e
 ·unfold frV at h2;rw[E9,Fl]at h2;obtain⟨o,ho,h2⟩:=h2;cases o with
  | none=>cases h2
  | some j=>
   obtain⟨a1,a2,a3⟩:=S.slots i j x ho h1;have hσ:σ[j]? =some (some v):=by
    cases e:σ[j]? with
    | none=>rw[Option.bind_some,e]at h2;cases h2
    | some w=>rw[Option.bind_some,e]at h2;have h2:w=some v:=h2;rw[h2]
   have hkind:X.env.kindOf x=some .cell\/X.env.kindOf x=some .free:=S.frees _ a2 rfl;obtain⟨m0,_,hl⟩:=I.loc;obtain⟨u,r,lk⟩:=hl j x v a1 hσ (by rcases hkind with e|e;exact .inr (.inl e);exact .inr (.inr e))
   refine⟨u,r,.inr ⟨a3,?_⟩⟩;obtain⟨c,hc⟩:=i6 X.env scope.names [] x (.inl a2);refine⟨c,hc,?_⟩;have hc':=cg x c hc;rcases lk with⟨e,_⟩|⟨_,c2,e2,z⟩
   ·rcases hkind with e'|e' <;> (rw[e']at e;cases e)
   ·rw[hc']at e2;cases e2
    exact cellK x c hc' _ z
 ·obtain⟨v,z⟩:=I.cell x c (cg x c hx);exact⟨v,cellK x c (cg x c hx) v z⟩
 ·obtain⟨e,n,ne,nf,d⟩:=I.pin p (by simpa using hp)
  refine⟨keep _ _ e,n,FD (Ft e),fun z=>?_,d⟩
  rcases Fn.mp (I.fC _ z) with q|q
  ·exact ne q
  ·exact nf q
 ·unfold frV;rw[E3];exact S.len.symm
end
theorem DX{R:Result->Shared->Prop}{target:Expr}{it acc:Value}(J:Nat->Shared->Prop)(turn:∀ n s,J n s->wpAny (model prog w) A (pyNext it) (fun r s₁=>match r with
   | none=>R (.ok .next) s₁
   | some v=>wpAny (model prog w) A (letOwnedTupleGo target it v) (fun _ s₂=>wpAny (model prog w) A (assign target env v) (fun _ s₃=>
     wpAny (model prog w) A (forIn ifs true fun c r=>if r=true then do let ok <-isTrue c env (eval c env);pure (ForInStep.yield ok) else pure (ForInStep.yield r)) (fun ok s₄=>
      if ok=true then wpAny (model prog w) A (eval elt env) (fun x s₅=>
       wpAny (model prog w) A (call (.builtin "list.append") [acc,x]) (fun _ s₆=>∃ m,m<n/\J m s₆) (fun _ _=>False) s₅) (fun _ _=>False) s₄
      else ∃ m,m<n/\J m s₄) (fun _ _=>False) s₃) (fun _ _=>False) s₂) (fun _ _=>False) s₁) (fun _ _=>False) s) (n:Nat) (h:J n s):codeAny (model prog w) A (.compLoop (.ListComp elt [⟨target,iter,ifs,0⟩] scope pos) 0 it acc env) R s:=by
 refine codeAny_loop rfl J (fun n s hJ=>?_) n h
 show wpAny _ A ((compTurn (.ListComp elt [⟨target,iter,ifs,0⟩] scope pos) 0 it acc env).onRaise (fun x=>do noteFrame x env;theTreesLotGoes x)) _ _ s
 refine wpAny_noted ?_;rw[compTurn_list];refine E4 (wpAny_standAt (E4 (Gf (turn n s hJ) (fun r s₁ h₁=>?_) fun _ _ z=>z.elim)))
 cases r with
 | none=>exact E6 h₁
 | some v=>
  refine E4 (Gf h₁ (fun _ s₂ h₂=>?_) fun _ _ z=>z.elim)
  refine E4 (Gf h₂ (fun _ s₃ h₃=>E4 (Gf h₃ (fun ok s₄ h₄=>?_) fun _ _ z=>z.elim)) fun _ _ z=>z.elim)
  cases ok with
  | false=>exact E6 ⟨rfl,h₄⟩
  | true=>
   exact E4 (E4 (Gf h₄ (fun x s₅ h₅=>E4 (Gf h₅ (fun _ s₆ h₆=>E6 (E6 ⟨rfl,h₆⟩)) fun _ _ z=>z.elim)) fun _ _ z=>z.elim))
noncomputable def PIf (X:Cx)(ifs:List Expr)(t:TT):Prop:=
 ∀(pins:List (Addr×Obj)) (s:Shared) (σ:L2.St) (H:Hp) (Q:Bool->Hp->Prop),Inv X pins σ H s->t σ H Q →
  wpAny (model X.prog X.w) X.A (forIn ifs true fun c r=>if r=true then do let ok <-isTrue c X.env (eval c X.env);pure (ForInStep.yield ok) else pure (ForInStep.yield r)) (TP X pins σ Q) X.xe s
theorem p8:PIf X [] (fun _ H Q=>Q true H):=by
 intro pins s σ H Q I h;rw[List.forIn_nil];exact E6 ⟨H,I,h⟩
theorem uM{c:Expr}{t:TT}(hc:PT X c t):PIf X [c] t:=by
 intro pins s σ H Q I h;rw[List.forIn_cons];simp only[if_true];refine E4 (E4 (thn (hc pins s σ H Q I h) fun b s1 h1=>E6 ?_))
 dsimp only;rw[List.forIn_nil];exact E6 h1
noncomputable def cQ (fr:List (Option Nat))(σ σ':L2.St):Prop:=∀(k:Nat) v,(frV fr σ)[k]? =some (some v)->σ'[k]? =some (some v)
theorem bY{fr:List (Option Nat)}{w:Option V}(h:fr[i]? =some none):cQ fr σ ((frV fr σ).set i w):=fun k v e=>by
 rw[List.getElem?_set]
 by_cases q:i=k
 ·subst q;unfold frV at e;rw[E9,h]at e;cases e
 ·rw[if_neg q];exact e
noncomputable def tU (fr:List (Option Nat))(wi:TI)(g:TG)(tif:TT)(te:TE):TE:=fun σ H Q=>wi σ H fun J H1=>∀ D:Addr,H1 D=none →
 ∃ W:Nat->Nat->List V->Hp->Prop,(∃ m,W 0 m [] (upd H1 D (.lst [])))/\∀ i m acc H,W i m acc H->H D=some (.lst acc)/\acc.length<sizeLine ∧
  ((J.stop i H/\Q (.ref D) H)\/(J.go i H/\∀ x H2,J.yld i H x H2->g x (frV fr σ) H2 fun σ' H3=>cQ fr σ σ'/\tif σ' H3 fun b H4=>
   if b=true then te σ' H4 fun y H5=>H5 D=some (.lst acc)/\∃ m',m'<m/\W (i+1) m' (acc++[y]) (upd H5 D (.lst (acc++[y]))) else ∃ m',m'<m/\W (i+1) m' acc H4))
section
variable {X:Cx}
theorem vn{fr:List (Option Nat)}{g:TG}(hc:X.calm=true)(S:gW X.N X.env scope N' fr)(hg:∀ C s₁ H₁ ex,PG (bo X scope C N' s₁ H₁ ex) tg g)(hif:∀ C s₁ H₁ ex,PIf (bo X scope C N' s₁ H₁ ex) ifs tif)(he:∀ C s₁ H₁ ex,PE (bo X scope C N' s₁ H₁ ex) elt te){s2:Shared}{fp:List Addr}{tn:Nat->Heap->Prop}{J:It}{Q:VK}(I2:Inv X pins σ H2 s2)(T:Turn X.prog X.w X.K tg J fp it tn)(st2:tn 0 s2.heap)(f2:∀ b∈fp,dR X pins H2 b){RR:Value->Addr->Result->Shared->Prop}(hRR:∀(D C:Addr)(s':Shared)(H':Hp)(m:Str->Option Value),s'.heap.Ns C m->C≠X.env.locals->(H' C=none/\X.s₀.heap.objs.size<=C/\(∀ x c,X.env.cells.lookup x=some c->c≠C)/\∀ p∈X.pn++pins,p.1≠C)->(∀ h',Heap.SameBut C s'.heap h'->Inv X pins σ H' { s' with heap:=h' })->Q (.ref D) H'->RR (.ref D) C (.ok .next) s')(hW:∀ D:Addr,H2 D=none->∃ W:Nat->Nat->List V->Hp->Prop,(∃ m,W 0 m [] (upd H2 D (.lst [])))/\∀ i m acc H,W i m acc H->H D=some (.lst acc)/\acc.length<sizeLine ∧
   ((J.stop i H/\Q (.ref D) H)\/(J.go i H/\∀ x H2,J.yld i H x H2->g x (frV fr σ) H2 fun σ' H3=>cQ fr σ σ'/\tif σ' H3 fun b H4=>
    if b=true then te σ' H4 fun y H5=>H5 D=some (.lst acc)/\∃ m',m'<m/\W (i+1) m' (acc++[y]) (upd H5 D (.lst (acc++[y]))) else ∃ m',m'<m/\W (i+1) m' acc H4))) :
  wpAny (model X.prog X.w) X.A (newList []) (fun acc s₃=>wpAny (model X.prog X.w) X.A (newFunctionEnv scope X.env.globals (ba X.env scope.names []) [] X.env.qual none .none (some X.env)) (fun cenv s₄=>
   codeAny (model X.prog X.w) X.A (.compStart (.ListComp elt [⟨tg,iter,ifs,0⟩] scope pos) 0 (.ref it) acc { cenv with scope:=relabel scope X.env }) (RR acc cenv.locals) s₄) X.xe s₃) X.xe s2:=by
 refine Gu ?_;have I3:Inv X pins σ (upd H2 s2.heap.objs.size (.lst [])) { s2 with heap:=s2.heap.push { cls:=.type "list",dict:=none,data:=.seq ([]:List Value).toArray } }:=
  I2.laid (t':=s2.toks) (fun b u e=>E8 _ e) (E7 _) (show au X.prog X.w _ _ _ (.lst []) from⟨FG _,[],0,.nil,Fv _ rfl⟩)
 generalize hs3:({ s2 with heap:=s2.heap.push { cls:=.type "list",dict:=none,data:=.seq ([]:List Value).toArray } }:Shared)=s3 at I3
 have hfree:H2 s2.heap.objs.size=none:=I2.hok.fresh (E7 _);obtain⟨W,⟨m0,w0⟩,turn⟩:=hW _ hfree;generalize hD:s2.heap.objs.size=D at *;have hsz:s3.heap.objs.size=D+1:=by rw[<-hs3,<-hD];exact GG ..
 have hin:∀ b∈fp,b<s3.heap.objs.size:=fun b hb=>by
  obtain⟨o,e,_⟩:=T.obj _ _ st2 b hb;rw[hsz];exact Nat.lt_succ_of_lt (hD▸Ft e)
 have hneD:∀ b∈fp,b≠D:=fun b hb z=>by
  obtain⟨o,e,_⟩:=T.obj _ _ st2 b hb;exact absurd (z▸Ft e) (hD▸Gm _)
 have f3:∀ b∈fp,dR X pins (upd H2 D (.lst [])) b:=fun b hb=>⟨by rw[ar (hneD b hb)];exact(f2 b hb).1,(f2 b hb).2⟩
 have st3:tn 0 s3.heap:=T.keep _ _ _ st2 fun b hb o e=>by rw[<-hs3];exact E8 _ e
 refine wpAny_newFunctionEnv (s:=s3) S.nocell (by intro y hy;simp at hy) (fun h1 hns1 hsb1=>?_) S.kind
 have keep1:∀ b o,s3.heap.get? b=some o->h1.get? b=some o:=fun b o e=>hsb1.extBut b o (FD (Ft e)) (E8 _ e)
 have I4:=Aj I3 S f3 hin hns1 keep1;have f4:∀{H':Hp},(∀ b∈fp,H' b=none)->∀ b∈fp,dR (bo X scope s3.heap.objs.size N' s3 (upd H2 D (.lst [])) fp) (X.pn++pins) H' b:=fun {H'} hn b hb=>by
  obtain⟨a1,a2,a3,a4,a5,a6⟩:=f3 b hb;have cg:=kI X.env scope.names [] (kN I3 S) (fun x c h=>by simp at h)
  refine⟨hn b hb,FD (hin b hb),fun z=>?_,.inl hb,fun x c hx=>a5 x c (cg x c hx),fun p hp=>a6 p (by simpa using hp)⟩
  rcases Fn.mp (I3.fC b z) with e|e
  ·exact a2 e
  ·exact a3 e
 have st4:tn 0 h1:=T.keep _ _ _ st3 fun b hb o e=>keep1 b o e
 have loop:codeAny (model X.prog X.w) X.A (.compLoop (.ListComp elt [⟨tg,iter,ifs,0⟩] scope pos) 0 (.ref it) (.ref D) (compEnvC scope (ba X.env scope.names []) s3.heap.objs.size X.env)) (RR (.ref D) s3.heap.objs.size) { s3 with heap:=h1 }:=by
  refine DX (fun n s'=>∃ i acc H',Inv (bo X scope s3.heap.objs.size N' s3 (upd H2 D (.lst [])) fp) (X.pn++pins) (frV fr σ) H' s'/\tn i s'.heap/\(∀ b∈fp,H' b=none)/\W i n acc H') ?_ m0 ⟨0,[],_,I4,st4,fun b hb=>(f3 b hb).1,w0⟩
  rintro n s5 ⟨i,acc,H5,I5,st5,fr5,w5⟩;obtain⟨hDl,hlen,alt⟩:=turn i n acc H5 w5;rcases alt with⟨stop,qn⟩|⟨go,step⟩
  ·refine thn (T.done (bo X scope s3.heap.objs.size N' s3 (upd H2 D (.lst [])) fp) rfl rfl rfl hc i _ s5 _ H5 (fun _ _=>False) I5 (f4 fr5) st5 stop) fun r s6 hZ=>?_
   obtain⟨hr,I6⟩:=hZ;subst hr;obtain⟨m6,hn6,_⟩:=I6.loc;refine hRR D s3.heap.objs.size s6 H5 m6 hn6 (GY I3.lt) ⟨I6.free,I3.sz,fun x c hx z=>?_,fun p hp z=>?_⟩ (fun h' hsb=>?_) qn
   ·obtain⟨v,q⟩:=I3.cell x c hx;exact absurd (z▸q.lt) (Gm _)
   ·exact absurd (z▸Ft (I3.pin p hp).1) (Gm _)
   have I7:Inv X pins σ H5 s6:=I3.AZ I6.os I6.base I6.hok I6.bare fun b hb=>⟨(f3 b hb).2.2.2.1,(f3 b hb).2.1,(f3 b hb).2.2.2.2.1,(f3 b hb).2.2.2.2.2⟩
   have e6:s6={ s6 with toks:=s6.toks }:=by cases s6;rfl
   refine I7.turned (t':=s6.toks) (it:=s3.heap.objs.size) (fun b o hb e=>hsb.extBut b o hb e) I6.free (GY I3.lt) (.inr I3.sz) (fun x c hx z=>?_) fun p hp z=>?_
   ·obtain⟨v,q⟩:=I3.cell x c hx;exact absurd (z▸q.lt) (Gm _)
   ·exact absurd (z▸Ft (I3.pin p hp).1) (Gm _)
  ·refine thn (T.item (bo X scope s3.heap.objs.size N' s3 (upd H2 D (.lst [])) fp) rfl rfl rfl hc i _ s5 _ H5 (fun _ _=>False) I5 (f4 fr5) st5 go) fun r s6 hZ=>?_
   obtain⟨u,hr,h6⟩:=hZ;subst hr;refine thn h6 fun _ s7 hZ=>?_
   obtain⟨x,H7,I7,r7,y7,st7,fr7⟩:=hZ;have I7':=I7.pinned (f4 fr7) (T.obj _ _ st7);refine thn (hg _ _ _ _ _ s7 _ H7 x u _ I7' r7 (step x H7 y7)) fun _ s8 hZ=>?_
   obtain⟨σ8,H8,I8,hσ8,q8⟩:=hZ;refine thn (hif _ _ _ _ _ s8 σ8 H8 _ I8 q8) fun ok s9 hZ=>?_
   obtain⟨H9,I9,q9⟩:=hZ;have back:∀{σ':L2.St} {H':Hp} {s':Shared} {a':List V},Inv (bo X scope s3.heap.objs.size N' s3 (upd H2 D (.lst [])) fp) (X.pn++pins++ie fp s7.heap) σ' H' s'->(∃ m',m'<n/\W (i+1) m' a' H')->(∀(k:Nat) v,(frV fr σ)[k]? =some (some v)->σ'[k]? =some (some v)) →
     ∃ m,m<n/\∃ i acc H',Inv (bo X scope s3.heap.objs.size N' s3 (upd H2 D (.lst [])) fp) (X.pn++pins) (frV fr σ) H' s'/\tn i s'.heap/\(∀ b∈fp,H' b=none)/\W i m acc H':=fun {σ' H' s' a'} I' ⟨m',hm,w'⟩ hσ=>by
    refine⟨m',hm,i+1,a',H',(I'.kP).weak (by rw[I'.len];unfold frV;rw[E3];exact S.len.symm) hσ,T.keep _ _ _ st7 fun b hb o e=>(I'.pin (b,o) (F0 _ (F0 _ (ko hb e)))).1,fun b hb=>?_,w'⟩
    obtain⟨o,e,d⟩:=T.obj _ _ st7 b hb
    exact(I'.pin (b,o) (F0 _ (F0 _ (ko hb e)))).2.1
   cases ok with
   | false=>
    rw[if_neg (by decide)]at q9
    rw[if_neg (by decide)]
    exact back I9 q9 hσ8
   | true=>
    rw[if_pos rfl]at q9;rw[if_pos rfl];refine thn (he _ _ _ _ _ s9 σ8 H9 _ I9 q9) fun y s10 hZ=>?_
    obtain⟨yv,H10,I10,r10,hD10,q10⟩:=hZ;refine thn (rF (X:=bo X scope s3.heap.objs.size N' s3 (upd H2 D (.lst [])) fp) _ s10 σ8 H10 (.ref D) [yv] (.ref D) [y] (fun _ H'=>∃ m',m'<n/\W (i+1) m' (acc++[yv]) H') I10 rfl (.cons r10 .nil) ⟨D,acc,yv,rfl,rfl,hD10,hlen,q10⟩) fun _ s11 hZ=>?_
    obtain⟨_,H11,I11,_,q11⟩:=hZ;exact back I11 q11 hσ8
 have hself:wpAny (model X.prog X.w) X.A (pyIter (.ref it)) (fun it' s'=>codeAny (model X.prog X.w) X.A (.compLoop (.ListComp elt [⟨tg,iter,ifs,0⟩] scope pos) 0 it' (.ref D) (compEnvC scope (ba X.env scope.names []) s3.heap.objs.size X.env)) (RR (.ref D) s3.heap.objs.size) s')
   (notedBy (model X.prog X.w) X.A (compEnvC scope (ba X.env scope.names []) s3.heap.objs.size X.env) fun x s'=>RR (.ref D) s3.heap.objs.size (.error x) s') { s3 with heap:=h1 }:=T.self _ 0 _ _ _ st4 loop
 exact codeAny_compStart_list loop hself
theorem qK{fr:List (Option Nat)}{wi:TI}{g:TG}(hc:X.calm=true)(S:gW X.N X.env scope N' fr)(hi:PI X tg iter wi)(hg:∀ C s₁ H₁ ex,PG (bo X scope C N' s₁ H₁ ex) tg g)(hif:∀ C s₁ H₁ ex,PIf (bo X scope C N' s₁ H₁ ex) ifs tif)(he:∀ C s₁ H₁ ex,PE (bo X scope C N' s₁ H₁ ex) elt te)(hs:∀ x,foldedSetIterable iter X.env x=pure x:=by intro _;rfl):PE X (.ListComp elt [⟨tg,iter,ifs,0⟩] scope pos) (tU fr wi g tif te):=by
 intro pins s σ H Q I h;rw[eval_ListComp];refine wpAny_comprehension_free (use:=none) (cl:=ba X.env scope.names []) rfl hs (mD (kN I S)) S.kind S.names (thn (hi pins s σ H _ I h) fun v s1 h1=>thn h1 fun itv s2 h2=>?_)
 obtain⟨it,fp,tn,J,H2,e,I2,T,st2,f2,hW⟩:=h2;subst e;refine vn (RR:=fun acc C=>compPost (model X.prog X.w) X.A X.xe none (EP X pins σ Q) acc C) hc S hg hif he I2 T st2 f2 ?_ hW
 intro D C s' H' m hn hC _ hI q;exact⟨m,hn,fun h' hsb=>⟨V.ref D,H',hI h' hsb,rfl,q⟩⟩
theorem vh{fr:List (Option Nat)}{spos py:Pos}{y:Str}{wi:TI}{g:TG}(hc:X.calm=true)(S:gW X.N X.env scope N' fr)(hi:PI X tg iter wi)(hg:∀ C s₁ H₁ ex,PG (bo X scope C N' s₁ H₁ ex) tg g)(hif:∀ C s₁ H₁ ex,PIf (bo X scope C N' s₁ H₁ ex) ifs tif)(he:∀ C s₁ H₁ ex,PE (bo X scope C N' s₁ H₁ ex) elt te)(hN:X.N.Nodup)(hiN:X.N[i]? =some y)(hx:Loc X.env.scope y)(hf:X.fn y=true\/X.env.scope.names.lookup y=some .local)(hsw:swapsWith (.ListComp elt [⟨tg,iter,ifs,0⟩] scope pos) (some (.Name y py)) spos.line X.env=pure true)(hs:∀ x,foldedSetIterable iter X.env x=pure x:=by intro _;rfl):PS X (.Assign [.Name y py] (.ListComp elt [⟨tg,iter,ifs,0⟩] scope pos) spos) (gg (tU fr wi g tif te) (bG i)):=by
 intro pins s σ H D I h;rw[exec_Assign_Name_used _ _ _ _ hsw];refine E4 (wpAny_standAt (E4 ?_));show wpAny _ _ (do let _ <-comprehension (.ListComp elt [⟨tg,iter,ifs,0⟩] scope pos) scope X.env _ (newList []) false (eval iter X.env) (some (assign (.Name y py) X.env))) _ _ s
 refine E4 (Gf (wpAny_comprehension_free (use:=some (assign (.Name y py) X.env)) (cl:=ba X.env scope.names []) (Q:=fun _ s'=>SP X pins D .next s') rfl hs (mD (kN I S)) S.kind S.names
  (thn (hi pins s σ H _ I h) fun v s1 h1=>thn h1 fun itv s2 h2=>?_)) (fun _ s' hq=>E6 (E6 hq)) fun _ _ e=>e)
 obtain⟨it,fp,tn,J,H2,e,I2,T,st2,f2,hW⟩:=h2;subst e;refine vn (Q:=fun x H1=>bG i x σ H1 D.nx) (RR:=fun acc C=>compPost (model X.prog X.w) X.A X.xe (some (assign (.Name y py) X.env)) (fun _ s'=>SP X pins D .next s') acc C) hc S hg hif he I2 T st2 f2 ?_ hW
 intro A C s' H' m hn hC hfr hI q;obtain⟨hfree,hge,hcells,hpins⟩:=hfr;have I':Inv X pins σ H' s':=hI s'.heap (Heap.SameBut.refl ..);show wpAny _ _ (assign (.Name y py) X.env (.ref A)) _ _ s'
 refine wpAny_assign_Name (sN (v:=.ref A) I' hN hiN hx rfl (fun s'' I'' ⟨a,hsb,ha⟩=>?_) hf)
 have haC:C≠a:=by
  rcases ha with rfl|ha
  ·exact hC
  ·exact fun z=>hcells _ _ ha z.symm
 refine⟨m,hn.sameBut hsb haC,fun h' hs'=>⟨_,H',?_,q⟩⟩
 exact I''.turned (t':=s''.toks) (it:=C) (fun b o hb e=>(hs'.2 b hb).trans e) hfree hC (.inr hge) hcells hpins
end
noncomputable def Its (x:Str):It:=⟨fun i _=>i<x.length,fun i H v H'=>H'=H/\∃ c,x.cps[i]? =some c/\v=.str ⟨#[c]⟩,fun i _=>x.length<=i⟩
theorem tH{K:PySem.W.Frag}(it:Addr)(x:Str)(t:Tok){ty:String}(hty:ty = "str_ascii_iterator"\/ty = "str_iterator"):Turn P w K tg (Its x) [it] it (fun i h=>i<=x.length/\h.IsStrIter it ty x t i) where
 mem:=by simp
 obj:=fun i h st b hb=>by
  have e:b=it:=by simpa using hb
  subst e;obtain⟨_,o,e,c,d⟩:=st;exact⟨o,e,fun v z=>by rw[d]at z;cases z⟩
 keep:=fun i h h' st k=>⟨st.1,by obtain⟨_,o,e,r⟩:=st;exact⟨o,k it (by simp) o e,r⟩⟩
 item:=by
  intro X hP hw hK hc i pins s σ H E I hf st hg;subst hP hw hK;obtain⟨f0,f1,f2,f3,f4,f5⟩:=hf it (by simp)
  have W:Walks X.prog X.w X.A it [it] [it] x.cps.size (SignAt x) (fun i h=>h.IsStrIter it ty x t i):=by
   rcases hty with rfl|rfl
   ·exact Walks.strAscii (I.ok.hd hc) it x t
   ·exact Walks.strWide (I.ok.hd hc) it x t
  refine W.item i s _ _ hg st.2 fun v h' tk hv st' kk=>?_
  obtain⟨c,u,hc',rfl⟩:=hv;have I1:Inv X pins σ H { s with heap:=h',toks:=tk }:=I.turned (fun b o hb e=>kk b o (by simpa using hb) e) f0 f1 f3 f4 f5
  obtain⟨o,e,cl,d⟩:=id st';refine⟨_,rfl,iZ (s:={ s with heap:=h',toks:=tk }) e cl d (by rcases hty with rfl|rfl <;> decide) ⟨.str ⟨#[c]⟩,H,I1,⟨u,rfl⟩,⟨rfl,c,hc',rfl⟩,⟨hg,st'⟩,fun b hb=>(hf b hb).1⟩⟩
 done:=by
  intro X hP hw hK hc i pins s σ H E I hf st hg;subst hP hw hK;obtain⟨f0,f1,f2,f3,f4,f5⟩:=hf it (by simp)
  have W:Walks X.prog X.w X.A it [it] [it] x.cps.size (SignAt x) (fun i h=>h.IsStrIter it ty x t i):=by
   rcases hty with rfl|rfl
   ·exact Walks.strAscii (I.ok.hd hc) it x t
   ·exact Walks.strWide (I.ok.hd hc) it x t
  have hi:i=x.cps.size:=Nat.le_antisymm st.1 hg;subst hi;exact W.done s _ _ st.2 fun h' tk kk=>⟨rfl,I.turned (fun b o hb e=>kk b o (by simpa using hb) e) f0 f1 f3 f4 f5⟩
 self:=fun A i s Q E st h=>by
  rcases hty with rfl|rfl
  ·exact wpAny_pyIter_striter_ascii st.2 h
  ·exact wpAny_pyIter_striter_wide st.2 h
section
variable {X:Cx}{tg:Expr}
noncomputable def yg (tl:TE):TI:=fun σ H R=>tl σ H fun v H1=>∃ x,v=.str x/\R (Its x) H1
theorem Du{l:Expr}{tl:TE}(hl:PE X l tl):PI X tg l (yg tl):=by
 intro pins s σ H R I h;refine thn (hl pins s σ H _ I h) fun v s1 hZ=>?_
 obtain⟨x,H1,I1,r1,q1⟩:=hZ;obtain⟨x,rfl,q⟩:=q1;obtain⟨t,rfl⟩:=r1;cases ha:x.cps.all (· < 128)
 ·refine wpAny_pyIter_wide ha ⟨s1.heap.objs.size,[s1.heap.objs.size],_,_,H1,rfl,I1.kept (t':=s1.toks) fun b o e=>E8 _ e,tH _ x t (.inr rfl),⟨FG _,_,Fv _ rfl,rfl,rfl⟩,fun b hb=>?_,q⟩
  have e:b=s1.heap.objs.size:=by simpa using hb
  subst e;exact I1.fQ (E7 _) (I1.hok.fresh (E7 _))
 ·refine wpAny_pyIter_ascii ha ⟨s1.heap.objs.size,[s1.heap.objs.size],_,_,H1,rfl,I1.kept (t':=s1.toks) fun b o e=>E8 _ e,tH _ x t (.inl rfl),⟨FG _,_,Fv _ rfl,rfl,rfl⟩,fun b hb=>?_,q⟩
  have e:b=s1.heap.objs.size:=by simpa using hb
  subst e;exact I1.fQ (E7 _) (I1.hok.fresh (E7 _))
theorem zU{bs:List Bool}:∀{us:List Value},Vals (bs.map V.bl) us->us=bs.map Value.bool:=by
 induction bs with
 | nil=>intro us r;cases r;rfl
 | cons b bs ih=>intro us r;cases r with|cons r1 r2=>cases r1;rw[ih r2];rfl
theorem range_all(bs:List Bool):(List.range bs.length).all (fun i=>bs.getD i false)=bs.all id:=by
 have:(List.range bs.length).map (fun i=>bs.getD i false)=bs:=by
  apply List.ext_getElem
  ·simp
  ·intro i h1 h2;simp [Gp,Fg h2]
 conv=>rhs;rw[<-this]
 rw[List.all_map];rfl
theorem A5(bs:List Bool):TruthOf prog w A (fun i v=>(bs.map Value.bool).toArray[i]? =some v) (fun i=>bs.getD i false):=fun i v s Q E hP hQ=>by
 simp only[List.getElem?_toArray,E9,Fl]at hP;obtain⟨b,hb,rfl⟩:=hP;refine Gw ?_;have e:bs.getD i false=b:=by rw[Gp,hb];rfl
 have hQ:Q (bs.getD i false) s:=hQ;rw[e]at hQ;exact hQ
noncomputable def CJ (K:PySem.W.Frag):List V->Hp->VK->Prop:=fun xs H Q=>∃(a:Addr)(bs:List Bool),xs=[.ref a]/\SqL K H a (bs.map V.bl)/\Q (.bl (bs.all id)) H
theorem AA(hc:X.calm=true):aH X (.builtin "all") (CJ X.K):=by
 intro pins s σ H xs us Q I r h;obtain⟨a,bs,rfl,ha,q⟩:=h;obtain⟨u,rfl,ru⟩:=vals1 r;cases ru
 obtain⟨its,rv,pl,hz⟩:=I.list ha;have e:=zU rv;subst e;refine call_all_walk (wpAny_pyIter_list pl.isList ?_);have hne:a≠s.heap.objs.size:=fun z=>by obtain⟨o,n,e,_⟩:=pl;exact absurd (z▸Ft e) (Gm _)
 refine⟨_,_,_,_,_,_,fun i=>bs.getD i false,rfl,Walks.list (A:=X.A.in1) (I.ok.hd hc) s.heap.objs.size a hne (bs.map Value.bool).toArray,⟨⟨_,Fv _ rfl,rfl,rfl⟩,pl.isList.push _⟩,A5 bs,fun h' tk kk=>?_⟩
 have e2:(bs.map Value.bool).toArray.size=bs.length:=by simp
 rw[e2,range_all];refine⟨.bl (bs.all id),H,I.kept (h':=h') (t':=tk) fun b o e=>kk b o ?_ (E8 _ e),rfl,q⟩
 simpa using FD (Ft e)
noncomputable def vU:List V->Hp->VK->Prop:=fun xs H Q=>∃ a kvs,xs=[.ref a]/\Rd H a (.dK kvs)/\∀ p,H p=none->Q (.ref p) (upd H p (.dK kvs))
theorem yy:aH X (.type "dict") vU:=by
 intro pins s σ H xs us Q I r h;obtain⟨a,kvs,rfl,ha,q⟩:=h;obtain⟨u,rfl,ru⟩:=vals1 r;cases ru
 obtain⟨z,hd,vs,rel,dd⟩:=eV I.hok ha;refine kt_call_dict hd dd (by rw[<-rel.length];exact z) fun h' dd' hs=>?_
 have keep:∀ b o,s.heap.get? b=some o->h'.get? b=some o:=fun b o e=>(hs.2 b (FD (Ft e))).trans (E8 _ e)
 have hsys:(s.heap.objs.size==sysModules)=false:=by
  have:=L2.Inv.big I
  exact beq_eq_false_iff_ne.mpr (GY this)
 exact⟨.ref s.heap.objs.size,_,I.laid (t':=s.toks) keep (E7 _) (nj z hsys rel dd'),rfl,q _ (I.hok.fresh (E7 _))⟩
noncomputable def wu (K:PySem.W.Frag):List V->Hp->VK->Prop:=fun xs H Q=>∃ x n t b,xs=[x,.ty n]/\cL K H x t/\PySem.W.kitOne K t (.type n)=some b/\Q (.bl b) H
theorem Bq:aH X (.builtin "isinstance") (wu X.K):=by
 intro pins s σ H xs us Q I r h;obtain⟨x,n,t,b,rfl,ty,e,q⟩:=h;cases r with
 | cons r1 r2=>
  cases r2 with
  | cons r2 r3=>
   cases r3
   cases r2
   exact xW I r1 ty e fun tk=>⟨.bl b,H,I.tok _,rfl,q⟩
end
section
variable {X:Cx}
noncomputable def EH:V->Option Int->Option Int->Hp->VK->Prop:=fun x lo hi H Q=>∃ z,x=.str z/\z.length<=sizeLine/\Q (.str (Txt.slice z lo hi)) H
theorem part_of{o:Option Int}(h:IsPart v o):∃ p:Option (Int×Tok),v=partValue p/\o=p.map (·.1):=by
 cases h with
 | none=>exact⟨none,rfl,rfl⟩
 | int i t=>exact⟨some (i,t),rfl,rfl⟩
theorem Ak:SlR X EH:=by
 intro pins s σ H x v vl vu lo hi sl Q I rx hs pl pu h;obtain⟨z,rfl,hz,q⟩:=h;obtain⟨t,rfl⟩:=rx;obtain⟨l,rfl,rfl⟩:=part_of pl;obtain⟨u,rfl,rfl⟩:=part_of pu;refine⟨"str",_,PySem.F.slot_str_getitem.lookup,typeIs_str _ _ _,wpAny_getItem_str_slice (l:=l) (u:=u) (st:=none) ?_ rfl (post_val_or_str ⟨FL (Txt.slice_le z _ _) hz,fun t' k=>?_⟩)⟩
 ·obtain⟨o,e,c,d⟩:=hs;exact⟨o,e,c,d⟩
 ·exact⟨.str (Txt.slice z (l.map (·.1)) (u.map (·.1))),H,I.tok k,⟨t',rfl⟩,q⟩
theorem vx{t:Addr}(hne:t≠it):∀(n i:Nat)(s:Shared)(Q:List Value->Shared->Prop),s.heap.IsListIter it t i->s.heap.IsList t items->i+n<=items.size →
  (∀ h',h'.IsListIter it t (i+n)->Heap.SameBut it s.heap h'->Q ((items.toList.drop i).take n) { s with heap:=h' })->wpAny (model prog w) A (draw (.ref it) n) Q E s
 | 0,i,s,Q,hit,_,_,hQ=>by
  show wpAny _ _ (pure []) Q E s
  exact E6 (by simpa using hQ s.heap hit (Heap.SameBut.refl ..))
 | n+1,i,s,Q,hit,ht,hle,hQ=>by
  have hlt:i<items.size:=by lia
  show wpAny _ _ (pyNext (.ref it) >>= _) Q E s
  refine E4 (wpAny_pyNext_list_item hit ht (x:=items[i]) (by simp [hlt]) fun h₁ hit₁ hs₁=>?_)
  have ht₁:h₁.IsList t items:=ht.at fun o e=>(hs₁.2 t hne).trans e
  refine E4 (F7 (vx hne n (i+1) _ _ hit₁ ht₁ (by lia) fun h₂ hit₂ hs₂=>E6 ?_))
  have hd:items.toList.drop i=items[i]::items.toList.drop (i+1):=by simp [Gr,hlt]
  have:=hQ h₂ (by rw[show i+(n+1)=i+1+n by lia];exact hit₂) (hs₁.trans hs₂)
  rw[hd,List.take_succ_cons]at this;exact this
theorem C8{t:Addr}{Q:List Value->Shared->Prop}(hh:A.handled=none)(ht:s.heap.IsList t items)(hQ:∀ h',Heap.ExtBut s.heap.objs.size s.heap h'->Q items.toList { s with heap:=h' }):wpAny (model prog w) A (unpackItems (.ref t) items.size none) Q E s:=by
 have hlt:t≠s.heap.objs.size:=by obtain⟨o,ho,_⟩:=ht;exact FD (Ft ho)
 unfold unpackItems;refine E4 ?_
 ·unfold notIterableAtAll;refine E4 (wpAny_specialOf ht.typeIs PySem.F.slot_list_iter.lookup ?_);refine E6 ?_;simp only[Fo,if_false];refine E4 (F7 (wpAny_pyIter_list ht ?_));refine E4 (F7 (vx hlt items.size 0 _ _ ⟨_,Fv _ rfl,rfl,rfl⟩ (ht.push _) (by lia) fun h₁ hit₁ hs₁=>?_))
  have hall:List.take items.size (List.drop 0 items.toList)=items.toList:=by
   rw[List.drop_zero];exact FQ (by simp)
  rw[hall];rw[if_neg (by simp)]
  have ht₁:h₁.IsList t items:=(ht.push _).at fun o e=>(hs₁.2 t hlt).trans e
  refine E4 (F7 (wpAny_pyNext_list_end hh hit₁ ht₁ (by simp) fun h₂ he₂=>?_))
  simp only[Option.isSome_none,Fo,if_false];refine E6 (hQ h₂ fun b o hb e=>he₂ b o hb (hs₁.extBut b o hb (E8 _ e)))
noncomputable def Ce (K:PySem.W.Frag)(n:Nat)(t:TGs):TG:=fun v σ H Q=>∃ a xs,v=.ref a/\SqL K H a xs/\xs.length=n/\t xs σ H Q
theorem yT{es:List Expr}{k:Nat}{t:TGs}{n:Nat}(hc:X.calm=true)(h:PGs X es t)(hn:(assignEach es X.env).length=n:=by rfl)(hst:(assignEach es X.env).findIdx? (·.1)=none:=by rfl):PG X (.Tuple es k pos) (Ce X.K n t):=by
 intro pins s σ H v u Q I r hw;obtain⟨a,xs,e1,hq,hl,hw⟩:=hw;subst e1;cases r
 obtain⟨its,rv,pl,hz⟩:=I.list hq;rw[assign_Tuple];refine E4 (wpAny_standAt ?_);unfold unpack;rw[show(assignEach es X.env).length=its.toArray.size from by simp [hn,<-hl,rv.length],hst]
 refine E4 (F7 (C8 (I.ok.hd hc) pl.isList fun h' hx=>?_))
 have I1:Inv X pins σ H { s with heap:=h' }:=I.kept (t':=s.toks) fun b o e=>hx b o (FD (Ft e)) e
 exact h pins _ σ H xs _ Q I1 (by simpa using rv) hw
end
noncomputable def Itd (o:Obj)(a:Addr)(kvs:List (L2.Key×V)):It:=
 ⟨fun i H=>H a=some (.frz o (.dK kvs))/\i<kvs.length,
  fun i H x H'=>∃ p k v,H p=none/\kvs[i]? =some (k,v)/\x=.ref p/\H'=upd H p (.tup [kV k,v]),
  fun i H=>H a=some (.frz o (.dK kvs))/\kvs.length<=i⟩
theorem rH{kvs:List (L2.Key×V)}(x:HOk P w H h)(e:H a=some (.frz o (.dK kvs)))(hd:o.data=.dict es ep) :
  (a==sysModules)=false/\∃ vs,KV kvs vs/\h.DictAt (az P w) a vs ep:=by
 obtain⟨ho,z,hs,vs,rel,o',es',ep',ho',ex,hd',r⟩:=(show au P w H h a (.frz o (.dK kvs)) from x a _ e)
 rw[ho]at ho';cases ho'
 rw[hd]at hd';cases hd'
 exact⟨hs,vs,rel,o,_,ho,ex,hd,r⟩
theorem nF{kvs:List (L2.Key×V)}{vs:List (L2.Key×Value)}(r:KV kvs vs):∀{i:Nat}{k:L2.Key}{v:V},kvs[i]? =some (k,v)->∃ u,vs[i]? =some (k,u)/\RelV v u:=by
 unfold KV at r;induction r with
 | nil=>intro i k v h;simp at h
 | @cons p q ps qs h t ih=>
  intro i k v hi;cases i with
  | zero=>
   simp at hi;subst hi;obtain⟨h1,h2⟩:=h;exact⟨q.2,by
    have h1:k=q.1:=h1;subst h1
    rfl,h2⟩
  | succ i=>exact ih (by simpa using hi)
theorem DQ{K:PySem.W.Frag}{elts:List Expr}{x1:Nat}(a it:Addr)(o:Obj)(kvs:List (L2.Key×V))(hdat:o.data=.dict es ep) :
  Turn P w K (.Tuple elts x1 pos) (Itd o a kvs) [it] it (fun i h=>i<=kvs.length/\∃ ok ov,IsItemIter h it a i kvs.length ep ok ov) where
 mem:=by simp
 obj:=fun i h st b hb=>by
  have e:b=it:=by simpa using hb
  subst e;obtain⟨_,ok,ov,e⟩:=st;exact⟨_,e,fun v z=>by
   have z':Data.fields _=Data.cell v:=z;cases z'⟩
 keep:=fun i h h' st k=>by
  obtain⟨hi,ok,ov,e⟩:=st;exact⟨hi,ok,ov,k it (by simp) _ e⟩
 item:=by
  intro X hP hw hK hc i pins s σ H E I hf st hg;subst hP hw hK;obtain⟨hfr,hi⟩:=hg;obtain⟨_,ok,ov,hit⟩:=st;obtain⟨hs,vs,rel,hm⟩:=rH I.hok hfr hdat;obtain⟨f0,f1,f2,f3,f4,f5⟩:=hf it (by simp)
  obtain⟨⟨k,v⟩,hkv⟩:∃ p,kvs[i]? =some p:=⟨_,Fg hi⟩;obtain⟨u,hu,ru⟩:=nF rel hkv;have hlen:kvs.length=vs.length:=Paired.length rel;rw[hlen]at hit;refine wpAny_pyNext_items_item hit hm hu fun key h' hkey hout htup hsz hkeep=>?_
  have hitlt:it<s.heap.objs.size:=Ft hit;refine⟨_,rfl,wpAny_letOwnedTupleGo_items hout fun h2 hit2 hsb2=>?_⟩
  have hfresh:H s.heap.objs.size=none:=I.hok.fresh (E7 _);have I1:Inv X pins σ (upd H s.heap.objs.size (.tup [kV k,v])) { s with heap:=s.heap.push { cls:=.type "tuple",data:=.seq #[key,u] } }:=
   I.laid (t':=s.toks) (fun b o e=>E8 _ e) (E7 _) (show au X.prog X.w _ _ _ (.tup [kV k,v]) from⟨by rw[Fz];show 2<=16777216;decide,[key,u],.cons (i8 hkey) (.cons ru .nil),⟨_,Fv _ rfl,rfl,_,rfl⟩⟩)
  have hne:it≠s.heap.objs.size:=FD hitlt;have I2:Inv X pins σ (upd H s.heap.objs.size (.tup [kV k,v])) { s with heap:=h2 }:=by
   refine L2.Inv.turned (s:={ s with heap:=s.heap.push { cls:=.type "tuple",data:=.seq #[key,u] } }) (t':=s.toks) (it:=it) I1 (fun b ob hb e=>?_) (by rw[ar hne];exact f0) f1 f3 f4 f5
   refine(hsb2.2 b hb).trans ?_;rcases Heap.get?_push_cases e with⟨rfl,rfl⟩|e2
   ·exact htup
   ·exact hkeep b ob hb e2
  exact⟨.ref s.heap.objs.size,_,I2,rfl,⟨s.heap.objs.size,k,v,hfresh,hkv,rfl,rfl⟩,⟨hi,key,u,by rw[hlen];exact hit2⟩,fun b hb=>by
   have e:b=it:=by simpa using hb
   subst e;rw[ar hne];exact f0⟩
 done:=by
  intro X hP hw hK hc i pins s σ H E I hf st hg;subst hP hw hK;obtain⟨hfr,hi⟩:=hg;obtain⟨_,ok,ov,hit⟩:=st;obtain⟨hs,vs,rel,hm⟩:=rH I.hok hfr hdat;obtain⟨f0,f1,f2,f3,f4,f5⟩:=hf it (by simp)
  have hlen:kvs.length=vs.length:=Paired.length rel;rw[hlen]at hit;exact wpAny_pyNext_items_end (I.ok.hd hc) hit hm (Ga.mpr (by lia)) fun h' eb=>⟨rfl,I.turned (t':=s.toks) (fun b o hb e=>eb b o hb e) f0 f1 f3 f4 f5⟩
 self:=fun A i s Q E st h=>by
  obtain⟨_,ok,ov,hit⟩:=st;have hT:s.TypeIs (.ref it) "dict_itemiterator":=⟨_,hit,rfl⟩
  refine wpAny_pyIter_slot hT PySem.F.slot_dict_itemiterator_iter (Gh PySem.F.slot_dict_itemiterator_iter hT PySem.W.kcp_entry ?_ (PySem.F.args_dict_itemiterator_iter_1 _));show wpAny _ _ (ret (.ref it)) _ _ s
  exact E6 ⟨_,rfl,"dict_itemiterator",_,hT,PySem.F.slot_dict_itemiterator_next.lookup,h⟩
section
variable {X:Cx}{pins:List (Addr×Obj)}{σ:L2.St}{H:Hp}{s:Shared}{a:Addr}
theorem Inv.lM{u u':HO}(I:Inv X pins σ H s)(e:H a=some u)(h1:∀ b,u≠.own b)(h2:∀ xs,u≠.tup xs)(h3:∀ ps,u≠.tbl ps)(h4:∀ o v,X.H₀ a=some (.frz o v)->u'=.frz o v)(new:au X.prog X.w (upd H a u') s.heap a u'):Inv X pins σ (upd H a u') s:=by
 have na:∀ b v,H b=some v->v≠u->b≠a:=fun b v q n z=>by subst z;rw[e]at q;exact n (Fw q).symm
 have n0:∀ b,H b=none->b≠a:=fun b q z=>by subst z;rw[e]at q;cases q
 refine⟨I.ok,I.os,I.bare,⟨I.base.keep,I.base.slot,fun b o q n hx=>?_,I.base.there,fun b xs q=>?_,fun b o v q=>?_,fun b ps q=>?_⟩,I.loc,I.cell,?_,fun x c q=>?_,fun p hp=>?_,fun b v q=>?_,I.len⟩
 ·have:=I.base.free b o q n hx
  rw[ar (n0 b this)];exact this
 ·have:=I.base.tups b xs q
  rw[ar (na b _ this fun z=>h2 xs z.symm)];exact this
 ·by_cases z:b=a
  ·subst z;rw[aY,h4 o v q]
  ·rw[ar z];exact I.base.frzs b o v q
 ·obtain⟨m,q⟩:=I.base.tbls b ps q;exact⟨m,by rw[ar (na b _ q fun z=>h3 _ z.symm)];exact q⟩
 ·rw[ar (n0 _ I.free)];exact I.free
 ·rw[ar (n0 _ (I.freeC x c q))];exact I.freeC x c q
 ·obtain⟨q1,q2,q3⟩:=I.pin p hp;exact⟨q1,by rw[ar (n0 _ q2)];exact q2,q3⟩
 ·by_cases z:b=a
  ·subst z;rw[aY]at q;cases q
   exact new
  ·rw[ar z]at q;refine(I.hok b v q).ef (fun c w hc r=>r) (fun c r=>?_) fun c xs r=>?_
   ·rw[ar (na c _ r fun z=>h1 _ z.symm)];exact r
   ·rw[ar (na c _ r fun z=>h2 _ z.symm)];exact r
theorem Inv.freeze{kvs:List (L2.Key×V)}(I:Inv X pins σ H s)(e:H a=some (.dK kvs)):∃ o es ep,s.heap.get? a=some o/\o.data=.dict es ep/\Inv X pins σ (upd H a (.frz o (.dK kvs))) s:=by
 obtain⟨z,hs,vs,rel,o,es,ep,ho,ex,hd,r⟩:=(show au X.prog X.w H s.heap a (.dK kvs) from I.hok a _ e)
 refine⟨o,es,ep,ho,hd,SB.Inv.lM I e (fun _ z=>nomatch z) (fun _ z=>nomatch z) (fun _ z=>nomatch z) (fun o' v q=>?_) ⟨ho,z,hs,vs,rel,o,es,ep,ho,ex,hd,r⟩⟩
 have:=I.base.frzs a o' v q
 rw[e]at this;cases this
theorem Inv.z5{kvs:List (L2.Key×V)}(I:Inv X pins σ H s)(e:H a=some (.frz o (.dK kvs)))(h0:∀ o v,X.H₀ a≠some (.frz o v)):Inv X pins σ (upd H a (.dK kvs)) s:=by
 obtain⟨ho,z,hs,vs,rel,dd⟩:=(show au X.prog X.w H s.heap a (.frz o (.dK kvs)) from I.hok a _ e)
 exact SB.Inv.lM I e (fun _ z=>nomatch z) (fun _ z=>nomatch z) (fun _ z=>nomatch z) (fun o' v q=>absurd q (h0 o' v)) ⟨z,hs,vs,rel,dd⟩
end
noncomputable def wK (td:TE):TI:=fun σ H R=>td σ H fun x H1=>∃ a kvs,x=.ref a/\H1 a=some (.dK kvs)/\∀ o,R (Itd o a kvs) (upd H1 a (.frz o (.dK kvs)))
section
variable {X:Cx}
theorem Et{elts:List Expr}{x1:Nat}{d:Expr}{td:TE}{apos cpos:Pos}(hd:PE X d td)(hbase:attributeBase d "items" X.env (eval d X.env)=eval d X.env:=by rfl) (hline:(apos.endLine==cpos.line)=true:=by rfl) :
  PI X (.Tuple elts x1 pos) (.Call (.Attribute d "items" apos) [] [] cpos) (wK td):=by
 intro pins s σ H R I h;refine wpAny_Call_method0_late hbase hline (thn (hd pins s σ H _ I h) fun v s1 hZ=>?_)
 obtain⟨x,H1,I1,r1,q1⟩:=hZ;obtain⟨a,kvs,rfl,ha,q⟩:=q1;cases r1
 obtain⟨z,hs,vs,rel,dd⟩:=uz I1.hok ha;obtain⟨ob,es,ep,hob,hex,hdat,hrest⟩:=id dd;refine⟨"dict",_,PySem.F.plainAttrs_dict,PySem.F.slot_dict_items,PySem.F.type_dict_items,dd.typeIs,fun b e=>by cases e;exact⟨ob,hob,hex.2.1⟩,Calls.callWith_builtin rfl (PySem.evalArgs_none ?_)⟩
 refine call_meetsIn PySem.F.slot_dict_items dd.typeIs PySem.F.entry_dict_items (PySem.F.args_dict_items_1 _) (meets_dict_items (az X.prog X.w) a hs) ⟨⟨vs,dd⟩,?_⟩;obtain⟨o',es',ep',ho',hd',I2⟩:=SB.Inv.freeze I1 ha;rw[hob]at ho';cases ho'
 rw[hdat]at hd';cases hd'
 have I3:Inv X pins σ (upd H1 a (.frz ob (.dK kvs))) { s1 with heap:=s1.heap.push { cls:=.type "dict_items",data:=.fields #[.ref a] } }:=I2.kept (t':=s1.toks) fun b o e=>E8 _ e
 have hm:(s1.heap.push { cls:=.type "dict_items",data:=.fields #[.ref a] }).DictAt (az X.prog X.w) a vs ep:=Heap.DictAt.push ⟨ob,es,hob,hex,hdat,hrest⟩ _
 have hlen:kvs.length=vs.length:=Paired.length rel;refine wpAny_pyIter_items ⟨_,Fv _ rfl,rfl,rfl⟩ hm ⟨_,[_],_,_,_,rfl,I3.kept (t':=s1.toks) fun b o e=>E8 _ e,DQ a _ ob kvs hdat,⟨FG _,.none,.none,?_⟩,fun b hb=>?_,q ob⟩
 ·rw[hlen];exact Fv _ rfl
 ·have e:=Fb.mp hb;subst e;exact I3.fQ (E7 _) (I3.hok.fresh (E7 _))
theorem zh{kvs:List (L2.Key×V)}{g:TG}{tb:TS}(Pv:Nat->L2.St->Hp->Prop)(h0:Pv 0 σ H)(hl:∀ i σ H,i<=kvs.length->Pv i σ H->H a=some (.frz o (.dK kvs)))(hs:∀ i k v p σ H,kvs[i]? =some (k,v)->H p=none->Pv i σ H->g (.ref p) σ (upd H p (.tup [kV k,v])) fun σ2 H2=>tb { D with nx:=Pv (i+1),ct:=Pv (i+1),bk:=D.nx } σ2 H2)(hd:∀ σ H,Pv kvs.length σ H->D.nx σ H) :
  ∃ W:Nat->Nat->L2.St->Hp->Prop,(∃ m,W 0 m σ H)/\∀ i m σ H,W i m σ H →
   ((Itd o a kvs).stop i H/\D.nx σ H)\/((Itd o a kvs).go i H/\∃ N:L2.St->Hp->Prop,(∀ σ' H',N σ' H'->∃ m',m'<m/\W (i+1) m' σ' H')/\∀ x H',(Itd o a kvs).yld i H x H'->g x σ H' fun σ2 H2=>tb { D with nx:=N,ct:=N,bk:=D.nx } σ2 H2):=by
 refine⟨fun i m σ H=>m=kvs.length-i/\i<=kvs.length/\Pv i σ H,⟨kvs.length,by simp,FG _,h0⟩,?_⟩
 rintro i m σ H ⟨rfl,hi,p⟩;have q:=hl i σ H hi p
 by_cases hlt:i<kvs.length
 ·refine .inr ⟨⟨q,hlt⟩,Pv (i+1),fun σ' H' p'=>⟨kvs.length-(i+1),by lia,rfl,hlt,p'⟩,fun x H' y=>?_⟩
  obtain⟨b,k,v,hb,hk,rfl,rfl⟩:=y;exact hs i k v b σ H hk hb p
 ·have e:i=kvs.length:=by lia
  subst e;exact .inl ⟨⟨q,E7 _⟩,hd σ H p⟩
noncomputable def zF (H₀:Hp)(t:TS):TS:=fun D σ H=>t { D with nx:=fun σ' H'=>∃ a o kvs,H' a=some (.frz o (.dK kvs))/\(∀ o v,H₀ a≠some (.frz o v))/\D.nx σ' (upd H' a (.dK kvs)) } σ H
theorem zN{st:Stmt}{t:TS}(h:PS X st t):PS X st (zF X.H₀ t):=by
 intro pins s σ H D I hw;refine thn (h pins s σ H _ I hw) fun f s1 q=>?_
 cases f with
 | next=>
  obtain⟨σ',H',I',a,o,kvs,e,n,q⟩:=q;exact⟨σ',_,SB.Inv.z5 I' e n,q⟩
 | brk=>exact q
 | cont=>exact q
 | ret v=>exact q
end
inductive Dt where
 | sc (v:V)
 | lst (ds:List Dt)
 | tup (ds:List Dt)
mutual
noncomputable def Is (K:PySem.W.Frag)(H:Hp):Dt->V->Prop
 | .sc v,x=>x=v/\bP v=true
 | .lst ds,x=>∃ a xs,x=.ref a/\SqL K H a xs/\IsL K H ds xs
 | .tup ds,x=>∃ a xs,x=.ref a/\SqT K H a xs/\IsL K H ds xs
noncomputable def IsL (K:PySem.W.Frag)(H:Hp):List Dt->List V->Prop
 | [],xs=>xs=[]
 | d::ds,xs=>∃ x r,xs=x::r/\Is K H d x/\IsL K H ds r
end
mutual
noncomputable def dep:Dt->Nat
 | .sc _=>0
 | .lst ds=>bT ds+1
 | .tup ds=>bT ds+1
noncomputable def bT:List Dt->Nat
 | []=>0
 | d::ds=>max (dep d) (bT ds)
end
noncomputable def nb:V->V->Bool
 | .bl _,.int _=>false
 | .int _,.bl _=>false
 | _,_=>true
mutual
noncomputable def Alike:Dt->Dt->Prop
 | .sc v,.sc w=>nb v w=true
 | .lst ds,.lst es=>bx ds es
 | .tup ds,.tup es=>bx ds es
 | _,_=>False
noncomputable def bx:List Dt->List Dt->Prop
 | d::ds,e::es=>Alike d e/\bx ds es
 | _,_=>True
end
theorem xF{x y:V}(hx:bP x=true)(hy:bP y=true)(n:nb x y=true):eqV x y=decide (x=y):=by
 cases x <;> cases y <;> first|(cases hx;done)|(cases hy;done)|(cases n;done)|rfl|(simp only[eqV,V.bl.injEq,V.int.injEq,V.str.injEq];apply FU.mpr;simp)|skip
theorem dq{K:PySem.W.Frag}:∀{ds:List Dt}{xs:List V},IsL K H ds xs->ds.length=xs.length
 | [],xs,h=>by unfold IsL at h;subst h;rfl
 | d::ds,xs,h=>by
  unfold IsL at h;obtain⟨x,r,rfl,_,h⟩:=h;rw[Fy,Fy,dq h]
theorem i3{K:PySem.W.Frag}:∀{ds:List Dt}{xs:List V}{j:Nat}{x:V},IsL K H ds xs->xs[j]? =some x->∃ d,ds[j]? =some d/\Is K H d x
 | [],xs,j,x,h,e=>by unfold IsL at h;subst h;simp at e
 | d::ds,xs,j,x,h,e=>by
  unfold IsL at h;obtain⟨y,r,rfl,h1,h2⟩:=h;cases j with
  | zero=>simp at e;subst e;exact⟨d,rfl,h1⟩
  | succ j=>
   have:=i3 (j:=j) h2 (by simpa using e)
   simpa using this
theorem oV:∀{ds es:List Dt}{j:Nat}{d e:Dt},bx ds es->ds[j]? =some d->es[j]? =some e->Alike d e
 | [],_,j,d,e,_,h,_=>by simp at h
 | _::_,[],j,d,e,_,_,h=>by simp at h
 | d'::ds,e'::es,j,d,e,h,h1,h2=>by
  unfold bx at h;cases j with
  | zero=>simp at h1 h2;subst h1;subst h2;exact h.1
  | succ j=>exact oV h.2 (by simpa using h1) (by simpa using h2)
theorem oq:∀{ds:List Dt}{j:Nat}{d:Dt},ds[j]? =some d->dep d<=bT ds
 | [],j,d,h=>by simp at h
 | d'::ds,j,d,h=>by
  unfold bT;cases j with
  | zero=>simp at h;subst h;exact Nat.le_max_left ..
  | succ j=>exact FL (oq (by simpa using h)) (Nat.le_max_right ..)
section
variable {X:Cx}
theorem lS(I:Inv X pins σ H s):∀(n:Nat){d e:Dt}{x:V},dep d<=n->Is X.K H d x->Is X.K H e x->Alike d e->d=e:=by
 intro n;induction n with
 | zero=>
  intro d e x hd h1 h2 ha;cases d with
  | sc v=>
   cases e with
   | sc w=>unfold Is at h1 h2;rw[<-h1.1,<-h2.1]
   | lst es=>unfold Alike at ha;exact ha.elim
   | tup es=>unfold Alike at ha;exact ha.elim
  | lst ds=>unfold dep at hd;lia
  | tup ds=>unfold dep at hd;lia
 | succ n ih=>
  have hl:∀{ds es:List Dt} {xs:List V},bT ds<=n->IsL X.K H ds xs->IsL X.K H es xs->bx ds es->ds=es:=fun {ds es xs} hd h1 h2 ha=>by
   refine List.ext_getElem? fun j=>?_
   cases e:xs[j]? with
   | none=>
    have l1:=dq h1;have l2:=dq h2
    have:=Ga.mp e
    rw[Ga.mpr (by lia),Ga.mpr (by lia)]
   | some x=>
    obtain⟨d1,e1,q1⟩:=i3 h1 e;obtain⟨d2,e2,q2⟩:=i3 h2 e;rw[e1,e2,ih (FL (oq e1) hd) q1 q2 (oV ha e1 e2)]
  intro d e x hd h1 h2 ha;cases d with
  | sc v=>
   cases e with
   | sc w=>unfold Is at h1 h2;rw[<-h1.1,<-h2.1]
   | lst es=>unfold Alike at ha;exact ha.elim
   | tup es=>unfold Alike at ha;exact ha.elim
  | lst ds=>
   cases e with
   | sc w=>unfold Alike at ha;exact ha.elim
   | tup es=>unfold Alike at ha;exact ha.elim
   | lst es=>
    unfold Is at h1 h2;unfold Alike at ha;unfold dep at hd;obtain⟨a,xs,rfl,q1,p1⟩:=h1;obtain⟨b,ys,e,q2,p2⟩:=h2;cases e
    rw[I.tB q2 q1]at p2;rw[hl (by lia) p1 p2 ha]
  | tup ds=>
   cases e with
   | sc w=>unfold Alike at ha;exact ha.elim
   | lst es=>unfold Alike at ha;exact ha.elim
   | tup es=>
    unfold Is at h1 h2;unfold Alike at ha;unfold dep at hd;obtain⟨a,xs,rfl,q1,p1⟩:=h1;obtain⟨b,ys,e,q2,p2⟩:=h2;cases e
    rw[I.pN q2 q1]at p2;rw[hl (by lia) p1 p2 ha]
open Classical in
noncomputable def eqD (d e:Dt):Bool:=decide (d=e)
theorem dj{d e:Dt}(h:d=e):eqD d e=true:=by unfold eqD;simp [h]
theorem ji{d e:Dt}(h:d≠e):eqD d e=false:=by unfold eqD;simp [h]
theorem dB{d e:Dt}:eqD d e=true↔d=e:=by unfold eqD;simp
noncomputable def cB (ds es:List Dt)(j:Nat):Bool:=match ds[j]?,es[j]? with
 | some d,some e=>eqD d e
 | _,_=>true
theorem kJ{ds es:List Dt}(hl:ds.length=es.length):(List.range ds.length).all (cB ds es)=true↔ds=es:=by
 rw[GA];constructor
 ·intro h;refine List.ext_getElem? fun j=>?_
  by_cases q:j<ds.length
  ·have:=h j (FT.mpr q)
   unfold cB at this;rw[Fg q,Fg (by lia:j<es.length)]at this
   rw[Fg q,Fg (by lia:j<es.length),dB.mp this]
  ·rw[Ga.mpr (by lia),Ga.mpr (by lia)]
 ·rintro rfl j hj;have q:=FT.mp hj;unfold cB;rw[Fg q];exact dj rfl
noncomputable def EqJ (X:Cx)(H:Hp)(n:Nat)(x y:V)(b:Bool):Prop:=∀(pins:List (Addr×Obj))(s:Shared)(σ:L2.St)(u v:Value)(A:Around),Inv X pins σ H s->RelV x u->RelV y v->A.units+n<cLine->SeqAt.EqAt A s u v b
theorem kS{n:Nat}{ds es:List Dt}{ys:List V}(hd:bT ds<=n)(p1:IsL X.K H ds xs)(p2:IsL X.K H es ys)(ha:bx ds es)(ih:∀{d e:Dt}{x y:V},dep d<=n->Is X.K H d x->Is X.K H e y->Alike d e->EqJ X H n x y (eqD d e)){jts:List Value}(I:Inv X pins σ H s)(r1:Vals xs its)(r2:Vals ys jts)(hu:A.units+n<cLine) :
  ∀ j (h1:j<its.toArray.size) (h2:j<jts.toArray.size),SeqAt.EqAt A s its.toArray[j] jts.toArray[j] (cB ds es j):=by
 intro j h1 h2;simp only[FP]at h1 h2;have l1:=r1.length;have l2:=r2.length;obtain⟨d,e1,q1⟩:=i3 p1 (Fg (by lia:j<xs.length))
 obtain⟨e,e2,q2⟩:=i3 p2 (Fg (by lia:j<ys.length))
 obtain⟨u,hu1,ru⟩:=r1.get (Fg (by lia:j<xs.length))
 obtain⟨v,hv1,rv⟩:=r2.get (Fg (by lia:j<ys.length))
 have eu:its.toArray[j]=u:=by
  rw[Fg h1]at hu1;simpa using Fw hu1
 have ev:jts.toArray[j]=v:=by
  rw[Fg h2]at hv1;simpa using Fw hv1
 rw[eu,ev];unfold cB;rw[e1,e2];exact ih (FL (oq e1) hd) q1 q2 (oV ha e1 e2) pins s σ u v A I ru rv hu
theorem km{ds es:List Dt}:(Dt.lst ds=Dt.lst es)↔ds=es:=⟨fun h=>by cases h;rfl,fun h=>by rw[h]⟩
theorem gr{ds es:List Dt}:(Dt.tup ds=Dt.tup es)↔ds=es:=⟨fun h=>by cases h;rfl,fun h=>by rw[h]⟩
theorem eqj:∀(n:Nat){d e:Dt}{x y:V},dep d<=n->Is X.K H d x->Is X.K H e y->Alike d e->EqJ X H n x y (eqD d e):=by
 intro n;have flat:∀{m:Nat} {v w x y:V},Is X.K H (.sc v) x->Is X.K H (.sc w) y->Alike (.sc v) (.sc w)->EqJ X H m x y (eqD (.sc v) (.sc w)):=fun {m v w x y} h1 h2 ha pins s σ u v' A I r1 r2 _=>by
  unfold Is at h1 h2;unfold Alike at ha;obtain⟨rfl,f1⟩:=h1;obtain⟨rfl,f2⟩:=h2
  have:=sU (A:=A) (s:=s) r1 r2 f1 f2
  rw[xF f1 f2 ha]at this;have e:eqD (.sc x) (.sc y)=decide (x=y):=by
   by_cases q:x=y
   ·rw[Fq q,dj (by rw[q])]
   ·rw[FI q,ji (fun z=>q (by cases z;rfl))]
  rw[e];exact this
 induction n with
 | zero=>
  intro d e x y hd h1 h2 ha;cases d with
  | sc v=>
   cases e with
   | sc w=>exact flat h1 h2 ha
   | lst es=>unfold Alike at ha;exact ha.elim
   | tup es=>unfold Alike at ha;exact ha.elim
  | lst ds=>unfold dep at hd;lia
  | tup ds=>unfold dep at hd;lia
 | succ n ih=>
  intro d e x y hd h1 h2 ha;cases d with
  | sc v=>
   cases e with
   | sc w=>exact flat h1 h2 ha
   | lst es=>unfold Alike at ha;exact ha.elim
   | tup es=>unfold Alike at ha;exact ha.elim
  | lst ds=>
   cases e with
   | sc w=>unfold Alike at ha;exact ha.elim
   | tup es=>unfold Alike at ha;exact ha.elim
   | lst es=>
    intro pins s σ u v A I r1 r2 hu;have h1':=h1;have h2':=h2;unfold Is at h1 h2;unfold Alike at ha;have hd':=hd;unfold dep at hd';obtain⟨a,xs,rfl,q1,p1⟩:=h1;obtain⟨b,ys,rfl,q2,p2⟩:=h2;cases r1
    cases r2
    by_cases hab:a=b
    ·subst hab;rw[dj (lS I (n+1) hd h1' h2' (by unfold Alike;exact ha))]
     exact SeqAt.EqAt.same _
    ·obtain⟨its,v1,pl1,_⟩:=I.list q1;obtain⟨jts,v2,pl2,_⟩:=I.list q2;have l1:=v1.length;have l2:=v2.length;have m1:=dq p1;have m2:=dq p2
     by_cases hlen:ds.length=es.length
     ·have:=SeqAt.EqAt.of_refs hab (SeqAt.RcAt.lists (A:=A) (s:=s) pl1.isList pl2.isList (by simp;lia) (by lia) (e:=cB ds es) (kS (by lia) p1 p2 ha (fun h1 h2 h3 h4=>ih h1 h2 h3 h4) I v1 v2 (A:=A.in1) (by show A.units+1+n<cLine;lia)))
      have e:(List.range its.toArray.size).all (cB ds es)=eqD (.lst ds) (.lst es):=by
       rw[show its.toArray.size=ds.length by simp;lia]
       apply FU.mpr;rw[kJ hlen,dB,km]
      rw[e]at this;exact this
     ·rw[ji (fun z=>hlen (by rw[km.mp z]))]
      exact SeqAt.EqAt.of_refs hab (SeqAt.RcAt.lists_lengths pl1.isList pl2.isList (by simp;lia) (by lia))
  | tup ds=>
   cases e with
   | sc w=>unfold Alike at ha;exact ha.elim
   | lst es=>unfold Alike at ha;exact ha.elim
   | tup es=>
    intro pins s σ u v A I r1 r2 hu;have h1':=h1;have h2':=h2;unfold Is at h1 h2;unfold Alike at ha;have hd':=hd;unfold dep at hd';obtain⟨a,xs,rfl,q1,p1⟩:=h1;obtain⟨b,ys,rfl,q2,p2⟩:=h2;cases r1
    cases r2
    by_cases hab:a=b
    ·subst hab;rw[dj (lS I (n+1) hd h1' h2' (by unfold Alike;exact ha))]
     exact SeqAt.EqAt.same _
    ·obtain⟨its,v1,pl1,_⟩:=I.tuple q1;obtain⟨jts,v2,pl2,_⟩:=I.tuple q2;have l1:=v1.length;have l2:=v2.length;have m1:=dq p1;have m2:=dq p2
     have:=SeqAt.EqAt.of_refs hab (SeqAt.RcAt.tuples (A:=A) (s:=s) (show s.heap.IsTuple a its.toArray from pl1) (show s.heap.IsTuple b jts.toArray from pl2) (by lia) (e:=cB ds es) (kS (by lia) p1 p2 ha (fun h1 h2 h3 h4=>ih h1 h2 h3 h4) I v1 v2 (A:=A.in1) (by show A.units+1+n<cLine;lia)))
     have e:((List.range (min its.toArray.size jts.toArray.size)).all (cB ds es)&&its.toArray.size==jts.toArray.size)=eqD (.tup ds) (.tup es):=by
      by_cases hlen:ds.length=es.length
      ·rw[show min its.toArray.size jts.toArray.size=ds.length by simp;lia,show(its.toArray.size==jts.toArray.size)=true by simp;lia,Bool.and_true]
       apply FU.mpr;rw[kJ hlen,dB,gr]
      ·rw[show(its.toArray.size==jts.toArray.size)=false by simp;lia,Bool.and_false,ji (fun z=>hlen (by rw[gr.mp z]))]
     rw[e]at this;exact this
noncomputable def qv:Dt->Bool
 | .sc _=>false
 | _=>true
noncomputable def uL (K:PySem.W.Frag)(neg:Bool):R2:=fun x y H Q=>∃ d e,Is K H d x/\Is K H e y/\Alike d e/\qv d=true/\dep d<=40/\Q (.bl (if neg then !eqD d e else eqD d e)) H
theorem rcD{x y:V}{d e:Dt}(I:Inv X pins σ H s)(r1:RelV x u)(r2:RelV y v)(h1:Is X.K H d x)(h2:Is X.K H e y)(ha:Alike d e)(hs:qv d=true)(hd:dep d<=40)(hu:A.units+41<cLine) :
  SeqAt.RcAt A s u v (eqD d e)/\SeqAt.RcNeAt A s u v (!eqD d e):=by
 cases d with
 | sc v=>cases hs
 | lst ds=>
  cases e with
  | sc w=>unfold Alike at ha;exact ha.elim
  | tup es=>unfold Alike at ha;exact ha.elim
  | lst es=>
   unfold Is at h1 h2;unfold Alike at ha;unfold dep at hd;obtain⟨a,xs,rfl,q1,p1⟩:=h1;obtain⟨b,ys,rfl,q2,p2⟩:=h2;cases r1
   cases r2
   obtain⟨its,v1,pl1,_⟩:=I.list q1;obtain⟨jts,v2,pl2,_⟩:=I.list q2;have l1:=v1.length;have l2:=v2.length;have m1:=dq p1;have m2:=dq p2
   by_cases hlen:ds.length=es.length
   ·have parts:=kS (X:=X) (n:=40) (ds:=ds) (es:=es) (by lia) p1 p2 ha (fun h1 h2 h3 h4=>eqj 40 h1 h2 h3 h4) I v1 v2 (A:=A.in1) (by show A.units+1+40<cLine;lia)
    have t1:=SeqAt.RcAt.lists (A:=A) (s:=s) pl1.isList pl2.isList (by simp;lia) (by lia) (e:=cB ds es) parts
    have t2:=SeqAt.RcNeAt.lists (A:=A) (s:=s) pl1.isList pl2.isList (by simp;lia) (by lia) (e:=cB ds es) parts
    have e:(List.range its.toArray.size).all (cB ds es)=eqD (.lst ds) (.lst es):=by
     rw[show its.toArray.size=ds.length by simp;lia]
     apply FU.mpr;rw[kJ hlen,dB,km]
    rw[e]at t1 t2;exact⟨t1,t2⟩
   ·rw[ji (fun z=>hlen (by rw[km.mp z]))]
    exact⟨SeqAt.RcAt.lists_lengths pl1.isList pl2.isList (by simp;lia) (by lia),SeqAt.RcNeAt.lists_lengths pl1.isList pl2.isList (by simp;lia) (by lia)⟩
 | tup ds=>
  cases e with
  | sc w=>unfold Alike at ha;exact ha.elim
  | lst es=>unfold Alike at ha;exact ha.elim
  | tup es=>
   unfold Is at h1 h2;unfold Alike at ha;unfold dep at hd;obtain⟨a,xs,rfl,q1,p1⟩:=h1;obtain⟨b,ys,rfl,q2,p2⟩:=h2;cases r1
   cases r2
   obtain⟨its,v1,pl1,_⟩:=I.tuple q1;obtain⟨jts,v2,pl2,_⟩:=I.tuple q2;have l1:=v1.length;have l2:=v2.length;have m1:=dq p1;have m2:=dq p2;have parts:=kS (X:=X) (n:=40) (ds:=ds) (es:=es) (by lia) p1 p2 ha (fun h1 h2 h3 h4=>eqj 40 h1 h2 h3 h4) I v1 v2 (A:=A.in1) (by show A.units+1+40<cLine;lia)
   have t1:=SeqAt.RcAt.tuples (A:=A) (s:=s) (show s.heap.IsTuple a its.toArray from pl1) (show s.heap.IsTuple b jts.toArray from pl2) (by lia) (e:=cB ds es) parts
   have t2:=SeqAt.RcNeAt.tuples (A:=A) (s:=s) (show s.heap.IsTuple a its.toArray from pl1) (show s.heap.IsTuple b jts.toArray from pl2) (by lia) (e:=cB ds es) parts
   have e:((List.range (min its.toArray.size jts.toArray.size)).all (cB ds es)&&its.toArray.size==jts.toArray.size)=eqD (.tup ds) (.tup es):=by
    by_cases hlen:ds.length=es.length
    ·rw[show min its.toArray.size jts.toArray.size=ds.length by simp;lia,show(its.toArray.size==jts.toArray.size)=true by simp;lia,Bool.and_true]
     apply FU.mpr;rw[kJ hlen,dB,gr]
    ·rw[show(its.toArray.size==jts.toArray.size)=false by simp;lia,Bool.and_false,ji (fun z=>hlen (by rw[gr.mp z]))]
   rw[e]at t1 t2;exact⟨t1,t2⟩
theorem gA(hu:X.A.units+64<cLine):OpR X (compareOp .Eq) (uL X.K false):=by
 intro pins s σ H x y u v Q I rx ry h;obtain⟨d,e,h1,h2,ha,hs,hd,q⟩:=h
 exact(rcD I rx ry h1 h2 ha hs hd (by lia)).1 X.prog X.w _ _ ⟨.bl (eqD d e),H,I,rfl,q⟩
theorem lT(hu:X.A.units+64<cLine):OpR X (compareOp .NotEq) (uL X.K true):=by
 intro pins s σ H x y u v Q I rx ry h;obtain⟨d,e,h1,h2,ha,hs,hd,q⟩:=h
 exact(rcD I rx ry h1 h2 ha hs hd (by lia)).2 X.prog X.w _ _ ⟨.bl (!eqD d e),H,I,rfl,q⟩
noncomputable def zb (K:PySem.W.Frag)(neg:Bool):R2:=fun x y H Q=>∃ d a xs ds,y=.ref a/\SqL K H a xs/\IsL K H ds xs/\Is K H d x/\(∀ e∈ds,Alike e d/\dep e<=40)/\Q (.bl (if neg then !ds.any (fun e=>eqD e d) else ds.any (fun e=>eqD e d))) H
end
noncomputable def Eqs (P:Program)(w:World)(A:Around)(s:Shared)(u v:Value):Prop:=∀(E:Value->Shared->Prop)(Q:Bool->Shared->Prop),Q true s->wpAny (model P w) A (eqBool u v) Q E s
section
variable {P:Program}{w:World}{A:Around}{s:Shared}
theorem Eqs.refs(h:∀(E:Value->Shared->Prop)(Q:Value->Shared->Prop),Q (.bool true) s->wpAny (model P w) A (richCompare .Eq (.ref a) (.ref b)) Q E s):Eqs P w A s (.ref a) (.ref b):=fun E Q hq=>by
 by_cases hab:a=b
 ·subst hab;exact SeqAt.EqAt.same _ P w E Q hq
 ·unfold eqBool;refine F7 (wpAny_ite_split (fun z=>absurd (by have:=eq_of_beq z;injection this) hab) (fun _=>?_))
  exact E4 (h E _ (Gw hq))
end
section
variable {X:Cx}
end
theorem PE.weak{t t':TE}(h:PE X e t)(k:∀ σ H Q,t' σ H Q->t σ H Q):PE X e t':=fun pins s σ H Q I w=>h pins s σ H Q I (k σ H Q w)
theorem PS.weak{st:Stmt}{t t':TS}(h:PS X st t)(k:∀ D σ H,t' D σ H->t D σ H):PS X st t':=fun pins s σ H D I w=>h pins s σ H D I (k D σ H w)
theorem OpR.weak{f:Value->Value->Sem Value}{r r':R2}(h:OpR X f r)(k:∀ x y H Q,r' x y H Q->r x y H Q):OpR X f r':=fun pins s σ H x y v u Q I rx ry w=>h pins s σ H x y v u Q I rx ry (k x y H Q w)
theorem aH.weak{f:Value}{r r':List V->Hp->VK->Prop}(h:aH X f r)(k:∀ xs H Q,r' xs H Q->r xs H Q):aH X f r':=fun pins s σ H xs us Q I r w=>h pins s σ H xs us Q I r (k xs H Q w)
theorem MtR.weak{id:String}{r r':V->List V->Hp->VK->Prop}(h:MtR X id r)(k:∀ x xs H Q,r' x xs H Q->r x xs H Q):MtR X id r':=fun pins s σ H x xs v us Q I r1 r2 w=>h pins s σ H x xs v us Q I r1 r2 (k x xs H Q w)
noncomputable def bB (C:Prop):Prop:=C
noncomputable def Ext (H H':Hp):Prop:=∀ b o,H b=some o->H' b=some o
theorem Ext.refl:Ext H H:=fun _ _ h=>h
theorem Ext.trans(a:Ext H H1)(b:Ext H1 H2):Ext H H2:=fun c o h=>b c o (a c o h)
theorem Ext.up{o:HO}(e:Ext H H')(h:H a=some o):H' a=some o:=e a o h
theorem Ext.free(e:Ext H H')(h:H' p=none):H p=none:=by
 cases q:H p with
 | none=>rfl
 | some o=>rw[e p o q]at h;cases h
theorem cY{o:HO}(h:H p=none):Ext H (upd H p o):=fun b u q=>by rw[ar (aA q h)];exact q
theorem Ext.same(e:Ext H H'):L2.fO H H':=e
noncomputable def New (H:Hp)(o:HO)(Q:VK):Prop:=∀ p H',H p=none->H' p=some o->Ext H H'->Q (.ref p) H'
theorem New.at{o:HO}{Q:VK}(h:New H o Q)(hp:H p=none):Q (.ref p) (upd H p o):=h p _ hp aY (cY hp)
noncomputable def But (l:Addr)(H H':Hp):Prop:=∀ b,b≠l->H' b=H b
theorem But.up(m:But l H H'){o:HO}(n:a≠l)(h:H a=some o):H' a=some o:=by rw[m a n];exact h
noncomputable def dz (H:Hp)(l:Addr)(o:HO)(K:Hp->Prop):Prop:=∀ H',H' l=some o->But l H H'->K H'
theorem dz.at{o:HO}{K:Hp->Prop}(h:dz H l o K):K (upd H l o):=h _ aY fun b hb=>ar hb
noncomputable def RdL (H:Hp)(a:Addr)(xs:List V):Prop:=Rd H a (.lst xs)
noncomputable def RdT (H:Hp)(a:Addr)(xs:List V):Prop:=Rd H a (.tup xs)
noncomputable def RdD (H:Hp)(a:Addr)(kvs:List (L2.Key×V)):Prop:=Rd H a (.dK kvs)
theorem Ext.rd{u:HO}(e:Ext H H')(h:Rd H a u):Rd H' a u:=by
 rcases h with h|⟨o,h⟩
 ·exact .inl (e _ _ h)
 ·exact .inr ⟨o,e _ _ h⟩
theorem RdL.sq{K:PySem.W.Frag}(h:RdL H a xs):SqL K H a xs:=.inl h
theorem RdT.sq{K:PySem.W.Frag}(h:RdT H a xs):SqT K H a xs:=.inl h
section
variable {X:Cx}
noncomputable def nD (i:Nat):TE:=fun σ H Q=>match σ[i]? with|some (some v)=>Q v H|_=>False
theorem C5(σ:L2.St)(H:Hp)(Q:VK)(h:nD i σ H Q):mw i σ H Q:=by
 unfold nD at h;unfold mw
 split at h
 ·rename_i v e;exact⟨v,e,h⟩
 ·exact h.elim
theorem q_v(i:Nat)(hN:X.N[i]? =some x:=by rfl)(hv:Vis X.env.scope x:=by first|exact Or.inl rfl|exact Or.inr (Or.inl rfl)|exact Or.inr (Or.inr rfl))(hd:(x==("__debug__":Str))=false:=by decide) (hcd:(x==("__classdict__":Str))=false:=by decide):PE X (.Name x pos) (nD i):=PE.weak (AQ hN hv hd hcd) C5
noncomputable def uI (C:Int->Int->Prop)(g:Int->Int->V):R2:=fun x y H Q=>match x,y with
 | .int i,.int j=>bB (C i j)/\Q (g i j) H
 | _,_=>False
theorem jZ{C:Int->Int->Prop}{g:Int->Int->V}(x y:V)(H:Hp)(Q:VK)(h:uI C g x y H Q):rI C g x y H Q:=by
 unfold uI at h
 split at h
 ·exact⟨_,_,rfl,rfl,h.1,h.2⟩
 ·exact h.elim
noncomputable def uI0 (g:Int->Int->V):R2:=fun x y H Q=>match x,y with
 | .int i,.int j=>Q (g i j) H
 | _,_=>False
theorem oI{g:Int->Int->V}(x y:V)(H:Hp)(Q:VK)(h:uI0 g x y H Q):rI0 g x y H Q:=by
 unfold uI0 at h
 split at h
 ·exact⟨_,_,rfl,rfl,h⟩
 ·exact h.elim
noncomputable def rT:R2:=fun x y H Q=>match x,y with
 | .int i,.int j=>Q (.int (i+j)) H
 | .str i,.str j=>bB (i.length+j.length<=sizeLine)/\Q (.str (i++j)) H
 | .ref a,.ref b=>∃ xs,H a=some (.lst xs)/\∃ ys,H b=some (.lst ys)/\bB (xs.length+ys.length<=sizeLine)/\New H (.lst (xs++ys)) Q
 | _,_=>False
theorem bU:OpR X (binaryOp .Add) rT:=by
 intro pins s σ H x y v u Q I rx ry h;unfold rT at h
 split at h
 ·exact Bp pins s σ H _ _ v u Q I rx ry ⟨_,_,rfl,rfl,h⟩
 ·exact zA pins s σ H _ _ v u Q I rx ry ⟨_,_,rfl,rfl,h.1,h.2⟩
 ·obtain⟨xs,ha,ys,hb,hz,q⟩:=h;exact yE pins s σ H _ _ v u Q I rx ry ⟨_,_,xs,ys,rfl,rfl,ha,hb,hz,fun p hp=>q.at hp⟩
 ·exact h.elim
theorem ff:OpR X (binaryOp .Mult) (uI jJ fun i j=>.int (i*j)):=OpR.weak yF jZ
theorem cG:OpR X (binaryOp .FloorDiv) (uI rV fun i j=>.int (i / j)):=OpR.weak yd jZ
theorem bM:OpR X (binaryOp .Mod) (uI (fun _ j=>0<j) fun i j=>.int (i%j)):=OpR.weak Ap jZ
theorem lY:OpR X (compareOp .Lt) (uI0 fun i j=>.bl (decide (i<j))):=OpR.weak BZ oI
theorem jX:OpR X (compareOp .LtE) (uI0 fun i j=>.bl (decide (i<=j))):=OpR.weak Dg oI
theorem jR:OpR X (compareOp .Gt) (uI0 fun i j=>.bl (decide (j<i))):=OpR.weak xt oI
theorem cP:OpR X (compareOp .Eq) rEq:=Dm
theorem kO:OpR X (compareOp .NotEq) rNe:=CS
noncomputable def jV (neg:Bool):R2:=fun x y H Q=>match y with
 | .non=>Q (.bl (if neg then !decide (x=.non) else decide (x=.non))) H
 | _=>False
theorem pL:OpR X (compareOp .Is) (jV false):=OpR.weak Cu fun x y H Q h=>by unfold jV at h;split at h;exact⟨rfl,h⟩;exact h.elim
theorem mx:OpR X (compareOp .IsNot) (jV true):=OpR.weak DL fun x y H Q h=>by unfold jV at h;split at h;exact⟨rfl,h⟩;exact h.elim
noncomputable def kZ (neg:Bool):R2:=fun x y H Q=>match y with
 | .ref p=>∃ xs,RdL H p xs/\bB (bP x=true/\xs.all bP=true)/\Q (.bl (if neg then !inV x xs else inV x xs)) H
 | _=>False
theorem rW{K:PySem.W.Frag}{neg:Bool}(x y:V)(H:Hp)(Q:VK)(h:kZ neg x y H Q):rIn K neg x y H Q:=by
 unfold kZ at h
 split at h
 ·obtain⟨xs,h1,⟨h2,h3⟩,q⟩:=h;exact⟨_,xs,rfl,.inl h1.sq,h2,h3,q⟩
 ·exact h.elim
theorem qJ:OpR X (compareOp .In) (kZ false):=OpR.weak uw rW
theorem mR:OpR X (compareOp .NotIn) (kZ true):=OpR.weak Ds rW
noncomputable def qc (neg:Bool):R2:=fun x y H Q=>match x,y with
 | .str i,.str j=>Q (.bl (if neg then !(!(Builtin.Str.occurrences j i 0 j.length 1).isEmpty) else !(Builtin.Str.occurrences j i 0 j.length 1).isEmpty)) H
 | _,_=>False
theorem Bm:OpR X (compareOp .In) (qc false):=OpR.weak EB fun x y H Q h=>by unfold qc at h;split at h;exact⟨_,_,rfl,rfl,h⟩;exact h.elim
noncomputable def uT (t:TE):TT:=fun σ H Q=>t σ H fun x H'=>match x with | .bl k=>Q k H'|_=>False
end
section
variable {X:Cx}{a b c:Expr}{ta tb tc:TE}{pos:Pos}
theorem Cp{op:CmpOp}{r:R2}(ho:OpR X (compareOp op) r)(ha:PE X a ta)(hb:PE X b tb)(hm:behindInMarks op b=false):PT X (.Compare a [op] [b] pos) (uT (tOp r ta tb)):=by
 intro pins s σ H Q I h;refine wpAny_isTrue_Compare1 (thn (ha pins s σ H _ I h) fun v s1 ⟨x,H1,I1,r1,q1⟩=>thn (hb pins s1 σ H1 _ I1 q1) fun u s2 ⟨y,H2,I2,r2,q2⟩=>
  thn (ho pins s2 σ H2 x y v u _ I2 r1 r2 q2) fun c s3 ⟨z,H3,I3,r3,q3⟩=>?_) hm
 dsimp only at q3
 split at q3
 ·cases r3
  exact Gw ⟨H3,I3,q3⟩
 ·exact q3.elim
theorem eD{t:TE}(h:PE X e t)(he:∀ whole,isTrue e X.env whole=(do let v <-whole;standAt e.pos;holding [v] (truthy v)):=by intro _;rfl):PT X e (uT t):=by
 intro pins s σ H Q I hw;refine isTrue_plain (thn (h pins s σ H _ I hw) fun v s1 ⟨x,H1,I1,r1,q1⟩=>?_) (he _)
 dsimp only at q1
 split at q1
 ·cases r1
  exact Gw ⟨H1,I1,q1⟩
 ·exact q1.elim
noncomputable def uTL (t:TE):TT:=fun σ H Q=>t σ H fun x H'=>match x with | .ref p=>∃ xs,RdL H' p xs/\Q (!xs.isEmpty) H'|_=>False
theorem ua{t:TE}(h:PE X e t)(he:∀ whole,isTrue e X.env whole=(do let v <-whole;standAt e.pos;holding [v] (truthy v)):=by intro _;rfl):PT X e (uTL t):=by
 intro pins s σ H Q I hw;refine isTrue_plain (thn (h pins s σ H _ I hw) fun v s1 ⟨x,H1,I1,r1,q1⟩=>?_) (he _)
 dsimp only at q1
 split at q1
 ·obtain⟨xs,hx,q⟩:=q1;exact su pins s1 σ H1 _ v Q I1 r1 ⟨_,.inl ⟨xs,hx.sq,rfl⟩,q⟩
 ·exact q1.elim
noncomputable def u4 (r r':R2)(ta tb tc:TE):TE:=fun σ H Q=>ta σ H fun x H1=>tb σ H1 fun y H2=>r x y H2 fun z H3=>match z with
 | .bl k=>(if k=true then tc σ H3 fun w' H4=>r' y w' H4 Q else Q (.bl false) H3)
 | _=>False
theorem xR{op op':CmpOp}{r r':R2}(ho:OpR X (compareOp op) r)(ho':OpR X (compareOp op') r')(ha:PE X a ta)(hb:PE X b tb)(hc:PE X c tc)(hm:lastMarks [op,op'] [b,c]=false:=by with_unfolding_all rfl):PE X (.Compare a [op,op'] [b,c] pos) (u4 r r' ta tb tc):=by
 intro pins s σ H Q I h;refine Compare_chain (thn (ha pins s σ H _ I h) fun v s1 ⟨x,H1,I1,r1,q1⟩=>chain_link (thn (hb pins s1 σ H1 _ I1 q1) fun u s2 ⟨y,H2,I2,r2,q2⟩=>
  thn (ho pins s2 σ H2 x y v u _ I2 r1 r2 q2) fun d s3 ⟨z,H3,I3,r3,q3⟩=>?_)) hm
 dsimp only at q3
 split at q3
 ·rename_i k
  cases r3
  refine Gw ?_;cases k with
  | false=>exact ite_ff ⟨.bl false,H3,I3,rfl,q3⟩
  | true=>exact ite_tt (chain_last (thn (hc pins s3 σ H3 _ I3 q3) fun w' s4 ⟨z',H4,I4,r4,q4⟩=>ho' pins s4 σ H4 y z' u w' Q I4 r2 r4 q4))
 ·exact q3.elim
theorem Bg{op op':CmpOp}{r r':R2}(ho:OpR X (compareOp op) r)(ho':OpR X (compareOp op') r')(ha:PE X a ta)(hb:PE X b tb)(hc:PE X c tc)(hm:lastMarks [op,op'] [b,c]=false:=by with_unfolding_all rfl):PT X (.Compare a [op,op'] [b,c] pos) (uT (u4 r r' ta tb tc)):=by
 intro pins s σ H Q I h;refine isTrue_chain (thn (ha pins s σ H _ I h) fun v s1 ⟨x,H1,I1,r1,q1⟩=>test_link (thn (hb pins s1 σ H1 _ I1 q1) fun u s2 ⟨y,H2,I2,r2,q2⟩=>
  thn (ho pins s2 σ H2 x y v u _ I2 r1 r2 q2) fun d s3 ⟨z,H3,I3,r3,q3⟩=>?_)) hm
 dsimp only at q3
 split at q3
 ·rename_i k
  cases r3
  refine Gw ?_;cases k with
  | false=>exact ite_ff ⟨H3,I3,q3⟩
  | true=>
   refine ite_tt (test_last (thn (hc pins s3 σ H3 _ I3 q3) fun w' s4 ⟨z',H4,I4,r4,q4⟩=>thn (ho' pins s4 σ H4 y z' u w' _ I4 r2 r4 q4) fun d' s5 hZ=>?_))
   obtain⟨z2,H5,I5,r5,q5⟩:=hZ
   try dsimp only at q5
   split at q5
   ·cases r5
    exact Gw ⟨H5,I5,q5⟩
   ·exact q5.elim
 ·exact q3.elim
noncomputable def Ao (ta tb:TE):TE:=fun σ H Q=>ta σ H fun x H1=>match x with | .bl c=>(if c=true then tb σ H1 Q else Q (.bl false) H1)|_=>False
noncomputable def AV (ta tb:TE):TE:=fun σ H Q=>ta σ H fun x H1=>match x with | .bl c=>(if c=true then Q (.bl true) H1 else tb σ H1 Q)|_=>False
variable {rest:List Expr}
theorem o7(ha:PE X a ta)(hb:PE X (.BoolOp .And (b::rest) pos) tb):PE X (.BoolOp .And (a::b::rest) pos) (Ao ta tb):=by
 intro pins s σ H Q I h;refine BoolOp_and (thn (ha pins s σ H _ I h) fun v s1 hZ=>?_)
 obtain⟨x,H1,I1,r1,q1⟩:=hZ
 try dsimp only at q1
 split at q1
 ·rename_i c
  cases r1
  refine Gw ?_;cases c with
  | false=>exact⟨.bl false,H1,I1,rfl,q1⟩
  | true=>exact hb pins s1 σ H1 Q I1 q1
 ·exact q1.elim
end
noncomputable def clE (t:TE):TE:=fun σ H Q=>∃ Q0:VK,t σ H Q0/\∀ v H',Q0 v H'->Q v H'
noncomputable def clA (t:TA):TA:=fun σ H Q=>∃ Q0:List V->Hp->Prop,t σ H Q0/\∀ v H',Q0 v H'->Q v H'
theorem PE.cl{t:TE}(h:PE X e t):PE X e (clE t):=fun pins s σ H Q I ⟨Q0,w,k⟩=>thn (h pins s σ H Q0 I w) fun _ _ ⟨v,H',I',r,q⟩=>⟨v,H',I',r,k v H' q⟩
theorem PA.cl{es:List Expr}{t:TA}(h:PA X es t):PA X es (clA t):=fun pos pins s σ H Q I ⟨Q0,w,k⟩=>thn (h pos pins s σ H Q0 I w) fun _ _ ⟨v,H',I',r,q⟩=>⟨v,H',I',r,k v H' q⟩
section
variable {X:Cx}{a b c e o:Expr}{ta tb tc te:TE}{pos:Pos}
noncomputable def qZ:R2:=fun x y H Q=>match x,y with
 | .ref p,.int i=>∃ xs,RdL H p xs/\∃ v,atI xs i=some v/\Q v H
 | .str z,.int i=>bB (z.length<=sizeLine)/\∃ c,atI z.cps.toList i=some c/\Q (.str ⟨#[c]⟩) H
 | _,_=>False
theorem bD:IxR X qZ:=by
 intro value slice pins s σ H x y v u Q I rx ry h;unfold qZ at h
 split at h
 ·obtain⟨xs,hx,w,hw,q⟩:=h;exact vF value slice pins s σ H _ _ v u Q I rx ry ⟨_,xs,_,w,rfl,rfl,hx.sq,hw,q⟩
 ·obtain⟨hz,c,hc,q⟩:=h;exact BU value slice pins s σ H _ _ v u Q I rx ry ⟨_,_,c,rfl,rfl,hz,hc,q⟩
 ·exact h.elim
noncomputable def uN:R2:=fun x y H Q=>match x,y with
 | .ref p,.int i=>∃ xs,RdT H p xs/\∃ v,atI xs i=some v/\Q v H
 | _,_=>False
theorem aI:IxR X uN:=by
 intro value slice pins s σ H x y v u Q I rx ry h;unfold uN at h
 split at h
 ·obtain⟨xs,hx,w,hw,q⟩:=h;exact xq value slice pins s σ H _ _ v u Q I rx ry ⟨_,xs,_,w,rfl,rfl,hx.sq,hw,q⟩
 ·exact h.elim
noncomputable def ED (t:TE):TO:=fun σ H Q=>t σ H fun x H1=>match x with | .int i=>Q (some i) H1|_=>False
theorem df(h:PE X e te):PO X (some e) (ED te):=by
 intro pins s σ H Q I hw;rw[evalPart_some];refine thn (h pins s σ H _ I hw) fun u s1 hZ=>?_
 obtain⟨x,H1,I1,r1,q1⟩:=hZ
 try dsimp only at q1
 split at q1
 ·obtain⟨t,rfl⟩:=r1;exact⟨some _,H1,I1,.int _ t,q1⟩
 ·exact q1.elim
noncomputable def uSl:V->Option Int->Option Int->Hp->VK->Prop:=fun x lo hi H Q=>match x with
 | .ref p=>∃ xs,RdL H p xs/\New H (.lst (cN xs lo hi)) Q
 | .str z=>bB (z.length<=sizeLine)/\Q (.str (Txt.slice z lo hi)) H
 | _=>False
theorem fk:SlR X uSl:=by
 intro pins s σ H x v vl vu lo hi sl Q I rx hs pl pu h;unfold uSl at h
 split at h
 ·obtain⟨xs,hx,q⟩:=h;exact xX pins s σ H _ v vl vu lo hi sl Q I rx hs pl pu ⟨_,xs,rfl,hx.sq,fun p hp=>q.at hp⟩
 ·exact Ak pins s σ H _ v vl vu lo hi sl Q I rx hs pl pu ⟨_,rfl,h.1,h.2⟩
 ·exact h.elim
noncomputable def uRev (te:TE):TE:=fun σ H Q=>te σ H fun x H1=>match x with
 | .ref p=>∃ xs,RdL H1 p xs/\New H1 (.lst xs.reverse) Q
 | _=>False
noncomputable def yH (t:TA):TE:=fun σ H Q=>t σ H fun xs H1=>bB (xs.length<=sizeLine)/\New H1 (.lst xs) Q
noncomputable def yM (t:TA):TE:=fun σ H Q=>t σ H fun xs H1=>bB (xs.length<=sizeLine)/\New H1 (.tup xs) Q
variable {es:List Expr}{t:TA}
theorem bw(h:PA X es t):PE X (.List es pos) (yH t):=by
 intro pins s σ H Q I hq;refine wpAny_List_spliced (thn (h pos pins s σ H _ I hq) fun us s1 ⟨xs,H1,I1,r,z,q⟩=>⟨by rw[<-r.length];exact z,?_⟩)
 have hf:H1 s1.heap.objs.size=none:=I1.hok.fresh (E7 _);exact⟨.ref s1.heap.objs.size,upd H1 s1.heap.objs.size (.lst xs),I1.laid (t':=s1.toks) (fun b u e=>E8 _ e) (E7 _) ⟨z,us,0,r,Fv _ rfl⟩,rfl,q.at hf⟩
theorem cM{x1}(h:PA X es t):PE X (.Tuple es x1 pos) (yM t):=by
 intro pins s σ H Q I hq;refine wpAny_Tuple_spliced (thn (h pos pins s σ H _ I hq) fun us s1 ⟨xs,H1,I1,r,z,q⟩=>⟨by rw[<-r.length];exact z,?_⟩)
 have hf:H1 s1.heap.objs.size=none:=I1.hok.fresh (E7 _);exact⟨.ref s1.heap.objs.size,upd H1 s1.heap.objs.size (.tup xs),I1.laid (t':=s1.toks) (fun b u e=>E8 _ e) (E7 _) ⟨z,us,r,⟨_,Fv _ rfl,rfl,_,rfl⟩⟩,rfl,q.at hf⟩
noncomputable def Er:TE:=fun _ H Q=>New H (.dK []) Q
theorem nN:PE X (.Dict [] [] pos) Er:=PE.weak BR fun _ _ _ h p hp=>h.at hp
noncomputable def BF (C:Addr)(ta:TE)(f:Str):TE:=fun σ H Q=>ta σ H fun x H1=>match x with
 | .ref p=>∃ dx fs,H1 p=some (.ins C dx fs)/\∃ v,fs.lookup f=some v/\Q v H1
 | _=>False
theorem iw{f:Str}(cl:Cls X.K C)(na:cU X.K C f)(he:PE X e ta)(hb:attributeBase e f X.env (eval e X.env)=eval e X.env:=by rfl):PE X (.Attribute e f pos) (BF C ta f):=
 PE.weak (xN (PE.cl he) hb) fun σ H Q h=>⟨_,h,fun x H1 q=>by
  try dsimp only at q
  split at q
  ·obtain⟨dx,fs,h1,v,h2,q⟩:=q;exact⟨_,C,dx,fs,v,rfl,h1,cl,na,h2,q⟩
  ·exact q.elim⟩
noncomputable def Dz (C:Addr)(ta tv:TE)(f:Str):TS:=fun D σ H=>tv σ H fun y H1=>ta σ H1 fun x H2=>match x with
 | .ref p=>∃ dx fs,H2 p=some (.ins C dx fs)/\bB (fs.length<1000)/\dz H2 p (.ins C dx (ck f y fs)) (D.nx σ)
 | _=>False
theorem iy{f:Str}{value:Expr}{tv:TE}(cl:Cls X.K C)(na:cU X.K C f)(ha:PE X o ta)(hv:PE X value tv)(hs:swapsWith value (some (.Attribute o f pos')) pos.line X.env=pure false:=by rfl):PS X (.Assign [.Attribute o f pos'] value pos) (Dz C ta tv f):=
 PS.weak (yB (PE.cl ha) (PE.cl hv) hs) fun D σ H h=>⟨_,h,fun y H1 h1=>⟨_,h1,fun x H2 q=>by
  try dsimp only at q
  split at q
  ·obtain⟨dx,fs,h1,h2,q⟩:=q;exact⟨_,C,dx,fs,rfl,h1,cl,na,h2,q.at⟩
  ·exact q.elim⟩⟩
variable {CX:CXT}{k:Nat}{f C:Addr}{fd:FuncData}{ps:List Str}{sp:Sp}{dvs:List V}{ds:List Value}{E:XK}{x m:Str}{p apos:Pos}
structure Known (P:Program)(w:World)(K:PySem.W.Frag)(mg:Str->Option Value)(base:Heap)(k:Nat)(x:Str)(ps:List Str)(sp:Sp):Prop where
 ex:∃ f fd,ao P w K mg base CX0 k f fd ps sp/\mg x=some (.ref f)/\PySem.W.keepIn K (.ref f)=true/\Binds K fd ps []
noncomputable def yI (sp:Sp)(t:TA):TE:=fun σ H Q=>t σ H fun vs H1=>sp vs H1 Q E0
theorem aw(F:Known X.prog X.w X.K X.mg X.base k x ps sp)(hr:aE k X.A)(ha:PA X (e::es) t)(hg:Gl X x:=by rfl)(hdb:(x==("__debug__":Str))=false:=by decide) (he:starEach (e::es) X.env=(false,eval e X.env)::starEach es X.env:=by rfl) (hpl:(backTo pos (starEach es X.env)).any (·.1)=false:=by rfl):PE X (.Call (.Name x p) (e::es) [] pos) (yI sp t):=by
 obtain⟨f,fd,F,mgf,kp,b⟩:=F.ex;refine PE.weak (yj F hr hg mgf kp b .nil (iE (X:=X)) (PA.cl ha) hdb he hpl) fun σ H Q h=>⟨_,h,fun vs H1 q=>?_⟩
 show sp (vs++[]) H1 Q E0
 rw[FR];exact q
structure cu (P:Program)(w:World)(K:PySem.W.Frag)(mg:Str->Option Value)(base:Heap)(k:Nat)(C:Addr)(m:Str)(ps:List Str)(sp:Sp):Prop where
 ex:∃ f fd,ao P w K mg base CX0 k f fd ps sp/\Meth K C m f/\Binds K fd ps []
noncomputable def tQ (C:Addr)(m:Str)(sp:Sp)(ta:TE)(t:TA):TE:=fun σ H Q=>ta σ H fun x H1=>match x with
 | .ref a=>∃ dx fs,H1 a=some (.ins C dx fs)/\bB (fs.lookup m=none)/\t σ H1 fun vs H2=>sp (.ref a::vs) H2 Q E0
 | _=>False
theorem kU{pl:Sem Bool}(he:PE X o ta)(c:Cls X.K C)(F:cu X.prog X.w X.K X.mg X.base k C m ps sp)(hr:aE k X.A)(ha:PA X (e::es) t)(hst:starEach (e::es) X.env=(false,eval e X.env)::starEach es X.env:=by rfl)(hpl:(backTo pos (starEach es X.env)).any (·.1)=false:=by rfl)(ht:eval (.Call (.Attribute o m apos) (e::es) [] pos) X.env=(do
   let ov <-eval o X.env
   standAt apos.atName
   let (f,first) <-holding [ov] (getMethod ov m pl)
   callWith pos f first (backTo pos (starEach (e::es) X.env)) (backToKw pos (keywordEach [] X.env))):=by rfl):PE X (.Call (.Attribute o m apos) (e::es) [] pos) (tQ C m sp ta t):=by
 obtain⟨f,fd,F,me,b⟩:=F.ex;refine PE.weak (zt (PE.cl he) c me F hr b .nil (iE (X:=X)) (PA.cl ha) hst hpl ht) fun σ H Q h=>⟨_,h,fun x H1 q=>?_⟩
 try dsimp only at q
 split at q
 ·obtain⟨dx,fs,h1,h2,q⟩:=q;exact⟨_,dx,fs,rfl,h1,h2,_,q,fun vs H2 q=>by show sp (_::(vs++[])) H2 Q E0;rw[FR];exact q⟩
 ·exact q.elim
theorem jb{pl:Sem Bool}(he:PE X o ta)(c:Cls X.K C)(F:cu X.prog X.w X.K X.mg X.base k C m ps sp)(hr:aE k X.A)(ht:eval (.Call (.Attribute o m apos) [] [] pos) X.env=(do
   let ov <-eval o X.env
   standAt apos.atName
   let (f,first) <-holding [ov] (getMethod ov m pl)
   callWith pos f first (backTo pos (starEach [] X.env)) (backToKw pos (keywordEach [] X.env))):=by rfl):PE X (.Call (.Attribute o m apos) [] [] pos) (tQ C m sp ta gy):=by
 obtain⟨f,fd,F,me,b⟩:=F.ex;refine PE.weak (AL (PE.cl he) c me F hr b .nil (iE (X:=X)) ht) fun σ H Q h=>⟨_,h,fun x H1 q=>?_⟩
 try dsimp only at q
 split at q
 ·obtain⟨dx,fs,h1,h2,q⟩:=q;exact⟨_,dx,fs,rfl,h1,h2,by
   show sp (.ref _::([]++[])) H1 Q E0
   exact q⟩
 ·exact q.elim
structure kM (P:Program)(w:World)(K:PySem.W.Frag)(mg:Str->Option Value)(base:Heap)(k:Nat)(x:Str)(C:Addr)(ps:List Str)(sp:Sp):Prop where
 ex:∃ f fd,Mk K C f/\ao P w K mg base CX0 k f fd ps sp/\mg x=some (.ref C)/\Binds K fd ps []
noncomputable def B2 (C:Addr)(sp:Sp)(t:TA):TE:=fun σ H Q=>t σ H fun vs H1=>∀ x dx H',H1 x=none->H1 dx=none->H' x=some (.ins C dx [])->Ext H1 H' →
 sp (.ref x::vs) H' (fun v H2=>v=.non/\Q (.ref x) H2) E0
theorem CT(F:kM X.prog X.w X.K X.mg X.base k x C ps sp)(hr:aE (k+1) X.A)(ha:PA X (e::es) t)(hg:Gl X x:=by rfl)(hdb:(x==("__debug__":Str))=false:=by decide) (he:starEach (e::es) X.env=(false,eval e X.env)::starEach es X.env:=by rfl) (hpl:(backTo pos (starEach es X.env)).any (·.1)=false:=by rfl):PE X (.Call (.Name x p) (e::es) [] pos) (B2 C sp t):=by
 obtain⟨f,fd,M,F,mgC,b⟩:=F.ex;refine PE.weak (xg M F hr hg mgC b .nil (iE (X:=X)) (PA.cl ha) hdb he hpl) fun σ H Q h=>⟨_,h,fun vs H1 q y dx hy hdx hne=>?_⟩
 show sp (_::(vs++[])) _ _ E0
 rw[FR];refine q y dx _ hy hdx aY fun b o hb=>?_
 rw[ar (aA hb hy),ar (aA hb hdx)];exact hb
end
section
variable {X:Cx}{a b c e o:Expr}{ta tb tc te:TE}{pos p apos cpos:Pos}{es:List Expr}{t:TA}
noncomputable def rf:List V->Hp->VK->Prop:=fun xs H Q=>match xs with
 | [.ref p]=>∃ ys,RdL H p ys/\Q (.int ys.length) H
 | [.str z]=>bB (z.length<=sizeLine)/\Q (.int z.length) H
 | _=>False
theorem cI:aH X (.builtin "len") rf:=by
 intro pins s σ H xs us Q I r h;unfold rf at h
 split at h
 ·obtain⟨ys,hy,q⟩:=h;exact qp pins s σ H _ us Q I r ⟨_,ys,rfl,.inl hy.sq,q⟩
 ·exact Ac pins s σ H _ us Q I r ⟨_,rfl,h.1,h.2⟩
 ·exact h.elim
noncomputable def vg (any:Bool):List V->Hp->VK->Prop:=fun xs H Q=>match xs with
 | [.ref p]=>∃ bs:List Bool,RdL H p (bs.map V.bl)/\Q (.bl (if any then bs.any id else bs.all id)) H
 | _=>False
theorem vB(hc:X.calm=true):aH X (.builtin "all") (vg false):=aH.weak (AA hc) fun xs H Q h=>by
 unfold vg at h
 split at h
 ·obtain⟨bs,hb,q⟩:=h;exact⟨_,bs,rfl,hb.sq,q⟩
 ·exact h.elim
noncomputable def sM:List V->Hp->VK->Prop:=fun xs H Q=>match xs with
 | [.ref p]=>∃ ys,RdL H p ys/\New H (.lst ys) Q
 | _=>False
theorem uu:aH X (.type "list") sM:=aH.weak qY fun xs H Q h=>by
 unfold sM at h
 split at h
 ·obtain⟨ys,hy,q⟩:=h;exact⟨_,ys,rfl,.inl hy.sq,fun l hl=>q.at hl⟩
 ·exact h.elim
noncomputable def tS:List V->Hp->VK->Prop:=fun xs H Q=>match xs with
 | [.ref p]=>∃ kvs,RdD H p kvs/\New H (.dK kvs) Q
 | _=>False
theorem vN:aH X (.type "dict") tS:=aH.weak yy fun xs H Q h=>by
 unfold tS at h
 split at h
 ·obtain⟨ys,hy,q⟩:=h;exact⟨_,ys,rfl,hy,fun l hl=>q.at hl⟩
 ·exact h.elim
noncomputable def kD (r:V->List V->Hp->VK->Prop)(to:TE)(t:TA):TE:=fun σ H Q=>to σ H fun x H1=>match x with
 | .ref l=>∃ xs,RdL H1 l xs/\t σ H1 fun vs H2=>r (.ref l) vs H2 Q
 | _=>False
theorem vO{K:PySem.W.Frag}{r:V->List V->Hp->VK->Prop}{to:TE}{t:TA}(σ:L2.St)(H:Hp)(Q:VK)(h:kD r to t σ H Q):tBM K "list" r (clE to) (clA t) σ H Q:=⟨_,h,fun x H1 q=>by
 split at q
 ·obtain⟨xs,hx,q⟩:=q;exact⟨.inl ⟨rfl,xs,hx.sq⟩,_,q,fun _ _ z=>z⟩
 ·exact q.elim⟩
theorem zg{K:PySem.W.Frag}{r:V->List V->Hp->VK->Prop}{to:TE}(σ:L2.St)(H:Hp)(Q:VK)(h:kD r to gy σ H Q):rA K "list" r (clE to) σ H Q:=⟨_,h,fun x H1 q=>by
 split at q
 ·obtain⟨xs,hx,q⟩:=q;exact⟨.inl ⟨rfl,xs,hx.sq⟩,q⟩
 ·exact q.elim⟩
noncomputable def px:V->List V->Hp->VK->Prop:=fun x vs H Q=>match x,vs with
 | .ref l,[y]=>∃ xs,H l=some (.lst xs)/\bB (xs.length<sizeLine)/\dz H l (.lst (xs++[y])) (Q .non)
 | _,_=>False
theorem B9:MtR X "list.append" px:=MtR.weak rF fun x vs H Q h=>by
 unfold px at h
 split at h
 ·obtain⟨xs,hx,hz,q⟩:=h;exact⟨_,xs,_,rfl,rfl,hx,hz,q.at⟩
 ·exact h.elim
noncomputable def oo:V->List V->Hp->VK->Prop:=fun x vs H Q=>match x,vs with
 | .ref l,[]=>∃ xs,H l=some (.lst xs)/\dz H l (.lst xs.reverse) (Q .non)
 | _,_=>False
theorem xm:MtR X "list.reverse" oo:=MtR.weak D8 fun x vs H Q h=>by
 unfold oo at h
 split at h
 ·obtain⟨xs,hx,q⟩:=h;exact⟨_,xs,rfl,rfl,hx,q.at⟩
 ·exact h.elim
noncomputable def keyOf:V->Option L2.Key
 | .int i=>some (.inl i)
 | .str x=>some (.inr x)
 | _=>none
theorem gT{y:V}{k:L2.Key}(h:keyOf y=some k):y=kV k:=by
 unfold keyOf at h
 split at h
 ·cases h;rfl
 ·cases h;rfl
 ·cases h
noncomputable def vG (td ty:TE):TE:=fun σ H Q=>td σ H fun x H1=>match x with
 | .ref p=>∃ kvs,RdD H1 p kvs/\ty σ H1 fun y H2=>∃ kvs,RdD H2 p kvs/\∃ k,keyOf y=some k/\Q ((aN kvs k).getD .non) H2
 | _=>False
theorem wW(hu:X.A.units+64<cLine)(ho:PE X o ta)(he:PE X e te)(m:M1 X o "get" apos e cpos):PE X (.Call (.Attribute o "get" apos) [e] [] cpos) (vG ta te):=
 PE.weak (Aq (by lia) (PE.cl ho) (PE.cl he) m) fun σ H Q h=>⟨_,h,fun x H1 q=>by
  split at q
  ·obtain⟨kvs,hk,q⟩:=q;exact⟨_,rfl,.inl ⟨kvs,hk⟩,_,q,fun y H2 q=>by
    obtain⟨kvs,hk,k,hy,q⟩:=q;exact⟨_,.inl ⟨kvs,k,hk,gT hy,rfl⟩,q⟩⟩
  ·exact q.elim⟩
noncomputable def CO (td ty tv:TE):TS:=fun D σ H=>tv σ H fun v H1=>td σ H1 fun x H2=>match x with
 | .ref p=>ty σ H2 fun y H3=>∃ kvs,H3 p=some (.dK kvs)/\bB (kvs.length<sizeLine)/\∃ k,keyOf y=some k/\dz H3 p (.dK (putK kvs k v)) (D.nx σ)
 | _=>False
theorem lP{value:Expr}{tv:TE}(hu:X.A.units+64<cLine)(ho:PE X o ta)(hi:PE X e te)(hv:PE X value tv)(hs:swapsWith value (some (.Subscript o e pos')) pos.line X.env=pure false:=by rfl) :
  PS X (.Assign [.Subscript o e pos'] value pos) (CO ta te tv):=
 PS.weak (zZ (by lia) (PE.cl ho) (PE.cl hi) (PE.cl hv) hs) fun D σ H h=>⟨_,h,fun v H1 h1=>⟨_,h1,fun x H2 q=>by
  split at q
  ·exact⟨_,q,fun y H3 q=>by
    obtain⟨kvs,hk,hz,k,hy,q⟩:=q;exact⟨_,_,rfl,.inl ⟨kvs,k,hk,gT hy,hz,rfl⟩,q.at⟩⟩
  ·exact q.elim⟩⟩
end
theorem oa{α:Type} [DecidableEq α]:∀{ys ks:List α},ys.Nodup->(∀ k,k∈ys->k∈ks)->ys.length<=ks.length
 | [],ks,_,_=>FG _
 | y::ys,ks,nd,h=>by
  obtain⟨h1,h2⟩:=Gg.mp nd;have hy:=h y (Fd ..)
  have:=oa (ks:=ks.erase y) h2 fun k hk=>(List.mem_erase_of_ne (fun z:k=y=>h1 (by rw[<-z];exact hk))).mpr (h k (Ff _ hk))
  rw[List.length_erase_of_mem hy]at this;have hp:0<ks.length:=List.length_pos_of_mem hy;rw[Fy];lia
section
variable {X:Cx}{a b c e o:Expr}{ta tb tc te:TE}{pos p p1 p2 pos2 apos cpos:Pos}{es:List Expr}{t:TA}
noncomputable def vY (te:TE):TE:=fun σ H Q=>te σ H fun x H1=>match x with
 | .ref l=>∃ ks:List Ky,RdL H1 l (ks.map kV)/\∃ b:Bool,bB ((∀ k∈ks,isI k=b)/\ks.length<=60)/\New H1 (.lst ((srt kLt ks).map kV)) Q
 | _=>False
theorem nv(hc:X.calm=true)(he:PE X e te)(hm:X.mg "sorted" = none) (hm2:X.mg "set" = none) (hg:Gl X "sorted":=by rfl) (hg2:Gl X "set":=by rfl) (hs:starEach [e] X.env=[(false,eval e X.env)]:=by rfl) (hs2:starEach [.Call (.Name "set" p2) [e] [] pos2] X.env=[(false,eval (.Call (.Name "set" p2) [e] [] pos2) X.env)]:=by rfl) :
  PE X (.Call (.Name "sorted" p) [.Call (.Name "set" p2) [e] [] pos2] [] pos) (vY te):=by
 refine PE.weak (nz (xp hc) hg hm (by rfl) (aa (mU (xZ hc) hg2 hm2 (by rfl) (aa (PE.cl he) ab hs) (he:=hs) (hpl:=by rfl)) ab hs2) (he:=hs2) (hpl:=by rfl)) fun σ H Q h=>?_
 refine⟨_,h,fun x H1 q=>?_⟩
 split at q
 ·obtain⟨ks,hk,b,⟨h1,h2⟩,n⟩:=q;refine⟨_,ks,rfl,hk.sq,h2,fun q ys hq nd hm=>⟨q,ys,b,rfl,aY,nd,fun k hk=>h1 k ((hm k).mp hk),?_,fun r hr=>?_⟩⟩
  ·have:=oa nd fun k hk=>(hm k).mp hk
   lia
  ·have e:srt kLt ys=srt kLt ks:=kj (dI b) (fun k hk=>h1 k ((hm k).mp hk)) hm
   rw[e];have ex:Ext H1 (upd H1 q (dS X.w q (ys.map kV))):=cY hq;exact n r _ (ex.free hr) aY (ex.trans (cY hr))
 ·exact q.elim
noncomputable def xw (te:TE):TE:=fun σ H Q=>te σ H fun x H1=>match x with
 | .ref l=>∃ ps:List (List Ky×Addr),RdL H1 l (ps.map fun p=>V.ref p.2)/\∃ sh:List Bool,(∀ p∈ps,H1 p.2=some (.tup (p.1.map kV))/\p.1.map isI=true::sh)/\bB (ps.length<=60) ∧
   ∀(r:Addr) (out:List (List Ky×Addr)) (H':Hp),H1 r=none->H' r=some (.lst (out.map fun q=>V.ref q.2))->Ext H1 H'->out.map (·.1)=srt cT (ps.map (·.1))->(∀ q∈out,q∈ps)->Q (.ref r) H'
 | _=>False
theorem Eg(hc:X.calm=true)(hu:X.A.units+64<cLine)(he:PE X e te)(hm:X.mg "sorted" = none) (hm2:X.mg "set" = none) (hg:Gl X "sorted":=by rfl) (hg2:Gl X "set":=by rfl) (hs:starEach [e] X.env=[(false,eval e X.env)]:=by rfl) (hs2:starEach [.Call (.Name "set" p2) [e] [] pos2] X.env=[(false,eval (.Call (.Name "set" p2) [e] [] pos2) X.env)]:=by rfl) :
  PE X (.Call (.Name "sorted" p) [.Call (.Name "set" p2) [e] [] pos2] [] pos) (xw te):=by
 refine PE.weak (nz (Dk hc) hg hm (by rfl) (aa (mU (yG hc hu) hg2 hm2 (by rfl) (aa (PE.cl he) ab hs) (he:=hs) (hpl:=by rfl)) ab hs2) (he:=hs2) (hpl:=by rfl)) fun σ H Q h=>?_
 refine⟨_,h,fun x H1 q=>?_⟩
 split at q
 ·obtain⟨ps,hp,sh,h1,h2,n⟩:=q;refine⟨_,ps,rfl,hp.sq,fun p hp=>(h1 p hp).1,h2,fun q qs hq nd hin hm hl=>?_⟩
  have ex:Ext H1 (upd H1 q (dS X.w q (qs.map fun q=>V.ref q.2))):=cY hq
  refine⟨q,qs,sh,rfl,aY,nd,fun x hx=>⟨ex.up (h1 x (hin x hx)).1,(h1 x (hin x hx)).2⟩,(by have h2:ps.length<=60:=h2;lia),fun r out hr ho hso hol=>?_⟩
  refine n r out _ (ex.free hr) aY (ex.trans (cY hr)) ?_ fun z hz=>hin z (hso z hz)
  rw[ho];refine kj (lN (true::sh)) (fun k hk=>?_) hm
  obtain⟨z,hz,rfl⟩:=E5.mp hk
  exact(h1 z (hin z hz)).2
 ·exact q.elim
noncomputable def qO (K:PySem.W.Frag):List V->Hp->VK->Prop:=fun xs H Q=>match xs with
 | [x,.ty n]=>∃ t,cL K H x t/\∃ b,PySem.W.kitOne K t (.type n)=some b/\Q (.bl b) H
 | _=>False
theorem oO:aH X (.builtin "isinstance") (qO X.K):=aH.weak Bq fun xs H Q h=>by
 unfold qO at h
 split at h
 ·obtain⟨t,h1,b,h2,q⟩:=h;exact⟨_,_,t,b,rfl,h1,h2,q⟩
 ·exact h.elim
end
structure Wk (J:It)(H:Hp)(xs:List V):Prop where
 go:∀ i H',Ext H H'->i<xs.length->J.go i H'
 yld:∀ i H' x H2,Ext H H'->i<xs.length->J.yld i H' x H2->H2=H'/\xs[i]? =some x
 stop:∀ H',Ext H H'->J.stop xs.length H'
theorem dM{K:PySem.W.Frag}(h:RdL H a xs):Wk (Itl K a) H xs where
 go:=fun i H' e hi=>⟨xs,xs[i],(show RdL H' a xs from e.rd h).sq,by simp [hi]⟩
 yld:=fun i H' x H2 e hi y=>⟨y.1,y.2 xs (show RdL H' a xs from e.rd h).sq⟩
 stop:=fun H' e=>⟨xs,(show RdL H' a xs from e.rd h).sq,E7 _⟩
theorem ym(z:Str):Wk (Its z) H (z.cps.toList.map fun c=>V.str ⟨#[c]⟩) where
 go:=fun i H' e hi=>by
  show i<z.cps.size
  simpa using hi
 yld:=fun i H' x H2 e hi y=>by
  obtain⟨rfl,c,hc,rfl⟩:=y;refine⟨rfl,?_⟩;rw[E9,FE,hc];rfl
 stop:=fun H' e=>by
  show z.length<=_
  simp
  exact E7 _
theorem jn(lo:Int)(n:Nat):Wk (Itr lo n) H ((List.range n).map fun(k:Nat)=>V.int (lo+k)) where
 go:=fun i H' e hi=>by
  show i<n
  simpa using hi
 yld:=fun i H' x H2 e hi y=>by
  obtain⟨rfl,rfl⟩:=y;refine⟨rfl,?_⟩;have hi:i<n:=by simpa using hi
  rw[E9,List.getElem?_range hi];rfl
 stop:=fun H' e=>by
  show n<=_
  simp
structure fe (fr:List (Option Nat))(σ:L2.St)(g:TG)(tif:TT)(te:TE)(J:It)(H1:Hp)(Q:VK):Prop where
 run:∀ D:Addr,H1 D=none →
  ∃ W:Nat->Nat->List V->Hp->Prop,(∃ m,W 0 m [] (upd H1 D (.lst [])))/\∀ i m acc H,W i m acc H->H D=some (.lst acc)/\acc.length<sizeLine ∧
   ((J.stop i H/\Q (.ref D) H)\/(J.go i H/\∀ x H2,J.yld i H x H2->g x (frV fr σ) H2 fun σ' H3=>cQ fr σ σ'/\tif σ' H3 fun b H4=>
    if b=true then te σ' H4 fun y H5=>H5 D=some (.lst acc)/\∃ m',m'<m/\W (i+1) m' (acc++[y]) (upd H5 D (.lst (acc++[y]))) else ∃ m',m'<m/\W (i+1) m' acc H4))
theorem CA{J:It}{fr:List (Option Nat)}{g:TG}{Q:VK}(wk:Wk J H1 xs)(hz:xs.length<sizeLine)(f:Nat->Option V)(step:∀(i:Nat)(x:V)(H:Hp)(K:Option V->Hp->Prop),xs[i]? =some x->Ext H1 H->(∀ H',Ext H H'->K (f i) H')->g x (frV fr σ) H fun σ' H3=>cQ fr σ σ'/\tif σ' H3 fun b H4=>if b=true then te σ' H4 fun y H5=>K (some y) H5 else K none H4)(fin:New H1 (.lst ((List.range xs.length).filterMap f)) Q):fe fr σ g tif te J H1 Q:=by
 refine⟨?_⟩;intro D hD;refine⟨fun i m acc H=>m=xs.length-i/\i<=xs.length/\acc=(List.range i).filterMap f/\H D=some (.lst acc)/\Ext H1 H,⟨xs.length,by simp,FG _,by simp,aY,cY hD⟩,?_⟩
 rintro i m acc H ⟨rfl,hi,hacc,hDa,ex⟩;have hl:acc.length<=xs.length:=by
  rw[hacc];refine FL (List.length_filterMap_le _ _) ?_;rw[F2];lia
 refine⟨hDa,by lia,?_⟩
 by_cases hlt:i<xs.length
 ·refine .inr ⟨wk.go i H ex hlt,fun x H2 y=>?_⟩
  obtain⟨rfl,hx⟩:=wk.yld i H x H2 ex hlt y;refine step i x _ (fun o H'=>match o with
   | some y=>H' D=some (.lst acc)/\∃ m',m'<xs.length-i/\m'=xs.length-(i+1)/\i+1<=xs.length/\acc++[y]=(List.range (i+1)).filterMap f/\(upd H' D (.lst (acc++[y]))) D=some (.lst (acc++[y]))/\Ext H1 (upd H' D (.lst (acc++[y])))
   | none=>∃ m',m'<xs.length-i/\m'=xs.length-(i+1)/\i+1<=xs.length/\acc=(List.range (i+1)).filterMap f/\H' D=some (.lst acc)/\Ext H1 H') hx ex fun H' ex'=>?_
  cases hf:f i with
  | some y=>
   refine⟨ex'.up hDa,_,(by lia:xs.length-(i+1)<xs.length-i),rfl,hlt,?_,aY,fun b o hb=>?_⟩
   ·rw[List.range_succ,List.filterMap_append,hacc]
    simp [hf]
   ·rw[ar (aA hb hD)];exact ex'.up (ex.up hb)
  | none=>
   refine⟨_,(by lia:xs.length-(i+1)<xs.length-i),rfl,hlt,?_,ex'.up hDa,ex.trans ex'⟩
   rw[List.range_succ,List.filterMap_append,hacc]
   simp [hf]
 ·have e:i=xs.length:=by lia
  subst e;subst hacc;exact .inl ⟨wk.stop H ex,fin D H hD hDa ex⟩
theorem pG{α β:Type}(f:α->Option β):∀ zs:List α,(List.range zs.length).filterMap (fun i=>(zs[i]?).bind f)=zs.filterMap f
 | []=>rfl
 | a::r=>by
  rw[Fy,List.range_succ_eq_map,FN,List.filterMap_map,FN];have e:((fun i=>((a::r)[i]?).bind f)∘Nat.succ)=fun i=>(r[i]?).bind f:=by funext i;simp
  rw[e,pG f r]
  simp
theorem eE{α:Type}{enc:α->V}{zs:List α}{J:It}{fr:List (Option Nat)}{g:TG}{Q:VK}(f:α->Option V)(wk:Wk J H1 (zs.map enc))(hz:zs.length<sizeLine)(step:∀(i:Nat)(a:α)(H:Hp)(K:Option V->Hp->Prop),zs[i]? =some a->Ext H1 H->(∀ H',Ext H H'->K (f a) H')->g (enc a) (frV fr σ) H fun σ' H3=>cQ fr σ σ'/\tif σ' H3 fun b H4=>if b=true then te σ' H4 fun y H5=>K (some y) H5 else K none H4)(fin:New H1 (.lst (zs.filterMap f)) Q):fe fr σ g tif te J H1 Q:=by
 refine CA wk (by rw[E3];exact hz) (fun i=>(zs[i]?).bind f) (fun i x H K hx ex k=>?_) (by rw[E3,pG];exact fin)
 rw[E9,Fl]at hx;obtain⟨a,ha,rfl⟩:=hx;refine step i a H K ha ex fun H' ex'=>?_
 have:=k H' ex'
 rw[ha]at this;exact this
theorem gx{α:Type}{enc:α->V}{zs:List α}{J:It}{fr:List (Option Nat)}{g:TG}{Q:VK}(f:α->V)(wk:Wk J H1 (zs.map enc))(hz:zs.length<sizeLine)(step:∀(i:Nat)(a:α)(H:Hp)(K:V->Hp->Prop),zs[i]? =some a->Ext H1 H->(∀ H',Ext H H'->K (f a) H')->g (enc a) (frV fr σ) H fun σ' H3=>cQ fr σ σ'/\te σ' H3 K)(fin:New H1 (.lst (zs.map f)) Q)(hg:∀ x σ H (Q Q':L2.St->Hp->Prop),(∀ v H',Q v H'->Q' v H')->g x σ H Q->g x σ H Q':=by intro x σ H Q Q' k q;exact k _ _ q):fe fr σ g (fun _ H Q=>Q true H) te J H1 Q:=by
 refine eE (fun a=>some (f a)) wk hz (fun i a H K ha ex k=>?_) (by rw[show(fun a=>some (f a))=some∘f from rfl,List.filterMap_eq_map];exact fin)
 refine hg _ _ _ _ _ (fun σ' H3 q=>⟨q.1,?_⟩) (step i a H (fun y H'=>K (some y) H') ha ex k)
 show if true=true then _ else _
 rw[if_pos rfl];exact q.2
theorem PI.weak{it:Expr}{w w':TI}(h:PI X tg it w)(k:∀ σ H R,w' σ H R->w σ H R):PI X tg it w':=fun pins s σ H R I q=>h pins s σ H R I (k σ H R q)
theorem PI.cl{it:Expr}{w:TI}(h:PI X tg it w):PI X tg it (fun σ H R=>∃ R0:It->Hp->Prop,w σ H R0/\∀ J H1,R0 J H1->R J H1):=fun pins s σ H R I ⟨R0,q,k⟩=>
 thn (h pins s σ H R0 I q) fun v s1 h1=>thn h1 fun itv s2 ⟨it,fp,tn,J,H',e,I',T,st,f,r⟩=>⟨it,fp,tn,J,H',e,I',T,st,f,k J H' r⟩
noncomputable def lC (fr:List (Option Nat))(wi:TI)(g:TG)(tif:TT)(te:TE):TE:=fun σ H Q=>wi σ H fun J H1=>fe fr σ g tif te J H1 Q
structure jc (g:TG)(tb:TS)(D:Ends)(σ:L2.St)(J:It)(H1:Hp):Prop where
 run:∃ W:Nat->Nat->L2.St->Hp->Prop,(∃ m,W 0 m σ H1)/\∀ i m σ H,W i m σ H →
  (J.stop i H/\D.nx σ H)\/(J.go i H/\∃ N:L2.St->Hp->Prop,(∀ σ' H',N σ' H'->∃ m',m'<m/\W (i+1) m' σ' H')/\∀ x H',J.yld i H x H'->g x σ H' fun σ2 H2=>tb { D with nx:=N,ct:=N,bk:=D.nx } σ2 H2)
noncomputable def DV (wi:TI)(g:TG)(tb:TS):TS:=fun D σ H=>wi σ H fun J H1=>jc g tb D σ J H1
theorem bC{wi:TI}{g:TG}{tb:TS}(hp:PassesOwn (model X.prog X.w) X.A X.env X.xe)(hc:X.calm=true)(hi:PI X tg iter wi)(hg:PG X tg g)(hb:PSs X body tb)(hs:∀ x,foldedSetIterable iter X.env x=pure x:=by intro _;rfl):PS X (.For tg iter body [] pos) (DV wi g tb):=
 PS.weak (Dh hp hc (PI.cl hi) hg hb hs) fun D σ H h=>⟨_,h,fun J H1 q=>q.run⟩
section
variable {X:Cx}{tg l a b e o:Expr}{tl ta tb te:TE}{pos p apos cpos:Pos}
noncomputable def uIL (K:PySem.W.Frag)(tl:TE):TI:=fun σ H R=>tl σ H fun x H1=>match x with
 | .ref a=>∃ xs,RdL H1 a xs/\R (Itl K a) H1
 | _=>False
theorem bg(hl:PE X l tl):PI X tg l (uIL X.K tl):=PI.weak (BC (PE.cl hl)) fun σ H R h=>⟨_,h,fun x H1 q=>by
 split at q
 ·obtain⟨xs,hx,q⟩:=q;exact⟨_,rfl,⟨xs,hx.sq⟩,q⟩
 ·exact q.elim⟩
noncomputable def uIS (tl:TE):TI:=fun σ H R=>tl σ H fun x H1=>match x with
 | .str z=>R (Its z) H1
 | _=>False
theorem Bt(hl:PE X l tl):PI X tg l (uIS tl):=PI.weak (Du (PE.cl hl)) fun σ H R h=>⟨_,h,fun x H1 q=>by
 split at q
 ·exact⟨_,rfl,q⟩
 ·exact q.elim⟩
noncomputable def uIR (ta:TE):TI:=fun σ H R=>ta σ H fun x H1=>match x with
 | .int j=>bB (-(2^62)<=j/\j<2^62)/\R (Itr 0 j.toNat) H1
 | _=>False
theorem fj(ha:PE X a ta)(hm:X.mg "range" = none) (hg:Gl X "range":=by rfl) (hs:starEach [a] X.env=[(false,eval a X.env)]:=by rfl):PI X tg (.Call (.Name "range" p) [a] [] pos) (uIR ta):=
 PI.weak (zD hg hm (aa (PE.cl ha) ab hs) hs) fun σ H R h=>⟨_,h,fun x H1 q=>by
  split at q
  ·exact⟨_,rfl,q.1.1,q.1.2,q.2⟩
  ·exact q.elim⟩
noncomputable def uII (td:TE):TI:=fun σ H R=>td σ H fun x H1=>match x with
 | .ref a=>∃ kvs,H1 a=some (.dK kvs)/\∀ o,dz H1 a (.frz o (.dK kvs)) (R (Itd o a kvs))
 | _=>False
theorem Ej{elts:List Expr}{x1:Nat}(hd:PE X o ta)(hbase:attributeBase o "items" X.env (eval o X.env)=eval o X.env:=by rfl) (hline:(apos.endLine==cpos.line)=true:=by rfl) :
  PI X (.Tuple elts x1 pos') (.Call (.Attribute o "items" apos) [] [] cpos) (uII ta):=PI.weak (Et (PE.cl hd) hbase hline) fun σ H R h=>⟨_,h,fun x H1 q=>by
  split at q
  ·obtain⟨kvs,h1,q⟩:=q;exact⟨_,kvs,rfl,h1,fun o=>(q o).at⟩
  ·exact q.elim⟩
noncomputable def uGL (n:Nat)(t:TGs):TG:=fun v σ H Q=>match v with
 | .ref a=>∃ xs,RdL H a xs/\bB (xs.length=n)/\t xs σ H Q
 | _=>False
noncomputable def uGT (n:Nat)(t:TGs):TG:=fun v σ H Q=>match v with
 | .ref a=>∃ xs,RdT H a xs/\bB (xs.length=n)/\t xs σ H Q
 | _=>False
noncomputable def lu:TGs:=fun vs σ H Q=>match vs with
 | []=>Q σ H
 | _=>False
noncomputable def jL (t:TG)(u:TGs):TGs:=fun vs σ H Q=>match vs with
 | v::r=>t v σ H fun σ' H'=>u r σ' H' Q
 | _=>False
theorem eU:PGs X [] lu:=fun pins s σ H vs us Q I r h=>A7 pins s σ H vs us Q I r (by
 unfold lu at h
 split at h
 ·exact⟨rfl,h⟩
 ·exact h.elim)
theorem bJ{es:List Expr}{t:TG}{u:TGs}(h1:PG X e t)(h2:PGs X es u)(hs:(assignEach (e::es) X.env).map (·.2)=assign e X.env::(assignEach es X.env).map (·.2):=by rfl):PGs X (e::es) (jL t u):=fun pins s σ H vs us Q I r h=>Ax h1 h2 hs pins s σ H vs us Q I r (by
 unfold jL at h
 split at h
 ·exact⟨_,_,rfl,h⟩
 ·exact h.elim)
theorem Dc{es:List Expr}{k:Nat}{t:TGs}{n:Nat}(hc:X.calm=true)(h:PGs X es t)(hn:(assignEach es X.env).length=n:=by rfl)(hst:(assignEach es X.env).findIdx? (·.1)=none:=by rfl):PG X (.Tuple es k pos) (uGL n t):=fun pins s σ H v u Q I r h'=>yT hc h hn hst pins s σ H v u Q I r (by
 unfold uGL at h'
 split at h'
 ·obtain⟨xs,h1,h2,q⟩:=h';exact⟨_,xs,rfl,h1.sq,h2,q⟩
 ·exact h'.elim)
theorem fq{es:List Expr}{k:Nat}{t:TGs}{n:Nat}(hc:X.calm=true)(h:PGs X es t)(hn:(assignEach es X.env).length=n:=by rfl)(hst:(assignEach es X.env).findIdx? (·.1)=none:=by rfl):PG X (.Tuple es k pos) (uGT n t):=fun pins s σ H v u Q I r h'=>vP hc h hn hst pins s σ H v u Q I r (by
 unfold uGT at h'
 split at h'
 ·obtain⟨xs,h1,h2,q⟩:=h';exact⟨_,xs,rfl,h1.sq,h2,q⟩
 ·exact h'.elim)
theorem bZ{K:PySem.W.Frag}{a:Addr}{g:TG}{tb:TS}(Pv:Nat->L2.St->Hp->Prop)(h0:Pv 0 σ H)(hl:∀ i σ H,i<=xs.length->Pv i σ H->RdL H a xs)(hs:∀ i x σ H,xs[i]? =some x->Pv i σ H->g x σ H fun σ2 H2=>tb { D with nx:=Pv (i+1),ct:=Pv (i+1),bk:=D.nx } σ2 H2)(hd:∀ σ H,Pv xs.length σ H->D.nx σ H) :
  jc g tb D σ (Itl K a) H:=⟨wy (xs:=xs) Pv h0 (fun i σ H hi p=>(hl i σ H hi p).sq) hs hd⟩
theorem jr{lo:Int}{n:Nat}{g:TG}{tb:TS}(Pv:Nat->L2.St->Hp->Prop)(h0:Pv 0 σ H)(hs:∀ i σ H,i<n->Pv i σ H->g (.int (lo+i)) σ H fun σ2 H2=>tb { D with nx:=Pv (i+1),ct:=Pv (i+1),bk:=D.nx } σ2 H2)(hd:∀ σ H,Pv n σ H->D.nx σ H):jc g tb D σ (Itr lo n) H:=⟨AE Pv h0 hs hd⟩
theorem vX{o:Obj}{a:Addr}{kvs:List (L2.Key×V)}{g:TG}{tb:TS}(Pv:Nat->L2.St->Hp->Prop)(h0:Pv 0 σ H)(hl:∀ i σ H,i<=kvs.length->Pv i σ H->H a=some (.frz o (.dK kvs)))(hs:∀ i k v p σ H H',kvs[i]? =some (k,v)->H p=none->H' p=some (.tup [kV k,v])->Ext H H'->Pv i σ H->g (.ref p) σ H' fun σ2 H2=>tb { D with nx:=Pv (i+1),ct:=Pv (i+1),bk:=D.nx } σ2 H2)(hd:∀ σ H,Pv kvs.length σ H->D.nx σ H):jc g tb D σ (Itd o a kvs) H:=
 ⟨zh Pv h0 hl (fun i k v p σ H hk hp pv=>hs i k v p σ H _ hk hp aY (cY hp) pv) hd⟩
variable {x:Str}{es:List Expr}{t:TA}{id T:String}{r:List V->Hp->VK->Prop}
theorem oZ{tk:Tok}(hm:X.mg x=some (.int n tk))(hg:Gl X x:=by rfl)(hd:(x==("__debug__":Str))=false:=by decide):PE X (.Name x pos) (tC (.int n)):=tP hg hm ⟨tk,rfl⟩ hd
theorem CL{tk:Tok}(hm:X.mg x=some (.str z tk))(hg:Gl X x:=by rfl)(hd:(x==("__debug__":Str))=false:=by decide):PE X (.Name x pos) (tC (.str z)):=tP hg hm ⟨tk,rfl⟩ hd
theorem oC{n:String}(hm:X.mg x=none)(hv:bootBuiltins x=some (.type n):=by rfl)(hg:Gl X x:=by rfl)(hn:x≠"__name__":=by decide) (hd:(x==("__debug__":Str))=false:=by decide):PE X (.Name x pos) (tC (.ty n)):=DO hg hm hv rfl hn hd
theorem q_b(hc:aH X (.builtin id) r)(hm:X.mg x=none)(ha:PA X (e::es) t)(hv:bootBuiltins x=some (.builtin id):=by rfl)(hg:Gl X x:=by rfl)(hn:x≠"__name__":=by decide) (hdb:(x==("__debug__":Str))=false:=by decide) (he:starEach (e::es) X.env=(false,eval e X.env)::starEach es X.env:=by rfl) (hpl:(backTo pos (starEach es X.env)).any (·.1)=false:=by rfl):PE X (.Call (.Name x p) (e::es) [] pos) (tCB r t):=nz hc hg hm hv ha hn hdb he hpl
theorem q_t(hc:aH X (.type T) r)(hm:X.mg x=none)(ha:PA X (e::es) t)(hv:bootBuiltins x=some (.type T):=by rfl)(hg:Gl X x:=by rfl)(hn:x≠"__name__":=by decide) (hdb:(x==("__debug__":Str))=false:=by decide) (he:starEach (e::es) X.env=(false,eval e X.env)::starEach es X.env:=by rfl) (hpl:(backTo pos (starEach es X.env)).any (·.1)=false:=by rfl):PE X (.Call (.Name x p) (e::es) [] pos) (tCB r t):=mU hc hg hm hv ha hn hdb he hpl
theorem dD{op:CmpOp}{r:R2}(ho:OpR X (compareOp op) r)(ha:PE X a ta)(hb:PE X b tb)(hm:behindInMarks op b=false:=by with_unfolding_all rfl):PE X (.Compare a [op] [b] pos) (tOp r ta tb):=Dp ho ha hb hm
theorem aG{op:CmpOp}{r:R2}(ho:OpR X (compareOp op) r)(ha:PE X a ta)(hb:PE X b tb)(hm:behindInMarks op b=false:=by with_unfolding_all rfl):PT X (.Compare a [op] [b] pos) (uT (tOp r ta tb)):=Cp ho ha hb hm
end
noncomputable def lh (esc:Scope)(l:List (Str×NameKind)):List (Str×NameKind):=l.map fun(n,k)=>if (k==.free&&esc.kind==.function&&esc.names.lookup n==some .cell) then(n,NameKind.cell) else(n,k)
noncomputable def cW (N:List Str)(esc scope:Scope):List Str->List (Option Nat)->Bool
 | x::N',some j::fr=>N[j]?==some x&&scope.names.contains (x,NameKind.free)&&((lh esc scope.names).lookup x==some .cell||(lh esc scope.names).lookup x==some .free)&&cW N esc scope N' fr
 | _::N',none::fr=>cW N esc scope N' fr
 | [],[]=>true
 | _,_=>false
noncomputable def gG (N:List Str)(esc scope:Scope)(N':List Str)(fr:List (Option Nat)):Bool:=
 scope.kind==.function&&esc.kind==.function&&scope.names.all (fun y=>y.2 !=.cell)&&scope.names.all (fun y=>y.2 !=.local||scope.names.lookup y.1==some .local) &&
 scope.names.all (fun y=>y.2 !=.free||(esc.names.lookup y.1==some .cell||esc.names.lookup y.1==some .free))&&cW N esc scope N' fr
theorem nr{esc:Scope}:∀{N':List Str}{fr:List (Option Nat)},cW N esc scope N' fr=true->N'.length=fr.length
 | [],[],_=>rfl
 | [],_::_,h=>by simp [cW]at h
 | _::_,[],h=>by simp [cW]at h
 | x::N',some j::fr,h=>by
  simp only[cW,F1]at h;rw[Fy,Fy,nr h.2]
 | x::N',none::fr,h=>by
  simp only[cW]at h;rw[Fy,Fy,nr h]
theorem mB{esc:Scope}:∀{N':List Str}{fr:List (Option Nat)},cW N esc scope N' fr=true->∀(i j:Nat)(x:Str),fr[i]? =some (some j)->N'[i]? =some x →
  N[j]? =some x/\(x,NameKind.free)∈scope.names/\((lh esc scope.names).lookup x=some .cell\/(lh esc scope.names).lookup x=some .free)
 | [],[],_,i,j,x,h,_=>by simp at h
 | [],_::_,h,_,_,_,_,_=>by simp [cW]at h
 | _::_,[],h,_,_,_,_,_=>by simp [cW]at h
 | y::N',some k::fr,h,i,j,x,h1,h2=>by
  simp only[cW,F1]at h;cases i with
  | zero=>
   simp at h1 h2;subst h1;subst h2
   obtain⟨⟨⟨a,b⟩,c⟩,_⟩:=h;refine⟨by simpa using a,by simpa using b,?_⟩
   simpa using c
  | succ i=>exact mB h.2 i j x (by simpa using h1) (by simpa using h2)
 | y::N',none::fr,h,i,j,x,h1,h2=>by
  simp only[cW]at h;cases i with
  | zero=>simp at h1
  | succ i=>exact mB h i j x (by simpa using h1) (by simpa using h2)
theorem jY{esc:Scope}{fr:List (Option Nat)}(h:gG N esc scope N' fr=true)(e:env.scope=esc):gW N env scope N' fr:=by
 simp only[gG,F1,GA]at h;obtain⟨⟨⟨⟨⟨h1,h2⟩,h3⟩,h4⟩,h5⟩,h6⟩:=h;subst e;refine⟨by simpa using h1,by simpa using h2,nr h6,fun y hy=>by simpa using h3 y hy,fun y hy hl=>?_,fun y hy hl=>?_,fun i j x a b=>?_⟩
 ·have:=h4 y hy
  rw[hl]at this;simpa using this
 ·have:=h5 y hy
  rw[hl]at this;simpa using this
 ·exact mB h6 i j x a b
section
variable {X:Cx}
theorem eW(N:List Str)(esc:Scope)(N':List Str)(fr:List (Option Nat)){wi:TI}{g:TG}(hc:X.calm=true)(hi:PI X tg iter wi)(hg:∀ C s₁ H₁ ex,PG (bo X scope C N' s₁ H₁ ex) tg g)(he:∀ C s₁ H₁ ex,PE (bo X scope C N' s₁ H₁ ex) elt te)(S:gG N esc scope N' fr=true:=by decide +kernel)(eN:X.N=N:=by rfl)(e:X.env.scope=esc:=by rfl)(hs:∀ x,foldedSetIterable iter X.env x=pure x:=by intro _;rfl):PE X (.ListComp elt [⟨tg,iter,[],0⟩] scope pos) (lC fr wi g (fun _ H Q=>Q true H) te):=
 PE.weak (qK hc (eN▸jY S e) (PI.cl hi) hg (fun _ _ _ _=>p8) he hs) fun σ H Q h=>⟨_,h,fun J H1 q=>q.run⟩
theorem ij(N:List Str)(esc:Scope)(N':List Str)(fr:List (Option Nat)){tst:Expr}{wi:TI}{g:TG}(hc:X.calm=true)(hi:PI X tg iter wi)(hg:∀ C s₁ H₁ ex,PG (bo X scope C N' s₁ H₁ ex) tg g)(hif:∀ C s₁ H₁ ex,PT (bo X scope C N' s₁ H₁ ex) tst tif)(he:∀ C s₁ H₁ ex,PE (bo X scope C N' s₁ H₁ ex) elt te)(S:gG N esc scope N' fr=true:=by decide +kernel)(eN:X.N=N:=by rfl)(e:X.env.scope=esc:=by rfl)(hs:∀ x,foldedSetIterable iter X.env x=pure x:=by intro _;rfl):PE X (.ListComp elt [⟨tg,iter,[tst],0⟩] scope pos) (lC fr wi g tif te):=
 PE.weak (qK hc (eN▸jY S e) (PI.cl hi) hg (fun C s₁ H₁ ex=>uM (hif C s₁ H₁ ex)) he hs) fun σ H Q h=>⟨_,h,fun J H1 q=>q.run⟩
theorem q_g(N:List Str)(i:Nat)(hN:N.Nodup:=by decide +kernel)(eN:X.N=N:=by rfl)(hi:X.N[i]? =some x:=by rfl)(hx:Loc X.env.scope x:=by first|exact Or.inl rfl|exact Or.inr rfl)(hf:X.fn x=true\/X.env.scope.names.lookup x=some .local:=by first|exact .inl rfl|exact .inr rfl|assumption):PG X (.Name x pos) (bG i):=
 wB (eN▸hN) hi hx hf
end
section
variable {X:Cx}
theorem EL(N:List Str)(i:Nat)(esc:Scope)(N':List Str)(fr:List (Option Nat)){y:Str}{spos py:Pos}{wi:TI}{g:TG}(hc:X.calm=true)(hi:PI X tg iter wi)(hg:∀ C s₁ H₁ ex,PG (bo X scope C N' s₁ H₁ ex) tg g)(he:∀ C s₁ H₁ ex,PE (bo X scope C N' s₁ H₁ ex) elt te)(hN:N.Nodup:=by decide +kernel)(hiN:X.N[i]? =some y:=by rfl)(hx:Loc X.env.scope y:=by first|exact Or.inl rfl|exact Or.inr rfl)(hf:X.fn y=true\/X.env.scope.names.lookup y=some .local:=by first|exact .inl rfl|exact .inr rfl|assumption)(hsw:swapsWith (.ListComp elt [⟨tg,iter,[],0⟩] scope pos) (some (.Name y py)) spos.line X.env=pure true:=by rfl)(S:gG N esc scope N' fr=true:=by decide +kernel)(eN:X.N=N:=by rfl)(e:X.env.scope=esc:=by rfl)(hs:∀ x,foldedSetIterable iter X.env x=pure x:=by intro _;rfl):PS X (.Assign [.Name y py] (.ListComp elt [⟨tg,iter,[],0⟩] scope pos) spos) (gg (lC fr wi g (fun _ H Q=>Q true H) te) (bG i)):=
 PS.weak (vh hc (eN▸jY S e) (PI.cl hi) hg (fun _ _ _ _=>p8) he (eN▸hN) hiN hx hf hsw hs) fun D σ H h=>⟨_,h,fun J H1 q=>q.run⟩
theorem jK(N:List Str)(i:Nat)(esc:Scope)(N':List Str)(fr:List (Option Nat)){tst:Expr}{y:Str}{spos py:Pos}{wi:TI}{g:TG}(hc:X.calm=true)(hi:PI X tg iter wi)(hg:∀ C s₁ H₁ ex,PG (bo X scope C N' s₁ H₁ ex) tg g)(hif:∀ C s₁ H₁ ex,PT (bo X scope C N' s₁ H₁ ex) tst tif)(he:∀ C s₁ H₁ ex,PE (bo X scope C N' s₁ H₁ ex) elt te)(hN:N.Nodup:=by decide +kernel)(hiN:X.N[i]? =some y:=by rfl)(hx:Loc X.env.scope y:=by first|exact Or.inl rfl|exact Or.inr rfl)(hf:X.fn y=true\/X.env.scope.names.lookup y=some .local:=by first|exact .inl rfl|exact .inr rfl|assumption)(hsw:swapsWith (.ListComp elt [⟨tg,iter,[tst],0⟩] scope pos) (some (.Name y py)) spos.line X.env=pure true:=by rfl)(S:gG N esc scope N' fr=true:=by decide +kernel)(eN:X.N=N:=by rfl)(e:X.env.scope=esc:=by rfl)(hs:∀ x,foldedSetIterable iter X.env x=pure x:=by intro _;rfl):PS X (.Assign [.Name y py] (.ListComp elt [⟨tg,iter,[tst],0⟩] scope pos) spos) (gg (lC fr wi g tif te) (bG i)):=
 PS.weak (vh hc (eN▸jY S e) (PI.cl hi) hg (fun C s₁ H₁ ex=>uM (hif C s₁ H₁ ex)) he (eN▸hN) hiN hx hf hsw hs) fun D σ H h=>⟨_,h,fun J H1 q=>q.run⟩
end
end SB
end
section
namespace K
open PySem PySem.Spec PyProof.Rows L2 SB
noncomputable def top (i:Nat):Stmt:=PySem.Challenge.pw_sightbook_k61_whole_secrets_walked.main.body.getD i (.Pass ⟨0,0,0,0⟩)
noncomputable abbrev iD:Stmt:=top 10
local macro_rules | `(tactic| walk_at "lft")=>`(tactic| first
 | assumption
 | (refine Ext.up (by assumption) ?_;walk_at "lft")
 | (refine Or.inl ?_;walk_at "lft"))
local macro_rules | `(tactic| walk_at "side")=>`(tactic| (show bB _;unfold bB;first|lia|decide|assumption|(simp;lia)))
local macro_rules | `(tactic| walk_at "st")=>`(tactic| first
 | refine⟨_,(by walk_at "lft"),?_⟩
 | refine⟨(by walk_at "side"),?_⟩
 | refine⟨_,rfl,?_⟩)
noncomputable def lower (c:Nat):Bool:=decide (97<=c)&&decide (c<=122)
noncomputable def isW (z:Str):Bool:=decide (1<=z.length)&&decide (z.length<=8)&&z.cps.toList.all lower
theorem xi(c:Nat):(!(Builtin.Str.occurrences "abcdefghijklmnopqrstuvwxyz" ⟨#[c]⟩ 0 ("abcdefghijklmnopqrstuvwxyz":Str).length 1).isEmpty)=lower c:=by
 rw[StrLaws.found_one];have e:("abcdefghijklmnopqrstuvwxyz":Str).cps.toList=List.range' 97 26:=by decide +kernel
 rw[e];unfold lower;apply FU.mpr
 simp [List.mem_range'_1]
 lia
structure Txt (K:PySem.W.Frag)(mg:Str->Option Value):Prop where
 len:mg "len" = none
 all:mg "all" = none
 letters:∃ t,mg "LETTERS" = some (.str "abcdefghijklmnopqrstuvwxyz" t)
 mostL:∃ t,mg "MOST_LETTERS" = some (.int 8 t)
noncomputable def mz:Sp:=fun vs H Q _=>∃ z,vs=[.str z]/\z.length<=1000/\∀ H',Ext H H'->Q (.bl (isW z)) H'
section
variable {P:Program}{w:World}{K:PySem.W.Frag}{mg:Str->Option Value}{base:Heap}
theorem EM:aJ ["text"] ["text"] (ah iD):=⟨rfl,rfl,rfl,by decide +kernel,rfl,by decide +kernel,by decide +kernel⟩
theorem z6(F:Fun K "is_word" "is_word" iD f fd) (T:Txt K mg):ao P w K mg base CX0 1 f fd ["text"] mz:=by
 refine F.ok EM (fun vs H Q E h=>?_) (fun cdv A outer s H vs Q E hr h=>?_)
 ·obtain⟨z,rfl,_⟩:=h;rfl
 ·obtain⟨z,rfl,hz,k⟩:=h;have hu:=hr.units;obtain⟨tL,mL⟩:=T.letters;obtain⟨tM,mM⟩:=T.mostL;refine⟨_,ag (aD (o7 (xR jX jX ae (q_b cI T.len (aa (q_v 0) ab)) (oZ mM))
   (kg (q_b (vB rfl) T.all (aa (eW ["text"] (ah iD) ["letter"] [none] rfl (Bt (q_v 0)) (fun _ _ _ _=>q_g ["letter"] 0) (fun _ _ _ _=>dD Bm (q_v 0) (CL mL))) ab))))),?_⟩
  have hz2:z.length<sizeLine:=by rw[Fz];lia
  refine⟨GL hz2,?_⟩;have fin:∀ b,isW z=b->Q (.bl b) H:=fun b e=>by rw[<-e];exact k H Ext.refl
  refine aV (fun h1=>?_) (fun h1=>?_)
  ·refine aV (fun h2=>?_) (fun h2=>?_)
   ·refine gx (fun c=>.bl (lower c)) (ym z) ?_ ?_ ?_
    ·rw[Fx];exact hz2
    ·intro i c H1 Kk hx ex kk;refine⟨bY rfl,?_⟩
     have:=kk H1 Ext.refl
     show Kk (.bl (!(Builtin.Str.occurrences _ _ 0 _ 1).isEmpty)) H1
     rw[xi];exact this
    ·intro p H' hp hl ex;refine⟨z.cps.toList.map lower,Or.inl (by rw[Fm];exact hl),?_⟩
     have:=k H' ex
     have h1:=FA h1;have h2:=FA h2;have e:isW z=(z.cps.toList.map lower).all id:=by
      unfold isW;rw[List.all_map,Fq (by lia:1<=z.length),Fq (by lia:z.length<=8)]
      rfl
     rw[e]at this;exact this
   ·refine fin false ?_;have h2:¬ z.length<=8:=fun q=>h2 (Fq (by lia))
    unfold isW;rw[FI h2,Bool.and_false,Bool.false_and]
  ·refine fin false ?_;have h1:¬ 1<=z.length:=fun q=>h1 (Fq (by lia))
   unfold isW;rw[FI h1,Bool.false_and,Bool.false_and]
end
noncomputable abbrev k9:Stmt:=top 11
noncomputable abbrev lG:Stmt:=top 12
noncomputable abbrev jx:Stmt:=top 13
noncomputable abbrev kx:Stmt:=top 14
noncomputable abbrev kL:Stmt:=inClass (top 15) 0
noncomputable abbrev kE:Stmt:=inClass (top 15) 1
noncomputable abbrev kT:Stmt:=inClass (top 15) 2
noncomputable abbrev jI:Stmt:=inClass (top 15) 5
noncomputable abbrev k5:Stmt:=inClass (top 15) 6
section
variable {P:Program}{w:World}{K:PySem.W.Frag}{mg:Str->Option Value}{base:Heap}
noncomputable def mN:Sp:=fun vs H Q _=>∃ n m:Int,vs=[.int n,.int m]/\n<=m/\Q .non H
theorem BL:aJ ["number","most"] ["number","most"] (ah k9):=⟨rfl,rfl,rfl,by decide +kernel,rfl,by decide +kernel,by decide +kernel⟩
theorem wM(F:Fun K "need_at_most" "need_at_most" k9 f fd):ao P w K mg base CX0 1 f fd ["number","most"] mN:=by
 refine F.ok BL (fun vs H Q E h=>?_) (fun cdv A outer s H vs Q E hr h=>?_)
 ·obtain⟨n,m,rfl,_⟩:=h;rfl
 ·obtain⟨n,m,rfl,hle,k⟩:=h;refine⟨_,ag (bf (aG jR (q_v 0) (q_v 1)) nP bj),?_⟩;refine aV (fun h=>?_) (fun _=>k)
  have:=FA h
  lia
noncomputable def ki:Sp:=fun vs H Q _=>∃ n r:Int,vs=[.int n,.int r]/\0<=r/\r<n/\Q .non H
theorem xT:aJ ["size","room"] ["size","room"] (ah lG):=⟨rfl,rfl,rfl,by decide +kernel,rfl,by decide +kernel,by decide +kernel⟩
theorem An(F:Fun K "need_room" "need_room" lG f fd):ao P w K mg base CX0 1 f fd ["size","room"] ki:=by
 refine F.ok xT (fun vs H Q E h=>?_) (fun cdv A outer s H vs Q E hr h=>?_)
 ·obtain⟨n,m,rfl,_⟩:=h;rfl
 ·obtain⟨n,r,rfl,h1,h2,k⟩:=h;refine⟨_,ag (bf (fH (Bg jX lY ae (q_v 1) (q_v 0))) nP bj),?_⟩;refine aV (fun h=>?_) (fun h=>absurd (Fq h1) h)
  show if (!decide (r<n))=true then _ else _
  rw[Fq h2];exact k
noncomputable def mJ:Sp:=fun vs H Q _=>∃ z,vs=[.str z]/\isW z=true/\∀ H',Ext H H'->Q .non H'
theorem Bh(h:isW z=true):1<=z.length/\z.length<=8:=by
 unfold isW at h;simp only[F1,decide_eq_true_eq]at h;exact h.1
theorem CD:aJ ["text"] ["text"] (ah jx):=⟨rfl,rfl,rfl,by decide +kernel,rfl,by decide +kernel,by decide +kernel⟩
theorem xh(F:Fun K "need_word" "need_word" jx f fd) (D:Known P w K mg base 1 "is_word" ["text"] mz):ao P w K mg base CX0 2 f fd ["text"] mJ:=by
 refine F.ok CD (fun vs H Q E h=>?_) (fun cdv A outer s H vs Q E hr h=>?_)
 ·obtain⟨n,rfl,_⟩:=h;rfl
 ·obtain⟨z,rfl,hw,k⟩:=h;refine⟨_,ag (bf (fH (eD (aw D hr (aa (q_v 0) ab)))) nP bj),?_⟩
  have:=Bh hw
  refine⟨z,rfl,by lia,fun H' ex=>?_⟩
  show if (!isW z)=true then _ else _
  rw[hw];exact k H' ex
end
noncomputable abbrev Mv:=Int×Str×Int
noncomputable def fb (m:Mv):List V:=[.int m.1,.str m.2.1,.int m.2.2]
noncomputable def bz (n:Int)(m:Mv):Prop:=(0<=m.1/\m.1<n)/\isW m.2.1=true/\0<=m.2.2/\m.2.2<n
noncomputable def refs (ps:List (Mv×Addr)):List V:=ps.map fun p=>V.ref p.2
noncomputable def cE (H:Hp)(ps:List (Mv×Addr)):Prop:=∀ p∈ps,H p.2=some (.tup (fb p.1))
noncomputable def sgV (sg:List (Str×Str)):List (L2.Key×V):=sg.map fun p=>(Sum.inr p.1,V.str p.2)
structure nJ (n:Int)(st:List Int)(ps:List (Mv×Addr))(sg:List (Str×Str))(fl:List Str):Prop where
 size:1<=n/\n<=8
 few:ps.length<=24
 st:∀ r∈st,0<=r/\r<n
 mv:∀ p∈ps,bz n p.1
 sg:∀ p∈sg,isW p.1=true/\isW p.2=true
 fl:∀ z∈fl,isW z=true
structure ig (H:Hp)(n:Int)(a b c d:Addr)(st:List Int)(ps:List (Mv×Addr))(sg:List (Str×Str))(fl:List Str):Prop where
 st:RdL H a (st.map V.int)
 mv:RdL H b (refs ps)
 tup:cE H ps
 sg:H c=some (.dK (sgV sg))
 fl:RdL H d (fl.map V.str)
theorem ig.ext{d:Addr}{st:List Int}{ps:List (Mv×Addr)}{sg:List (Str×Str)}(p:ig H n a b c d st ps sg fl)(e:Ext H H'):ig H' n a b c d st ps sg fl:=
 ⟨e.rd p.st,e.rd p.mv,fun q hq=>e.up (p.tup q hq),e.up p.sg,e.rd p.fl⟩
structure tV (K:PySem.W.Frag)(mg:Str->Option Value):Prop where
 len:mg "len" = none
 rooms:∃ t,mg "MOST_ROOMS" = some (.int 8 t)
 moves:∃ t,mg "MOST_MOVES" = some (.int 24 t)
section
variable {P:Program}{w:World}{K:PySem.W.Frag}{mg:Str->Option Value}{base:Heap}
noncomputable def oW:Sp:=fun vs H Q _=>∃ n a b c d st ps sg fl,vs=[.int n,.ref a,.ref b,.ref c,.ref d]/\nJ n st ps sg fl/\ig H n a b c d st ps sg fl/\∀ H',Ext H H'->Q .non H'
noncomputable abbrev nNM:List Str:=["size","starts","moves","signs","faults","room","first","deed","last","sign"]
theorem wJ:aJ nNM ["size","starts","moves","signs","faults"] (ah kx):=⟨rfl,rfl,rfl,by decide +kernel,rfl,by decide +kernel,by decide +kernel⟩
theorem Df(F:Fun K "need_machine" "need_machine" kx f fd) (T:tV K mg) (D1:Known P w K mg base 1 "need_at_most" ["number","most"] mN) (D2:Known P w K mg base 1 "need_room" ["size","room"] ki) (D3:Known P w K mg base 2 "need_word" ["text"] mJ):ao P w K mg base CX0 3 f fd ["size","starts","moves","signs","faults"] oW:=by
 refine F.ok wJ (fun vs H Q E h=>?_) (fun cdv A outer s H vs Q E hr h=>?_)
 ·obtain⟨n,a,b,c,d,st,ps,sg,fl,rfl,_⟩:=h;rfl
 ·obtain⟨n,a,b,c,d,st,ps,sg,fl,rfl,ok,at0,k⟩:=h;have hr1:aE 1 _:=hr.mono (by decide)
  obtain⟨t8,m8⟩:=T.rooms;obtain⟨t24,m24⟩:=T.moves;refine⟨_,af (bQ (aw D1 hr1 (aa (q_v 0) (aa (oZ m8) ab))))
   (af (bQ (aw D1 hr1 (aa (q_b cI T.len (aa (q_v 2) ab)) (aa (oZ m24) ab))))
   (af (bC PassesOwn.never rfl (bg (q_v 1)) (q_g nNM 5) (ag (bQ (aw D2 hr1 (aa (q_v 0) (aa (q_v 5) ab))))))
   (af (bC PassesOwn.never rfl (bg (q_v 2)) (fq rfl (bJ (q_g nNM 6) (bJ (q_g nNM 7) (bJ (q_g nNM 8) eU))))
    (af (bQ (aw D2 hr1 (aa (q_v 0) (aa (q_v 6) ab)))) (af (bQ (aw D3 hr (aa (q_v 7) ab))) (ag (bQ (aw D2 hr1 (aa (q_v 0) (aa (q_v 8) ab))))))))
   (af (zN (bC PassesOwn.never rfl (Ej (q_v 3)) (fq rfl (bJ (q_g nNM 7) (bJ (q_g nNM 9) eU)))
    (af (bQ (aw D3 hr (aa (q_v 7) ab))) (ag (bQ (aw D3 hr (aa (q_v 9) ab)))))))
   (ag (bC PassesOwn.never rfl (bg (q_v 4)) (q_g nNM 7) (ag (bQ (aw D3 hr (aa (q_v 7) ab)))))))))),?_⟩
  refine⟨n,8,rfl,ok.size.2,?_⟩;refine⟨_,at0.mv,(refs ps).length,24,rfl,?_,?_⟩
  ·have:=ok.few
   unfold refs;rw[E3];lia
  refine⟨_,at0.st,bZ (xs:=st.map V.int) (fun i σ H1=>∃ v,σ=[some (.int n),some (.ref a),some (.ref b),some (.ref c),some (.ref d),v,none,none,none,none]/\Ext H H1) ⟨_,rfl,Ext.refl⟩ (fun i σ H1 _ ⟨v,_,e⟩=>e.rd at0.st) ?_ ?_⟩
  ·rintro i x σ H1 hx ⟨v,rfl,e1⟩;rw[E9,Fl]at hx;obtain⟨r,hr,rfl⟩:=hx
   have:=ok.st r (Fe hr)
   exact⟨n,r,rfl,this.1,this.2,_,rfl,e1⟩
  rintro σ H1 ⟨v,rfl,e1⟩;refine⟨_,e1.rd at0.mv,bZ (xs:=refs ps) (fun i σ H2=>∃ v1 v2 v3 v4,σ=[some (.int n),some (.ref a),some (.ref b),some (.ref c),some (.ref d),v1,v2,v3,v4,none]/\Ext H H2) ⟨_,_,_,_,rfl,e1⟩ (fun i σ H2 _ ⟨_,_,_,_,_,e⟩=>e.rd at0.mv) ?_ ?_⟩
  ·rintro i x σ H2 hx ⟨v1,v2,v3,v4,rfl,e2⟩;unfold refs at hx;rw[E9,Fl]at hx;obtain⟨p,hp,rfl⟩:=hx;have hm:=Fe hp;obtain⟨⟨g1,g2⟩,g3,g4,g5⟩:=ok.mv p hm;refine⟨_,.inl (e2.up (at0.tup p hm)),rfl,n,p.1.1,rfl,g1,g2,p.1.2.1,rfl,g3,fun H3 e3=>?_⟩
   exact⟨n,p.1.2.2,rfl,g4,g5,_,_,_,_,rfl,e2.trans e3⟩
  rintro σ H2 ⟨v1,v2,v3,v4,rfl,e2⟩;refine⟨_,e2.up at0.sg,fun o H3 h3 b3=>vX (fun i σ H4=>∃ w1 w2 w3 w4 w5,σ=[some (.int n),some (.ref a),some (.ref b),some (.ref c),some (.ref d),w1,w2,w3,w4,w5]/\H4 c=some (.frz o (.dK (sgV sg)))/\∀ x u,x≠c->H x=some u->H4 x=some u) ⟨_,_,_,_,_,rfl,h3,fun x u hx hu=>b3.up hx (e2.up hu)⟩ (fun i σ H4 _ ⟨_,_,_,_,_,_,h,_⟩=>h) ?_ ?_⟩
  ·rintro i k v p σ H4 H5 hk hp h5 e5 ⟨w1,w2,w3,w4,w5,rfl,h4,b4⟩;unfold sgV at hk;rw[E9,Fl]at hk;obtain⟨q,hq,hkv⟩:=hk;cases hkv
   have hm:=Fe hq;obtain⟨g1,g2⟩:=ok.sg q hm;refine⟨_,.inl h5,rfl,q.1,rfl,g1,fun H6 e6=>⟨q.2,rfl,g2,fun H7 e7=>?_⟩⟩
   exact⟨_,_,_,_,_,rfl,e7.up (e6.up (e5.up h4)),fun x u hx hu=>e7.up (e6.up (e5.up (b4 x u hx hu)))⟩
  rintro σ H4 ⟨w1,w2,w3,w4,w5,rfl,h4,b4⟩;refine⟨c,o,sgV sg,h4,fun o v z=>?_,?_⟩
  ·have z:H c=some (.frz o v):=z;rw[at0.sg]at z;cases z
  have e5:Ext H (upd H4 c (.dK (sgV sg))):=fun x u hu=>by
   by_cases q:x=c
   ·subst q;rw[at0.sg]at hu;rw[aY,hu]
   ·rw[ar q];exact b4 x u q hu
  refine⟨_,e5.rd at0.fl,bZ (xs:=fl.map V.str) (fun i σ H6=>∃ w1 w2 w3 w4 w5,σ=[some (.int n),some (.ref a),some (.ref b),some (.ref c),some (.ref d),w1,w2,w3,w4,w5]/\Ext H H6) ⟨_,_,_,_,_,rfl,e5⟩ (fun i σ H6 _ ⟨_,_,_,_,_,_,e⟩=>e.rd at0.fl) ?_ ?_⟩
  ·rintro i x σ H6 hx ⟨w1,w2,w3,w4,w5,rfl,e6⟩;rw[E9,Fl]at hx;obtain⟨r,hr,rfl⟩:=hx;exact⟨r,rfl,ok.fl r (Fe hr),fun H7 e7=>⟨_,_,_,_,_,rfl,e6.trans e7⟩⟩
  rintro σ H6 ⟨w1,w2,w3,w4,w5,rfl,e6⟩;exact k H6 e6
end
noncomputable def unI:Ky->Int
 | .inl i=>i
 | .inr _=>0
noncomputable def unS:Ky->Str
 | .inr x=>x
 | .inl _=>""
noncomputable def mk (m:Mv):List Ky:=[.inl m.1,.inr m.2.1,.inl m.2.2]
noncomputable def unM:List Ky->Mv
 | [a,b,c]=>(unI a,unS b,unI c)
 | _=>(0,"",0)
noncomputable def aB (l:List Int):List Int:=(srt kLt (l.map Sum.inl)).map unI
noncomputable def cF (l:List Str):List Str:=(srt kLt (l.map Sum.inr)).map unS
noncomputable def fB (l:List Mv):List Mv:=(srt cT (l.map mk)).map unM
theorem m9(l:List Int):(srt kLt (l.map Sum.inl)).map kV=(aB l).map V.int:=by
 unfold aB;rw[Fm];refine G2 fun k hk=>?_
 obtain⟨i,_,rfl⟩:=E5.mp (cx.mp hk);rfl
theorem qt(l:List Str):(srt kLt (l.map Sum.inr)).map kV=(cF l).map V.str:=by
 unfold cF;rw[Fm];refine G2 fun k hk=>?_
 obtain⟨i,_,rfl⟩:=E5.mp (cx.mp hk);rfl
theorem eI{l:List Int}{x:Int}:x∈aB l↔x∈l:=by
 unfold aB;constructor
 ·intro h;obtain⟨k,hk,rfl⟩:=E5.mp h;obtain⟨i,hi,rfl⟩:=E5.mp (cx.mp hk);exact hi
 ·intro h;exact E5.mpr ⟨.inl x,cx.mpr (E5.mpr ⟨x,h,rfl⟩),rfl⟩
theorem oe{l:List Str}:x∈cF l↔x∈l:=by
 unfold cF;constructor
 ·intro h;obtain⟨k,hk,rfl⟩:=E5.mp h;obtain⟨i,hi,rfl⟩:=E5.mp (cx.mp hk);exact hi
 ·intro h;exact E5.mpr ⟨.inr x,cx.mpr (E5.mpr ⟨x,h,rfl⟩),rfl⟩
theorem oy{l:List Mv}{x:Mv}:x∈fB l↔x∈l:=by
 unfold fB;constructor
 ·intro h;obtain⟨k,hk,rfl⟩:=E5.mp h;obtain⟨i,hi,rfl⟩:=E5.mp (cx.mp hk);exact hi
 ·intro h;exact E5.mpr ⟨mk x,cx.mpr (E5.mpr ⟨x,h,rfl⟩),rfl⟩
theorem iC(l:List Int):∀ k∈l.map (Sum.inl:Int->Ky),isI k=true:=fun k hk=>by obtain⟨i,_,rfl⟩:=E5.mp hk;rfl
theorem o6(l:List Str):∀ k∈l.map (Sum.inr:Str->Ky),isI k=false:=fun k hk=>by obtain⟨i,_,rfl⟩:=E5.mp hk;rfl
theorem zJ{l l':List Int}(h:∀ x,x∈l↔x∈l'):aB l=aB l':=by
 unfold aB;rw[kj (dI true) (iC l) fun k=>?_]
 simp only[E5]
 constructor <;> rintro⟨a,ha,rfl⟩
 ·exact⟨a,(h a).mp ha,rfl⟩
 ·exact⟨a,(h a).mpr ha,rfl⟩
structure aj where
 size:Int
 st:List Int
 mv:List Mv
 sg:List (Str×Str)
 fl:List Str
noncomputable def mkM (n:Int)(st:List Int)(mv:List Mv)(sg:List (Str×Str))(fl:List Str):aj:=⟨n,aB st,fB mv,sg,cF fl⟩
noncomputable def xY (n:Int)(l1 l2 d l3:Addr):List (Str×V):=[("size",.int n),("start_rooms",.ref l1),("sorted_moves",.ref l2),("sign_by_deed",.ref d),("fault_deeds",.ref l3)]
structure iR (C:Addr)(H:Hp)(p:Addr)(M:aj)(dx l1 l2 d l3:Addr)(ps:List (Mv×Addr)):Prop where
 ob:H p=some (.ins C dx (xY M.size l1 l2 d l3))
 st:H l1=some (.lst (M.st.map V.int))
 mv:H l2=some (.lst (refs ps))
 tup:cE H ps
 pm:ps.map (·.1)=M.mv
 sg:H d=some (.dK (sgV M.sg))
 fl:H l3=some (.lst (M.fl.map V.str))
theorem iR.ext{M:aj}{dx l1 l2 d l3:Addr}{ps:List (Mv×Addr)}(m:iR C H p M dx l1 l2 d l3 ps)(e:Ext H H'):iR C H' p M dx l1 l2 d l3 ps:=
 ⟨e.up m.ob,e.up m.st,e.up m.mv,fun q hq=>e.up (m.tup q hq),m.pm,e.up m.sg,e.up m.fl⟩
noncomputable def aZ (C:Addr)(H:Hp)(p:Addr)(M:aj):Prop:=∃ dx l1 l2 d l3 ps,iR C H p M dx l1 l2 d l3 ps
theorem aZ.ext{M:aj}(m:aZ C H p M)(e:Ext H H'):aZ C H' p M:=by
 obtain⟨dx,l1,l2,d,l3,ps,m⟩:=m;exact⟨dx,l1,l2,d,l3,ps,m.ext e⟩
structure cO (K:PySem.W.Frag)(mg:Str->Option Value)(C:Addr):Prop where
 cl:Cls K C
 nS:cU K C "size"
 n1:cU K C "start_rooms"
 n2:cU K C "sorted_moves"
 n3:cU K C "sign_by_deed"
 n4:cU K C "fault_deeds"
 sorted:mg "sorted" = none
 set:mg "set" = none
 dict:mg "dict" = none
 list:mg "list" = none
noncomputable def Frm (p:Addr)(H H':Hp):Prop:=∀ x u,x≠p->H x=some u->H' x=some u
theorem Frm.ext(f:Frm p H H1)(e:Ext H1 H2):Frm p H H2:=fun x u n h=>e.up (f x u n h)
theorem Frm.but(f:Frm p H H1)(b:But p H1 H2):Frm p H H2:=fun x u n h=>b.up n (f x u n h)
theorem Frm.none{x:Addr}{o:HO}(f:Frm p H H1)(hp:H1 p=some o)(h:H1 x=none):H x=none:=by
 cases q:H x with
 | none=>rfl
 | some u=>
  by_cases e:x=p
  ·subst e;rw[hp]at h;cases h
  ·rw[f x u e q]at h;cases h
theorem Frm.rdL{dx:Addr}{fs:List (Str×V)}(f:Frm p H H1)(hp:H p=some (.ins C dx fs))(h:RdL H a xs):RdL H1 a xs:=by
 have n:a≠p:=by
  rintro rfl;rcases h with h|⟨o,h⟩ <;> (rw[hp]at h;cases h)
 rcases h with h|⟨o,h⟩
 ·exact .inl (f a _ n h)
 ·exact .inr ⟨o,f a _ n h⟩
section
variable {P:Program}{w:World}{K:PySem.W.Frag}{mg:Str->Option Value}{base:Heap}
noncomputable def oP (C:Addr):Sp:=fun vs H Q _=>∃ p dx n a b c d st ps sg fl,vs=[.ref p,.int n,.ref a,.ref b,.ref c,.ref d]/\H p=some (.ins C dx [])/\nJ n st ps sg fl/\ig H n a b c d st ps sg fl/\st.length<=60/\fl.length<=60 ∧
 ∀ H' l1 l2 e l3 qs,iR C H' p (mkM n st (ps.map (·.1)) sg fl) dx l1 l2 e l3 qs->(H l1=none/\H l2=none/\H e=none/\H l3=none)->(∀ q∈qs,q∈ps)->(∀ x u,x≠p->H x=some u->H' x=some u)->Q .non H'
noncomputable abbrev jj:List Str:=["self","size","starts","moves","signs","faults"]
theorem zB:aJ jj jj (ah kL):=⟨rfl,rfl,rfl,by decide +kernel,rfl,by decide +kernel,by decide +kernel⟩
theorem Cb(F:Fun K "__init__" "Machine.__init__" kL f fd) (T:cO K mg C) (D:Known P w K mg base 3 "need_machine" ["size","starts","moves","signs","faults"] oW):ao P w K mg base CX0 4 f fd jj (oP C):=by
 refine F.ok zB (fun vs H Q E h=>?_) (fun cdv A outer s H vs Q E hr h=>?_)
 ·obtain⟨p,dx,n,a,b,c,d,st,ps,sg,fl,rfl,_⟩:=h;rfl
 ·obtain⟨p,dx,n,a,b,c,d,st,ps,sg,fl,rfl,hp,ok,at0,l60,f60,k⟩:=h;have hu:=hr.units;refine⟨_,af (bQ (aw D hr (aa (q_v 1) (aa (q_v 2) (aa (q_v 3) (aa (q_v 4) (aa (q_v 5) ab)))))))
   (af (iy T.cl T.nS (q_v 0) (q_v 1))
   (af (iy T.cl T.n1 (q_v 0) (nv rfl (q_v 2) T.sorted T.set))
   (af (iy T.cl T.n2 (q_v 0) (Eg rfl hu (q_v 3) T.sorted T.set))
   (af (iy T.cl T.n3 (q_v 0) (q_t vN T.dict (aa (q_v 4) ab)))
   (ag (iy T.cl T.n4 (q_v 0) (nv rfl (q_v 5) T.sorted T.set))))))),?_⟩
  refine⟨n,a,b,c,d,st,ps,sg,fl,rfl,ok,at0,fun H1 e1=>?_⟩
  have at1:=at0.ext e1;have f1:Frm p H H1:=fun x u _ h=>e1.up h
  refine⟨_,_,e1.up hp,by show 0<1000;decide,fun H2 h2 b2=>?_⟩
  have f2:=f1.but b2;have s2:RdL H2 a ((st.map Sum.inl).map kV):=by rw[Fm];exact f2.rdL hp at0.st
  refine⟨st.map Sum.inl,s2,true,⟨iC st,by rw[E3];exact l60⟩,fun l1 H3 n1 h3 e3=>?_⟩
  have f3:=f2.ext e3;rw[m9]at h3;refine⟨_,_,e3.up h2,by show 1<1000;decide,fun H4 h4 b4=>?_⟩
  have f4:=f3.but b4;have q1:l1≠p:=(aA h2 n1).symm;have s4:RdL H4 b ((ps.map fun q=>(mk q.1,q.2)).map fun q=>V.ref q.2):=by rw[Fm];exact f4.rdL hp at0.mv
  have t4:∀ q∈ps,q.2≠p/\H4 q.2=some (.tup (fb q.1)):=fun q hq=>by
   have n:q.2≠p:=aX (at0.tup q hq) hp (fun z=>nomatch z)
   exact⟨n,f4 _ _ n (at0.tup q hq)⟩
  refine⟨ps.map fun q=>(mk q.1,q.2),s4,[false,true],fun q hq=>?_,by show _<=60;rw[E3];have:=ok.few;lia,fun l2 out H5 n2 h5 e5 ho hin=>?_⟩
  ·obtain⟨r,hr,rfl⟩:=E5.mp hq;exact⟨(t4 r hr).2,rfl⟩
  have f5:=f4.ext e5;refine⟨_,_,e5.up h4,by show 2<1000;decide,fun H6 h6 b6=>?_⟩
  have f6:=f5.but b6;have q2:l2≠p:=(aA h4 n2).symm;have nc:c≠p:=aX at0.sg hp (fun z=>nomatch z)
  refine⟨_,.inl (f6 _ _ nc at0.sg),fun e H7 n3 h7 e7=>?_⟩
  have f7:=f6.ext e7;refine⟨_,_,e7.up h6,by show 3<1000;decide,fun H8 h8 b8=>?_⟩
  have f8:=f7.but b8;have q3:e≠p:=(aA h6 n3).symm;have s8:RdL H8 d ((fl.map Sum.inr).map kV):=by rw[Fm];exact f8.rdL hp at0.fl
  refine⟨fl.map Sum.inr,s8,false,⟨o6 fl,by rw[E3];exact f60⟩,fun l3 H9 n4 h9 e9=>?_⟩
  have f9:=f8.ext e9;rw[qt]at h9;refine⟨_,_,e9.up h8,by show 4<1000;decide,fun HA hA bA=>?_⟩
  have fA:=f9.but bA;have q4:l3≠p:=(aA h8 n4).symm;refine k HA l1 l2 e l3 (out.map fun o=>(unM o.1,o.2)) ⟨hA,?_,?_,?_,?_,?_,?_⟩ ⟨f2.none h2 n1,f4.none h4 n2,f6.none h6 n3,f8.none h8 n4⟩ ?_ fA
  ·exact bA.up q1 (e9.up (b8.up q1 (e7.up (b6.up q1 (e5.up (b4.up q1 h3))))))
  ·have:=bA.up q2 (e9.up (b8.up q2 (e7.up (b6.up q2 h5))))
   unfold refs;rw[Fm];exact this
  ·intro q hq;obtain⟨o,ho',rfl⟩:=E5.mp hq;obtain⟨r,hr,rfl⟩:=E5.mp (hin o ho');exact fA _ _ (t4 r hr).1 (at0.tup r hr)
  ·show(out.map fun o=>(unM o.1,o.2)).map (·.1)=fB (ps.map (·.1))
   unfold fB;rw[Fm,show((fun x:Mv×Addr=>x.1)∘fun o:List Ky×Addr=>(unM o.1,o.2))=unM∘(·.1) from rfl,<-Fm,ho,Fm,Fm]
   rfl
  ·exact bA.up q3 (e9.up (b8.up q3 h7))
  ·exact bA.up q4 h9
  ·intro q hq;obtain⟨o,ho',rfl⟩:=E5.mp hq;obtain⟨r,hr,rfl⟩:=E5.mp (hin o ho');exact hr
end
noncomputable def aT (sg:List (Str×Str))(z:Str):Option Str:=(sg.find? fun p=>decide (p.1=z)).map (·.2)
noncomputable def ux:Option Str->V
 | some x=>.str x
 | none=>.non
theorem Cv(sg:List (Str×Str))(z:Str):((aN (sgV sg) (Sum.inr z)).getD .non)=ux (aT sg z):=by
 unfold aT aN sgV;rw[List.find?_map,Option.map_map];have e:((fun kv:L2.Key×V=>decide (kv.1=Sum.inr z))∘fun p:Str×Str=>((Sum.inr p.1:L2.Key),V.str p.2))=fun p:Str×Str=>decide (p.1=z):=by
  funext p;apply FU.mpr
  simp
 rw[e];cases sg.find? fun p=>decide (p.1=z) <;> rfl
theorem Cd(z:Str)(l:List Str):inV (.str z) (l.map V.str)=decide (z∈l):=by
 unfold inV;rw[List.any_map];apply FU.mpr;rw[List.any_eq_true,decide_eq_true_eq];constructor
 ·rintro⟨x,hx,h⟩
  have:x=z:=by simpa [eqV] using h
  rw[<-this];exact hx
 ·intro h;exact⟨z,h,by simp [eqV]⟩
theorem gH(z:Int)(l:List Int):inV (.int z) (l.map V.int)=decide (z∈l):=by
 unfold inV;rw[List.any_map];apply FU.mpr;rw[List.any_eq_true,decide_eq_true_eq];constructor
 ·rintro⟨x,hx,h⟩
  have:x=z:=by simpa [eqV] using h
  rw[<-this];exact hx
 ·intro h;exact⟨z,h,by simp [eqV]⟩
theorem kf(l:List Str):(l.map V.str).all bP=true:=by rw[List.all_map];exact GA.mpr fun _ _=>rfl
theorem dA(l:List Int):(l.map V.int).all bP=true:=by rw[List.all_map];exact GA.mpr fun _ _=>rfl
section
variable {P:Program}{w:World}{K:PySem.W.Frag}{mg:Str->Option Value}{base:Heap}
noncomputable def jN (C:Addr):Sp:=fun vs H Q _=>∃ p M,vs=[.ref p]/\aZ C H p M/\New H (.lst (M.st.map V.int)) Q
theorem EK:aJ ["self"] ["self"] (ah kE):=⟨rfl,rfl,rfl,by decide +kernel,rfl,by decide +kernel,by decide +kernel⟩
theorem Dn(F:Fun K "starts" "Machine.starts" kE f fd) (T:cO K mg C):ao P w K mg base CX0 1 f fd ["self"] (jN C):=by
 refine F.ok EK (fun vs H Q E h=>?_) (fun cdv A outer s H vs Q E hr h=>?_)
 ·obtain⟨p,M,rfl,_⟩:=h;rfl
 ·obtain⟨p,M,rfl,⟨dx,l1,l2,d,l3,ps,m⟩,k⟩:=h;refine⟨_,ag (aD (q_t uu T.list (aa (iw T.cl T.n1 (q_v 0)) ab))),?_⟩;exact⟨_,_,m.ob,_,rfl,_,.inl m.st,k⟩
noncomputable def iQ (C:Addr):Sp:=fun vs H Q _=>∃ p M,vs=[.ref p]/\aZ C H p M/\∀ l H' ps,H l=none->H' l=some (.lst (refs ps))->cE H' ps->ps.map (·.1)=M.mv->Ext H H'->Q (.ref l) H'
theorem AN:aJ ["self"] ["self"] (ah kT):=⟨rfl,rfl,rfl,by decide +kernel,rfl,by decide +kernel,by decide +kernel⟩
theorem Bf(F:Fun K "moves" "Machine.moves" kT f fd) (T:cO K mg C):ao P w K mg base CX0 1 f fd ["self"] (iQ C):=by
 refine F.ok AN (fun vs H Q E h=>?_) (fun cdv A outer s H vs Q E hr h=>?_)
 ·obtain⟨p,M,rfl,_⟩:=h;rfl
 ·obtain⟨p,M,rfl,⟨dx,l1,l2,d,l3,ps,m⟩,k⟩:=h;refine⟨_,ag (aD (q_t uu T.list (aa (iw T.cl T.n2 (q_v 0)) ab))),?_⟩;exact⟨_,_,m.ob,_,rfl,_,.inl m.mv,fun l H' hl h' e=>k l H' ps hl h' (fun q hq=>e.up (m.tup q hq)) m.pm e⟩
noncomputable def ik (C:Addr):Sp:=fun vs H Q _=>∃ p M z,vs=[.ref p,.str z]/\aZ C H p M/\Q (ux (aT M.sg z)) H
theorem zG:aJ ["self","deed"] ["self","deed"] (ah jI):=⟨rfl,rfl,rfl,by decide +kernel,rfl,by decide +kernel,by decide +kernel⟩
theorem Dl(F:Fun K "sign_of" "Machine.sign_of" jI f fd) (T:cO K mg C):ao P w K mg base CX0 1 f fd ["self","deed"] (ik C):=by
 refine F.ok zG (fun vs H Q E h=>?_) (fun cdv A outer s H vs Q E hr h=>?_)
 ·obtain⟨p,M,z,rfl,_⟩:=h;rfl
 ·obtain⟨p,M,z,rfl,⟨dx,l1,l2,d,l3,ps,m⟩,k⟩:=h;refine⟨_,ag (aD (wW hr.units (iw T.cl T.n3 (q_v 0)) (q_v 1) ⟨rfl,rfl,rfl,rfl⟩)),?_⟩;refine⟨_,_,m.ob,_,rfl,_,.inl m.sg,_,.inl m.sg,_,rfl,?_⟩;rw[Cv];exact k
noncomputable def lR (C:Addr):Sp:=fun vs H Q _=>∃ p M z,vs=[.ref p,.str z]/\aZ C H p M/\Q (.bl (decide (z∈M.fl))) H
theorem Ar:aJ ["self","deed"] ["self","deed"] (ah k5):=⟨rfl,rfl,rfl,by decide +kernel,rfl,by decide +kernel,by decide +kernel⟩
theorem xM(F:Fun K "is_fault" "Machine.is_fault" k5 f fd) (T:cO K mg C):ao P w K mg base CX0 1 f fd ["self","deed"] (lR C):=by
 refine F.ok Ar (fun vs H Q E h=>?_) (fun cdv A outer s H vs Q E hr h=>?_)
 ·obtain⟨p,M,z,rfl,_⟩:=h;rfl
 ·obtain⟨p,M,z,rfl,⟨dx,l1,l2,d,l3,ps,m⟩,k⟩:=h;refine⟨_,ag (aD (dD qJ (q_v 1) (iw T.cl T.n4 (q_v 0)))),?_⟩;refine⟨_,_,m.ob,_,rfl,_,.inl m.fl,⟨rfl,kf _⟩,?_⟩;show Q (.bl (inV _ _)) H
  rw[Cd];exact k
end
end K
end
section
namespace SB
open PySem PySem.Spec PyProof.Rows L2
theorem sr(a b:Str):(a++b).cps.toList=a.cps.toList++b.cps.toList:=by
 show(a.cps++b.cps).toList=_
 exact FV
theorem nW(a:Str):a.length=a.cps.toList.length:=by rw[Fx];rfl
theorem len_app(a b:Str):(a++b).length=a.length+b.length:=by rw[nW,sr,Fh,<-nW,<-nW]
section
variable {X:Cx}
theorem av(N:List Str)(i:Nat)(he:PE X e te)(hN:N.Nodup:=by decide +kernel)(eN:X.N=N:=by rfl)(hi:X.N[i]? =some x:=by rfl)(hx:Loc X.env.scope x:=by first|exact Or.inl rfl|exact Or.inr rfl)(hs:swapsWith e (some (.Name x pos')) pos.line X.env=pure false:=by rfl)(hf:X.fn x=true\/X.env.scope.names.lookup x=some .local:=by first|exact .inl rfl|exact .inr rfl|assumption):PS X (.Assign [.Name x pos'] e pos) (gg te (bG i)):=
 zj (eN▸hN) hi hx he hs hf
variable {o e:Expr}{es:List Expr}{ta te:TE}{t:TA}{apos cpos:Pos}
theorem eZ(ho:PE X o ta)(he:PE X e te)(hbase:attributeBase o "append" X.env (eval o X.env)=eval o X.env:=by rfl) (hfew:((backTo cpos (starEach [e] X.env)).all (fun x=>!x.1)&&(backToKw cpos (keywordEach [] X.env)).all (fun x=>x.1.isSome)
   &&decide ([e].length+([]:List Keyword).length+(if ([]:List Keyword).isEmpty then 0 else 1)<30))=true:=by rfl) (hline:(apos.endLine==cpos.line)=true:=by rfl) (hs:starEach [e] X.env=[(false,eval e X.env)]:=by rfl):PE X (.Call (.Attribute o "append" apos) [e] [] cpos) (kD px ta (tN te gy)):=
 PE.weak (wQ PySem.F.plainAttrs_list PySem.F.slot_list_append PySem.F.type_list_append B9 (PE.cl ho) (PA.cl (aa he ab hs)) hbase hfew hline hs (by rfl)) vO
theorem Em(ho:PE X o ta)(hbase:attributeBase o "reverse" X.env (eval o X.env)=eval o X.env:=by rfl) (hline:(apos.endLine==cpos.line)=true:=by rfl):PE X (.Call (.Attribute o "reverse" apos) [] [] cpos) (kD oo ta gy):=
 PE.weak (Aa PySem.F.plainAttrs_list PySem.F.slot_list_reverse PySem.F.type_list_reverse xm (PE.cl ho) hbase hline) zg
end
end SB
end
section
set_option maxHeartbeats 4000000
namespace K
open PySem PySem.Spec PyProof.Rows L2 SB
noncomputable abbrev kW:Stmt:=top 33
noncomputable abbrev ky:Stmt:=top 34
noncomputable def low (z:Str):Prop:=z.cps.toList.all lower=true
theorem CK(h:low z)(h1:1<=z.length)(h2:z.length<=8):isW z=true:=by
 unfold isW;rw[Fq h1,Fq h2,h];rfl
theorem yi{a b:Str}(ha:low a)(hb:low b):low (a++b):=by
 unfold low at *;rw[sr,List.all_append,ha,hb];rfl
theorem yP{c:Nat}(h:lower c=true):low ⟨#[c]⟩:=by
 unfold low
 simp [h]
theorem AG{i:Int}(h1:0<=i)(h2:i<26):∃ c,atI ("abcdefghijklmnopqrstuvwxyz":Str).cps.toList i=some c/\lower c=true:=by
 have e:("abcdefghijklmnopqrstuvwxyz":Str).cps.toList=List.range' 97 26:=by decide +kernel
 rw[e];obtain⟨j,rfl⟩:∃ j:Nat,i=j:=⟨i.toNat,by lia⟩
 refine⟨97+j,gJ ?_,?_⟩
 ·rw[List.getElem?_range' (by lia)]
  simp
 ·unfold lower
  simp
  lia
theorem wC:("abcdefghijklmnopqrstuvwxyz":Str).length<=sizeLine:=by decide +kernel
structure di (K:PySem.W.Frag)(mg:Str->Option Value):Prop where
 len:mg "len" = none
 range:mg "range" = none
section
variable {P:Program}{w:World}{K:PySem.W.Frag}{mg:Str->Option Value}{base:Heap}
noncomputable def ay (ns:List Int)(k:Int):Int:=ns.getD k.toNat 0
noncomputable def lj:Sp:=fun vs H Q _=>∃ a ns k,vs=[.ref a,.int k]/\RdL H a (ns.map V.int)/\0<=k/\Q (.int (ay ns k)) H
theorem DU:aJ ["_law_script","_law_k"] ["_law_script","_law_k"] (ah kW):=⟨rfl,rfl,rfl,by decide +kernel,rfl,by decide +kernel,by decide +kernel⟩
theorem xr(F:Fun K "_law_cell" "_law_cell" kW f fd) (T:di K mg):ao P w K mg base CX0 1 f fd ["_law_script","_law_k"] lj:=by
 refine F.ok DU (fun vs H Q E h=>?_) (fun cdv A outer s H vs Q E hr h=>?_)
 ·obtain⟨a,ns,k,rfl,_⟩:=h;rfl
 ·obtain⟨a,ns,k,rfl,ha,hk,q⟩:=h;refine⟨_,af (bf (aG lY (q_v 1) (q_b cI T.len (aa (q_v 0) ab))) (ag (aD (aq bD (q_v 0) (q_v 1) (fun _ _=>rfl)))) bj) (ag (aD ae)),?_⟩
  refine⟨_,ha,aV (fun h=>?_) (fun h=>?_)⟩
  ·have h:=FA h;rw[E3]at h;obtain⟨j,rfl⟩:∃ j:Nat,k=j:=⟨k.toNat,by lia⟩
   have hj:j<ns.length:=by lia
   refine⟨_,ha,.int (ay ns j),gJ ?_,q⟩;rw[E9,Fg hj];unfold ay
   simp [Gp,hj]
  ·have h:¬ k<(ns.length:Int):=fun z=>h (Fq (by rw[E3];exact z))
   have e:ay ns k=0:=by
    unfold ay;rw[Gp,Ga.mpr (by lia)]
    rfl
   rw[e]at q;exact q
structure mF (mg:Str->Option Value):Prop where
 int:mg "int" = none
noncomputable def b2n (b:Bool):Int:=if b then 1 else 0
theorem ri(b:Bool):0<=b2n b/\b2n b<=1:=by cases b <;> decide
noncomputable def sZ:List V->Hp->VK->Prop:=fun xs H Q=>match xs with
 | [.bl b]=>Q (.int (b2n b)) H
 | _=>False
theorem oB:aH X (.type "int") sZ:=aH.weak BO fun xs H Q h=>by
 unfold sZ at h
 split at h
 ·exact .inr ⟨_,rfl,h⟩
 ·exact h.elim
noncomputable def GoodW (k:Nat)(ws:List Str):Prop:=ws.length=k/\∀ z∈ws,isW z=true
noncomputable def oJ:Sp:=fun vs H Q _=>∃(c:Int)(k:Nat),vs=[.int c,.int k]/\k<=5/\∀ ws,GoodW k ws->New H (.lst (ws.map V.str)) Q
noncomputable abbrev dC:List Str:=["_law_cell_here","_law_many","_law_letters","_law_number","_law_long","_law_at","_law_found","_law_k","_law_word","_law_j","_law_place"]
theorem vH:aJ dC ["_law_cell_here","_law_many"] (ah ky):=⟨rfl,rfl,rfl,by decide +kernel,rfl,by decide +kernel,by decide +kernel⟩
theorem vR(F:Fun K "_law_words" "_law_words" ky f fd) (T:di K mg) (TN:mF mg):ao P w K mg base CX0 1 f fd ["_law_cell_here","_law_many"] oJ:=by
 refine F.ok vH (fun vs H Q E h=>?_) (fun cdv A outer s H vs Q E hr h=>?_)
 ·obtain⟨c,k,rfl,_⟩:=h;rfl
 ·obtain⟨c,kk,rfl,hk5,k⟩:=h;refine⟨_,(af (av dC 2 gR)
   (af (av dC 3 (ak bM (q_v 0) ae))
   (af (av dC 4 (ak bU ae (ak bM (q_v 3) ae)))
   (af (av dC 5 (ak bM (ak cG (q_v 3) ae) (q_v 4)))
   (af (av dC 6 (bw ab))
   (af (bC PassesOwn.never rfl (fj (q_v 1) T.range) (q_g dC 7) (af (av dC 8 gR) (af (bC PassesOwn.never rfl (fj (q_v 4) T.range) (q_g dC 9) (af (av dC 10 (ak bU (ak bU (ak cG (q_v 3) (ak bU (q_v 9) ae)) (ak ff (q_v 9) (q_v 9))) (ak ff (q_t oB TN.int (aa (dD cP (q_v 9) (q_v 5)) ab)) (q_v 7)))) (ag (av dC 8 (ak bU (q_v 8) (aq bD (q_v 2) (ak bM (q_v 10) ae) (fun _ _=>rfl))))))) (ag (bQ (eZ (q_v 6) (q_v 8)))))))
   (ag (aD (q_v 6))))))))),?_⟩
  have z1:∀{n:Nat},n<=1000->n<=sizeLine:=fun h=>by rw[Fz];lia
  have z0:∀{n:Nat},n<=1000->n<sizeLine:=fun h=>by rw[Fz];lia
  have h8:0<=c%2147483629%8/\c%2147483629%8<8:=⟨Gq _ (by decide),Ge _ (by decide)⟩
  refine⟨by show(0:Int)<2147483629;decide,by show(0:Int)<8;decide,⟨by decide,by decide⟩,by show(0:Int)<1+c%2147483629%8;lia,z1 (by show 0<=1000;decide),fun l H0 hl h0 e0=>?_⟩
  show bG 6 (.ref l) [some (.int c),some (.int kk),some (.str "abcdefghijklmnopqrstuvwxyz"),some (.int (c%2147483629)),some (.int (1+c%2147483629%8)),some (.int (c%2147483629 / 8%(1+c%2147483629%8))),none,none,none,none,none] H0 _
  obtain⟨nu,hnu⟩:∃ nu,c%2147483629=nu:=⟨_,rfl⟩;rw[hnu]at h8 ⊢;obtain⟨lo,hlo⟩:∃ lo,1+nu%8=lo:=⟨_,rfl⟩;rw[hlo];obtain⟨a',ha'⟩:∃ a',nu / 8%lo=a':=⟨_,rfl⟩;rw[ha'];have hl8:1<=lo/\lo<=8:=by lia
  clear hnu ha' hlo;refine⟨⟨by lia,by lia⟩,jr (fun i σ H1=>∃(ws:List Str) (v7 v8 v9 v10:Option V),σ=[some (.int c),some (.int kk),some (.str "abcdefghijklmnopqrstuvwxyz"),some (.int nu),some (.int lo),some (.int a'),some (.ref l),v7,v8,v9,v10]/\H1 l=some (.lst (ws.map V.str))/\GoodW i ws/\∀ x u,H x=some u->H1 x=some u)
   ⟨[],none,none,none,none,rfl,h0,⟨rfl,fun z hz=>nomatch hz⟩,fun x u hu=>e0.up hu⟩ ?_ ?_⟩
  ·rintro i σ H1 hi ⟨ws,v7,v8,v9,v10,rfl,h1,gw,fr⟩;have hi:i<kk:=by have:i<(kk:Int).toNat:=hi;lia
   refine⟨⟨by lia,by lia⟩,jr (fun j σ H2=>∃(z:Str) (v9 v10:Option V),σ=[some (.int c),some (.int kk),some (.str "abcdefghijklmnopqrstuvwxyz"),some (.int nu),some (.int lo),some (.int a'),some (.ref l),some (.int (0+(i:Int))),some (.str z),v9,v10]/\H2=H1/\low z/\z.length=j)
    ⟨("":Str),v9,v10,rfl,rfl,by unfold low;decide +kernel,by decide +kernel⟩ ?_ ?_⟩
   ·rintro j σ H2 hj ⟨z,v9,v10,rfl,rfl,hz,lz⟩;have hj:j<lo.toNat:=hj;obtain⟨c1,hc1,hc2⟩:=AG (i:=(nu / (0+(j:Int)+3)+(0+(j:Int))*(0+(j:Int))+b2n (decide (V.int (0+(j:Int))=V.int a'))*(0+(i:Int)))%26) (Gq _ (by decide)) (Ge _ (by decide))
    have hb:=ri (decide (V.int (0+(j:Int))=V.int a'));refine⟨⟨by show(0:Int)<0+(j:Int)+3;lia,by show 0+(j:Int)+3<1073741824;lia⟩,.inl ⟨by lia,by lia⟩,rfl,.inl ⟨by show -(2^64)<b2n _;lia,by show b2n _<2^64;lia⟩,by show(0:Int)<26;decide,wC,c1,hc1,?_,z++⟨#[c1]⟩,_,_,rfl,rfl,yi hz (yP hc2),?_⟩
    ·show z.length+1<=sizeLine
     exact z1 (by lia)
    ·rw[len_app,lz];rfl
   rintro σ H2 ⟨z,v9,v10,rfl,rfl,hz,lz⟩;have lz:z.length=lo.toNat:=lz;refine⟨_,.inl h1,_,h1,z0 (by rw[E3,gw.1];lia),fun H3 h3 b3=>?_⟩
   refine⟨ws++[z],_,_,_,_,rfl,by rw[h3,Fc];rfl,⟨by rw[Fh,gw.1];rfl,fun y hy=>?_⟩,fun x u hu=>b3.up (aA hu hl) (fr x u hu)⟩
   rcases Fs.mp hy with hy|hy
   ·exact gw.2 y hy
   ·rw[Fb.mp hy];exact CK hz (by lia) (by lia)
  rintro σ H1 ⟨ws,v7,v8,v9,v10,rfl,h1,gw,fr⟩;exact k ws (by have:=gw.1;exact⟨by have:ws.length=(kk:Int).toNat:=this;lia,gw.2⟩) l H1 hl h1 fr
end
end K
end
section
namespace SB
open PySem PySem.Spec PyProof.Rows L2
noncomputable def flD (xs:List V):Dt:=.lst (xs.map Dt.sc)
theorem jH{K:PySem.W.Frag}:∀{xs:List V},xs.all bP=true->IsL K H (xs.map Dt.sc) xs
 | [],_=>by unfold IsL;rfl
 | x::r,h=>by
  simp only[List.all_cons,F1]at h;rw[Fi];unfold IsL;refine⟨x,r,rfl,?_,jH h.2⟩;unfold Is;exact⟨rfl,h.1⟩
theorem bV{K:PySem.W.Frag}(h:RdL H a xs)(f:xs.all bP=true):Is K H (flD xs) (.ref a):=by
 unfold flD Is;exact⟨a,xs,rfl,h.sq,jH f⟩
theorem jP:∀ xs:List V,bT (xs.map Dt.sc)=0
 | []=>by unfold bT;rfl
 | x::r=>by
  rw[Fi];unfold bT dep;rw[jP r];rfl
theorem eL(xs:List V):dep (flD xs)=1:=by unfold flD dep;rw[jP]
theorem ro:∀{xs ys:List V},(∀ x∈xs,∀ y∈ys,nb x y=true)->bx (xs.map Dt.sc) (ys.map Dt.sc)
 | [],ys,_=>by unfold bx;cases ys <;> trivial
 | x::r,[],_=>by unfold bx;trivial
 | x::r,y::ys,h=>by
  rw[Fi,Fi];unfold bx;refine⟨?_,ro fun a ha b hb=>h a (Ff _ ha) b (Ff _ hb)⟩
  unfold Alike;exact h x (Fd ..) y (Fd ..)
theorem ez{ys:List V}(h:∀ x∈xs,∀ y∈ys,nb x y=true):Alike (flD xs) (flD ys):=by
 unfold flD Alike;exact ro h
theorem mT:∀{xs ys:List V},xs.map Dt.sc=ys.map Dt.sc->xs=ys
 | [],[],_=>rfl
 | [],_::_,h=>by simp at h
 | _::_,[],h=>by simp at h
 | x::r,y::s,h=>by
  simp only[Fi,List.cons.injEq,Dt.sc.injEq]at h;rw[h.1,mT h.2]
theorem z8(xs ys:List Int):∀ x∈xs.map V.int,∀ y∈ys.map V.int,nb x y=true:=fun x hx y hy=>by
 obtain⟨i,_,rfl⟩:=E5.mp hx;obtain⟨j,_,rfl⟩:=E5.mp hy;rfl
theorem yJ(xs ys:List Str):∀ x∈xs.map V.str,∀ y∈ys.map V.str,nb x y=true:=fun x hx y hy=>by
 obtain⟨i,_,rfl⟩:=E5.mp hx;obtain⟨j,_,rfl⟩:=E5.mp hy;rfl
section
variable {P:Program}{w:World}{K:PySem.W.Frag}{mg:Str->Option Value}{base h:Heap}
noncomputable def noL (K:PySem.W.Frag):Bool:=K.all fun p=>p.2.cls !=.type "list"
noncomputable def Has (K:PySem.W.Frag)(mg:Str->Option Value)(x:Str)(st:Stmt):Prop:=∃ f fd,Fun K x x st f fd/\mg x=some (.ref f)
theorem bp{st:Stmt}{oc:Value}{od an:Option Addr}{osl:Array (Option Value)}{kV doc cdv ct:Value}(X:K.In h)(G:h.Ns mainGlobals mg)(a:PySem.W.nsIn K mainGlobals x=some (some (.ref f)))(l:K.lookup f=some ⟨oc,od,.func (PySem.W.fnOf x x (cR st) (cy st) (ah st) .none kV doc pm an cdv ct),osl⟩)(c:PySem.W.codeIn K cdv x=true)(k:PySem.W.keepIn K (.ref f)=true):Has K mg x st:=
 ⟨f,_,qe l c k,PySem.W.mg_of X G a⟩
noncomputable def cD (K:PySem.W.Frag)(C:Addr)(m qual:Str)(st:Stmt):Prop:=∃ f fd,Fun K m qual st f fd/\Meth K C m f
theorem iM{m:Str}{st:Stmt}{oc:Value}{od an:Option Addr}{osl:Array (Option Value)}{kV doc cdv ct:Value}(a:PySem.W.findIn K (.ref C) m=some (some (.ref f)))(i:PySem.W.isFn K (.ref f)=true)(l:K.lookup f=some ⟨oc,od,.func (PySem.W.fnOf m qual (cR st) (cy st) (ah st) .none kV doc pm an cdv ct),osl⟩)(c:PySem.W.codeIn K cdv qual=true)(k:PySem.W.keepIn K (.ref f)=true):cD K C m qual st:=
 ⟨f,_,qe l c k,⟨a,i,k⟩⟩
theorem Has.known{st:Stmt}{k:Nat}{sp:Sp}(H:Has K mg x st)(ok:∀ f fd,Fun K x x st f fd->ao P w K mg base CX0 k f fd ps sp)(hb:∀(kV doc pm:Value)(an:Option Addr)(cdv ct:Value)(us:List Value),us.length=ps.length->bindArgs (PySem.W.fnOf x x (cR st) (cy st) (ah st) .none kV doc pm an cdv ct) ⟨us,[]⟩=pure (ps.zip us)):Known P w K mg base k x ps sp:=by
 obtain⟨f,fd,F,m⟩:=H;exact⟨f,fd,ok f fd F,m,F.kp,F.binds hb⟩
theorem cD.known{m:Str}{st:Stmt}{k:Nat}{sp:Sp}(H:cD K C m qual st)(ok:∀ f fd,Fun K m qual st f fd->ao P w K mg base CX0 k f fd ps sp)(hb:∀(kV doc pm:Value)(an:Option Addr)(cdv ct:Value)(us:List Value),us.length=ps.length->bindArgs (PySem.W.fnOf m qual (cR st) (cy st) (ah st) .none kV doc pm an cdv ct) ⟨us,[]⟩=pure (ps.zip us)):cu P w K mg base k C m ps sp:=by
 obtain⟨f,fd,F,me⟩:=H;exact⟨f,fd,ok f fd F,me,F.binds hb⟩
theorem cD.DJ{st:Stmt}{k:Nat}{sp:Sp}(H:cD K C "__init__" qual st) (mc:mg x=some (.ref C)) (mk:PySem.W.makesIn K C=true) (kc:PySem.W.keepIn K (.ref C)=true) (ok:∀ f fd,Fun K "__init__" qual st f fd->ao P w K mg base CX0 k f fd ps sp) (hb:∀(kV doc pm:Value) (an:Option Addr) (cdv ct:Value) (us:List Value),us.length=ps.length->bindArgs (PySem.W.fnOf "__init__" qual (cR st) (cy st) (ah st) .none kV doc pm an cdv ct) ⟨us,[]⟩=pure (ps.zip us)):kM P w K mg base k x C ps sp:=by
 obtain⟨f,fd,F,me⟩:=H;exact⟨f,fd,⟨mk,me.at_,me.fn,kc⟩,ok f fd F,mc,F.binds hb⟩
end
section
variable {X:Cx}{a b c e o:Expr}{ta tb tc te:TE}{pos p apos cpos:Pos}
open Classical in
noncomputable def isD (K:PySem.W.Frag)(H:Hp)(d:Dt)(u:Value):Bool:=decide (∃ y,RelV y u/\Is K H d y)
theorem Cj{K:PySem.W.Frag}{d:Dt}:isD K H d u=true↔∃ y,RelV y u/\Is K H d y:=by unfold isD;simp
theorem iO(I:Inv X pins σ H s){d e:Dt}{y:V}(r:RelV y u)(h:Is X.K H e y)(ha:Alike e d)(hd:dep e<=40):isD X.K H d u=eqD e d:=by
 apply FU.mpr;rw[Cj,dB];constructor
 ·rintro⟨y',r',h'⟩;rw[RelV.inj r' r]at h';exact lS I 40 hd h h' ha
 ·rintro rfl;exact⟨y,r,h⟩
theorem rj(I:Inv X pins σ H s)(hA:A.units+40<cLine){d:Dt}{x:V}(rx:RelV x v)(hx:Is X.K H d x):∀{ds:List Dt}{xs:List V}{us:List Value},IsL X.K H ds xs->Vals xs us->(∀ e∈ds,Alike e d/\dep e<=40) →
  (∀ u∈us,SeqAt.EqAt A s u v (isD X.K H d u))/\us.any (isD X.K H d)=ds.any fun e=>eqD e d
 | [],xs,us,h,r,_=>by
  unfold IsL at h;subst h;cases r
  exact⟨fun u hu=>(by cases hu),rfl⟩
 | e::ds,xs,us,h,r,ok=>by
  unfold IsL at h;obtain⟨y,rs,rfl,h1,h2⟩:=h;cases r with
  | cons r1 r2=>
   obtain⟨a1,d1⟩:=ok e (Fd ..);obtain⟨i1,i2⟩:=rj I hA rx hx h2 r2 fun e' he'=>ok e' (Ff _ he')
   refine⟨fun u hu=>?_,?_⟩
   ·rcases Fn.mp hu with rfl|hu
    ·rw[iO I r1 h1 a1 d1];exact eqj 40 d1 h1 hx a1 pins s σ _ v A I r1 rx hA
    ·exact i1 u hu
   ·rw[GU,GU,i2,iO I r1 h1 a1 d1]
theorem sS(hu:X.A.units+64<cLine):OpR X (compareOp .NotIn) (zb X.K true):=by
 intro pins s σ H x y v u Q I rx ry h;obtain⟨d,a,xs,ds,rfl,hq,hl,hx,ok,q⟩:=h;cases ry
 obtain⟨its,r,pl,hz⟩:=I.list hq;obtain⟨m1,m2⟩:=rj I (A:=X.A.in1) (by show X.A.units+1+40<cLine;lia) rx hx hl r ok
 refine SeqAt.notIn_listAt (isD X.K H d) pl.isList (fun w hw=>m1 w (by simpa using hw)) ⟨.bl _,H,I,rfl,?_⟩
 rw[show its.toArray.any (isD X.K H d)=its.any (isD X.K H d) by simp,m2]
 exact q
noncomputable def xc (td ty:TE):TE:=fun σ H Q=>td σ H fun x H1=>match x with
 | .ref p=>ty σ H1 fun y H2=>∃ kvs,RdD H2 p kvs/\∃ k,keyOf y=some k/\∃ v,aN kvs k=some v/\Q v H2
 | _=>False
theorem qS(hu:X.A.units+64<cLine)(ho:PE X o ta)(he:PE X e te)(hs:jy e:=by intro _ _;rfl):PE X (.Subscript o e pos) (xc ta te):=
 PE.weak (wX (by lia) (PE.cl ho) (PE.cl he) hs) fun σ H Q h=>⟨_,h,fun x H1 q=>by
  split at q
  ·exact⟨_,q,fun y H2 q=>by
    obtain⟨kvs,hk,k,hy,v,hv,q⟩:=q;exact⟨_,v,rfl,.inl ⟨kvs,k,hk,gT hy,hv.symm⟩,q⟩⟩
  ·exact q.elim⟩
noncomputable def kh (neg:Bool):R2:=fun y x H Q=>match x with
 | .ref p=>∃ kvs,RdD H p kvs/\∃ k,keyOf y=some k/\Q (.bl (if neg then !(aN kvs k).isSome else(aN kvs k).isSome)) H
 | _=>False
theorem Bs(hu:X.A.units+64<cLine):OpR X (compareOp .In) (kh false):=by
 intro pins s σ H y x v u Q I ry rx h;unfold kh at h
 split at h
 ·obtain⟨kvs,hk,k,hy,q⟩:=h;cases rx
  exact Aw (by lia) I (.inl ⟨kvs,k,hk,gT hy,rfl⟩) ry fun s3 I3=>⟨.bl _,H,I3,rfl,q⟩
 ·exact h.elim
theorem A3(hu:X.A.units+64<cLine):OpR X (compareOp .NotIn) (kh true):=by
 intro pins s σ H y x v u Q I ry rx h;unfold kh at h
 split at h
 ·obtain⟨kvs,hk,k,hy,q⟩:=h;cases rx
  exact BW (by lia) I (.inl ⟨kvs,k,hk,gT hy,rfl⟩) ry fun s3 I3=>⟨.bl _,H,I3,rfl,q⟩
 ·exact h.elim
noncomputable def qk:List V->Hp->VK->Prop:=fun xs H Q=>match xs with
 | [.ref p]=>∃ ys,RdT H p ys/\Q (.int ys.length) H
 | _=>False
theorem vW:aH X (.builtin "len") qk:=aH.weak qp fun xs H Q h=>by
 unfold qk at h
 split at h
 ·obtain⟨ys,hy,q⟩:=h;exact⟨_,ys,rfl,.inr hy.sq,q⟩
 ·exact h.elim
end
noncomputable def fo (g:TG):Prop:=∀ x σ H (Q Q':L2.St->Hp->Prop),(∀ v H',Q v H'->Q' v H')->g x σ H Q->g x σ H Q'
noncomputable def js (g:TGs):Prop:=∀ xs σ H (Q Q':L2.St->Hp->Prop),(∀ v H',Q v H'->Q' v H')->g xs σ H Q->g xs σ H Q'
theorem vZ:js lu:=fun xs σ H Q Q' k h=>by
 unfold lu at *
 split at h
 ·exact k _ _ h
 ·exact h.elim
theorem ou{t:TG}{u:TGs}(h1:fo t)(h2:js u):js (jL t u):=fun xs σ H Q Q' k h=>by
 unfold jL at *
 split at h
 ·exact h1 _ _ _ _ _ (fun v H'=>h2 _ _ _ _ _ k) h
 ·exact h.elim
theorem wR{n:Nat}{t:TGs}(h1:js t):fo (uGT n t):=fun xs σ H Q Q' k h=>by
 unfold uGT at *
 split at h
 ·obtain⟨ys,a,b,q⟩:=h;exact⟨ys,a,b,h1 _ _ _ _ _ k q⟩
 ·exact h.elim
theorem uJ{fr:List (Option Nat)}{σ':L2.St}{w:Option V}(h:fr[i]? =some none)(f:cQ fr σ σ'):cQ fr σ (σ'.set i w):=fun k v e=>by
 rw[List.getElem?_set]
 by_cases q:i=k
 ·subst q;unfold frV at e;rw[E9,h]at e;cases e
 ·rw[if_neg q];exact f k v e
theorem mh:fo (bG i):=fun xs σ H Q Q' k h=>k _ _ h
noncomputable def b2i (b:Bool):Int:=if b then 1 else 0
noncomputable def iq:L2.Key->Value->Bool
 | .inl i,.bool b=>decide (i=b2i b)
 | k,v=>bI k v
theorem de:∀{k:L2.Key}{v:Value},iq k v=true->(∃ i t,k=Sum.inl i/\v=Value.int i t)\/(∃ x t,k=Sum.inr x/\v=Value.str x t)\/∃ b,k=Sum.inl (b2i b)/\v=Value.bool b:=by
 intro k v h;unfold iq at h
 split at h
 ·rename_i i b
  exact .inr (.inr ⟨b,by rw[FA h],rfl⟩)
 ·rcases bH h with h|h
  ·exact .inl h
  ·exact .inr (.inl h)
theorem Ah{b:Bool}{Q:Int->Shared->Prop}(h:Q (hashInt (b2i b)) { s with toks:=s.toks+1 }):wpAny (model prog w) A (PySem.pyHash (.bool b)) Q E s:=by
 refine PySem.W.pyHash_slot (T:="bool") rfl F.slot_bool_hash entry_int_hash (args_int_hash _) rfl (.inl rfl) ?_
 cases b
 ·exact(show wpAny _ _ (do ret (<-mkInt 0)) _ _ s from E4 (wpAny_mkInt (E6 ⟨_,_,rfl,h⟩)))
 ·exact(show wpAny _ _ (do ret (<-mkInt 1)) _ _ s from E4 (wpAny_mkInt (E6 ⟨_,_,rfl,h⟩)))
theorem A9{a b:Bool}(h:b2i a=b2i b):a=b:=by cases a <;> cases b <;> first|rfl|(exact absurd h (by decide))
noncomputable def dU (prog:Program)(w:World):PySem.KeyKind prog w L2.Key where
 is:=iq
 hash:=tF w
 inj:=fun v a b ha hb=>by
  rcases de ha with⟨i,t,rfl,rfl⟩|⟨x,t,rfl,rfl⟩|⟨c,rfl,rfl⟩
  ·rcases de hb with⟨j,u,rfl,e⟩|⟨y,u,rfl,e⟩|⟨c,rfl,e⟩
   ·injection e with e1 _;rw[e1]
   ·exact nomatch e
   ·exact nomatch e
  ·rcases de hb with⟨j,u,rfl,e⟩|⟨y,u,rfl,e⟩|⟨c,rfl,e⟩
   ·exact nomatch e
   ·injection e with e1 _;rw[e1]
   ·exact nomatch e
  ·rcases de hb with⟨j,u,rfl,e⟩|⟨y,u,rfl,e⟩|⟨d,rfl,e⟩
   ·exact nomatch e
   ·exact nomatch e
   ·injection e with e1;rw[e1]
 byValue:=fun k v h=>by
  rcases de h with⟨i,t,rfl,rfl⟩|⟨x,t,rfl,rfl⟩|⟨c,rfl,rfl⟩ <;> rfl
 pyHash:=fun hv h=>by
  rcases de hv with⟨i,t,rfl,rfl⟩|⟨x,t,rfl,rfl⟩|⟨c,rfl,rfl⟩
  ·exact wpAny_pyHash_int h
  ·exact wpAny_pyHash_str h
  ·exact Ah h
 eqBool:=fun hu hv h=>by
  rcases de hu with⟨i,t,rfl,rfl⟩|⟨x,t,rfl,rfl⟩|⟨c,rfl,rfl⟩
  ·rcases de hv with⟨j,u,rfl,rfl⟩|⟨y,u,rfl,rfl⟩|⟨d,rfl,rfl⟩
   ·rw[iN]at h;exact wpAny_eqBool_int h
   ·rw[nM]at h;exact SeqAt.EqAt.int_str i t y u _ _ _ _ h
   ·rw[iN]at h;refine SeqAt.EqAt.int_bool i t d _ _ _ _ ?_;cases d <;> exact h
  ·rcases de hv with⟨j,u,rfl,rfl⟩|⟨y,u,rfl,rfl⟩|⟨d,rfl,rfl⟩
   ·rw[nH]at h;exact SeqAt.EqAt.str_int x t j u _ _ _ _ h
   ·rw[rq]at h;exact wpAny_eqBool_str h
   ·rw[nH]at h;exact SeqAt.EqAt.str_bool x t d _ _ _ _ h
  ·rcases de hv with⟨j,u,rfl,rfl⟩|⟨y,u,rfl,rfl⟩|⟨d,rfl,rfl⟩
   ·rw[iN]at h;refine SeqAt.EqAt.bool_int c j u _ _ _ _ ?_;cases c <;> exact h
   ·rw[nM]at h;exact SeqAt.EqAt.bool_str c y u _ _ _ _ h
   ·rw[iN]at h;refine SeqAt.EqAt.bool_bool c d _ _ _ _ ?_;cases c <;> cases d <;> exact h
 «strs»:=fun k x t v h=>by
  rcases de h with⟨i,u,rfl,e⟩|⟨y,u,rfl,e⟩|⟨d,rfl,e⟩
  ·exact nomatch e
  ·injection e with e1 _;subst e1;cases v <;> rfl
  ·exact nomatch e
noncomputable def kB:V->Option L2.Key
 | .int i=>some (.inl i)
 | .str x=>some (.inr x)
 | .bl b=>some (.inl (b2i b))
 | _=>none
theorem BM{y:V}{k:L2.Key}(h:kB y=some k)(r:RelV y u):iq k u=true:=by
 unfold kB at h
 split at h
 ·cases h
  obtain⟨t,rfl⟩:=r;exact kK _ t
 ·cases h
  obtain⟨t,rfl⟩:=r;exact jA _ t
 ·cases h
  cases r
  unfold iq;exact Fq rfl
 ·cases h
noncomputable def dH (ys:List V)(ks:List L2.Key):Prop:=ys.map kB=ks.map some
theorem tW:∀{ys:List V}{ks:List L2.Key}{us:List Value},dH ys ks->Vals ys us->ItemsAre (dU P w) ks us
 | [],[],_,_,r=>by cases r;exact .nil
 | [],_::_,_,h,_=>by unfold dH at h;simp at h
 | _::_,[],_,h,_=>by unfold dH at h;simp at h
 | y::ys,k::ks,_,h,r=>by
  unfold dH at h;simp only[Fi,List.cons.injEq]at h;cases r with
  | cons r1 r2=>exact .cons (BM h.1 r1) (tW h.2 r2)
noncomputable abbrev bq:=List L2.Key×Addr×V
noncomputable abbrev KTB:List bq->List (List L2.Key×Addr×Value)->Prop:=Paired fun p q=>p.1=q.1/\p.2.1=q.2.1/\RelV p.2.2 q.2.2
noncomputable def DTB (P:Program)(w:World)(a:Addr)(xs:List bq):HO:=.ext fun h=>∃ vs,KTB xs vs/\xs.length<=sizeLine/\(a==sysModules)=false ∧
 ∃ o es ep,h.get? a=some o/\o.ExactDict/\o.data=.dict es ep/\es.toList=vs.map (entryOfKey (tupleKind (dU P w)))/\(vs.map (·.1)).Nodup
theorem jq{xs:List bq}{vs:List (List L2.Key×Addr×Value)}(r:KTB xs vs)(z:xs.length<=sizeLine)(hd:(a==sysModules)=false)(h1:h.get? a=some o)(h2:o.ExactDict)(h3:o.data=.dict es ep)(h4:es.toList=vs.map (entryOfKey (tupleKind (dU P w))))(h5:(vs.map (·.1)).Nodup):au P w H h a (DTB P w a xs):=
 ⟨⟨vs,r,z,hd,o,es,ep,h1,h2,h3,h4,h5⟩,⟨o,h1⟩,fun _ _ ⟨vs,r,z,hd,o,es,ep,h1,h2⟩ k=>⟨vs,r,z,hd,o,es,ep,k o h1,h2⟩⟩
noncomputable def fP (H:Hp)(xs:List bq):Prop:=∀ x∈xs,∃ ys,H x.2.1=some (.tup ys)/\dH ys x.1
theorem kz{ys:List V}{ks:List L2.Key}(ok:HOk P w H h)(e:H a=some (.tup ys))(k:dH ys ks):(tupleKind (dU P w)).is h ks a:=by
 obtain⟨_,its,r,o,h1,h2,n,h3⟩:=(show au P w H h a (.tup ys) from ok a _ e)
 exact⟨o,its.toArray,n,h1,h2,h3,by simpa using tW k r⟩
theorem mn{xs:List bq}(ok:HOk P w H h)(e:H a=some (DTB P w a xs))(kk:fP H xs):xs.length<=sizeLine/\(a==sysModules)=false ∧
  ∃ vs,KTB xs vs/\h.DictOfH (tupleKind (dU P w)) a vs:=by
 obtain⟨⟨vs,r,z,y,o,es,ep,h1,h2,h3,h4,h5⟩,_⟩:=(show au P w H h a (DTB P w a xs) from ok a _ e)
 refine⟨z,y,vs,r,o,es,ep,h1,h2,h3,h4,fun x hx=>?_,h5⟩
 have all:∀{l:List bq} {m:List (List L2.Key×Addr×Value)},KTB l m->fP H l->∀ x∈m,(tupleKind (dU P w)).is h x.1 x.2.1:=by
  intro l m q;induction q with
  | nil=>intro _ x hx;exact nomatch hx
  | @cons p q ps qs hq t ih=>
   intro kk x hx;rcases Fn.mp hx with e|hx
   ·subst e;obtain⟨ys,e1,e2⟩:=kk p (Fd ..);rw[<-hq.1,<-hq.2.1];exact kz ok e1 e2
   ·exact ih (fun y hy=>kk y (Ff _ hy)) x hx
 exact all r kk x hx
noncomputable def atB (xs:List bq)(k:List L2.Key):Option V:=(xs.find? fun x=>decide (x.1=k)).map (·.2.2)
theorem KTB.at{xs:List bq}{vs:List (List L2.Key×Addr×Value)}(r:KTB xs vs)(k:List L2.Key):bR (atB xs k) ((atKey vs k).map (·.2)):=by
 unfold atB atKey;induction r with
 | nil=>exact True.intro
 | @cons p q ps qs h t ih=>
  obtain⟨h1,_,h2⟩:=h;rw[F9,F9,<-h1]
  by_cases e:p.1=k
  ·rw[Fq e];exact h2
  ·rw[FI e];exact ih
noncomputable def dY (xs:List bq)(k:List L2.Key)(b:Addr)(v:V):List bq:=if (atB xs k).isSome=true then xs.map (fun x=>if x.1=k then(x.1,x.2.1,v) else x) else xs++[(k,b,v)]
theorem va{o:Option V}{u:Option Value}(r:bR o u):o.isSome=u.isSome:=by
 cases o <;> cases u <;> first|rfl|exact r.elim
theorem KTB.put{xs:List bq}{vs:List (List L2.Key×Addr×Value)}(r:KTB xs vs)(k:List L2.Key){y:V}(ry:RelV y u):KTB (dY xs k b y) (storedH vs k b u):=by
 have e:=va (r.at k);rw[GZ]at e;unfold dY storedH;rw[e]
 by_cases q:(atKey vs k).isSome=true
 ·rw[if_pos q,if_pos q];clear e q;induction r with
  | nil=>exact .nil
  | @cons p q ps qs h t ih=>
   rw[Fi,Fi];refine .cons ?_ ih;obtain⟨h1,h2,h3⟩:=h;unfold putAt
   by_cases e:p.1=k
   ·rw[if_pos e,if_pos (h1.symm.trans e)];exact⟨h1,h2,ry⟩
   ·rw[if_neg e,if_neg (fun z=>e (h1.trans z))];exact⟨h1,h2,h3⟩
 ·rw[if_neg q,if_neg q];exact Paired.snoc r ⟨rfl,rfl,ry⟩
theorem wZ(xs:List bq)(k:List L2.Key)(b:Addr)(v:V):(dY xs k b v).length<=xs.length+1:=by
 unfold dY
 split
 ·rw[E3];lia
 ·rw[Fh];exact E7 _
section
variable {X:Cx}{a b c e o:Expr}{ta tb tc te:TE}{pos p apos cpos:Pos}
noncomputable def uW (X:Cx)(neg:Bool):R2:=fun y x H Q=>match y,x with
 | .ref b,.ref a=>∃ xs,H a=some (DTB X.prog X.w a xs)/\fP H xs/\∃ ys,H b=some (.tup ys)/\∃ k,dH ys k/\Q (.bl (if neg then !(atB xs k).isSome else(atB xs k).isSome)) H
 | _,_=>False
theorem we(hu:X.A.units+64<cLine):OpR X (compareOp .NotIn) (uW X true):=by
 intro pins s σ H y x v u Q I ry rx h;unfold uW at h
 split at h
 ·obtain⟨xs,hx,kk,ys,hy,k,hk,q⟩:=h;cases rx
  cases ry
  obtain⟨z,hd,vs,r,dd⟩:=mn I.hok hx kk;refine wpAny_notIn_heap (tupleKind_room_in1 (by lia)) (kz I.hok hy hk) hd dd ⟨.bl _,H,I.tok _,rfl,?_⟩
  have e:=va (r.at k);rw[GZ]at e;rw[<-e];exact q
 ·exact h.elim
noncomputable def vD (X:Cx):TE:=fun _ H Q=>∀ p H',H p=none->H' p=some (DTB X.prog X.w p [])->Ext H H'->Q (.ref p) H'
theorem yK:PE X (.Dict [] [] pos) (vD X):=fun pins s σ H Q I h=>
 wpAny_Dict_empty ⟨.ref s.heap.objs.size,_,I.laid (a:=s.heap.objs.size) (o:=DTB X.prog X.w s.heap.objs.size []) (t':=s.toks) (fun _ _ q=>E8 _ q) (E7 _)
  (jq (vs:=[]) .nil (FG _) (beq_eq_false_iff_ne.mpr (Ne.symm (FD I.big))) (Fv _ rfl) ⟨rfl,rfl,rfl⟩ rfl rfl GW),rfl,h _ _ (I.hok.fresh (E7 _)) aY (cY (I.hok.fresh (E7 _)))⟩
noncomputable def xI (X:Cx)(td ty tv:TE):TS:=fun D σ H=>tv σ H fun v H1=>td σ H1 fun x H2=>match x with
 | .ref a=>ty σ H2 fun y H3=>match y with
  | .ref b=>∃ xs,H3 a=some (DTB X.prog X.w a xs)/\fP H3 xs/\bB (xs.length<sizeLine)/\∃ ys,H3 b=some (.tup ys)/\∃ k,dH ys k/\dz H3 a (DTB X.prog X.w a (dY xs k b v)) (D.nx σ)
  | _=>False
 | _=>False
theorem qG{value:Expr}{tv:TE}(hu:X.A.units+64<cLine)(ho:PE X o ta)(hi:PE X e te)(hv:PE X value tv)(hs:swapsWith value (some (.Subscript o e pos')) pos.line X.env=pure false:=by rfl) :
  PS X (.Assign [.Subscript o e pos'] value pos) (xI X ta te tv):=by
 intro pins s σ H D I h;refine wpAny_Assign_Subscript (thn (hv pins s σ H _ I h) fun r s1 ⟨v,H1,I1,rv,q1⟩=>thn (ho pins s1 σ H1 _ I1 q1) fun u s2 ⟨x,H2,I2,rx,q2⟩=>?_) hs
 dsimp only at q2
 split at q2
 ·rename_i a
  refine thn (hi pins s2 σ H2 _ I2 q2) fun iv s3 hZ=>?_
  obtain⟨y,H3,I3,ry,q3⟩:=hZ
  try dsimp only at q3
  split at q3
  ·rename_i b
   obtain⟨xs,hx,kk,hz,ys,hy,k,hk,q⟩:=q3;cases rx
   cases ry
   obtain⟨z,hd,vs,r',dd⟩:=mn I3.hok hx kk;have hz':vs.length<=sizeLine:=by rw[<-Paired.length r'];exact z
   have hl:(dY xs k b v).length<=sizeLine:=by have:=wZ xs k b v;have:xs.length<sizeLine:=hz;lia
   refine wpAny_setItem_heap (hsz:=hz') (tupleKind_room_in1 (by lia)) (kz I3.hok hy hk) dd fun h' dd' hs=>⟨σ,_,?_,q.at⟩
   obtain⟨q',es,ep,hq,h2,h3,h4,_,h5⟩:=dd';exact kQ I3 (by rw[hx];exact True.intro) hs ⟨q',hq⟩ (jq (r'.put k rv) hl hd hq h2 h3 h4 h5)
  ·exact q3.elim
 ·exact q2.elim
end
noncomputable def eO (a:Addr)(i n ep:Nat):Obj:={ cls:=.type "dict_keyiterator",data:=.fields #[.ref a,.int i 0,.int n 0,.int ep 0] }
section
variable {prog:Program}{w:World}{A:Around}{E:Value->Shared->Prop}{s:Shared}{a it:Addr}{o:Obj}{es:Array DictEntry}{ep i:Nat}
theorem qy(hs:(a==sysModules)=false)(ho:s.heap.get? a=some o)(ex:o.ExactDict)(hd:o.data=.dict es ep)(h:Q (.ref s.heap.objs.size) { s with heap:=s.heap.push (eO a 0 es.size ep) }):wpAny (model prog w) A (pyIter (.ref a)) Q E s:=by
 have ty:s.TypeIs (.ref a) "dict":=⟨o,ho,ex.1⟩
 refine wpAny_pyIter_slot ty F.slot_dict_iter (Gh F.slot_dict_iter ty F.entry_dict_iter ?_ (F.args_dict_iter_1 _));unfold Builtin.«dict.__iter__» Builtin.Dict.dictSlotNone;refine E4 (E4 (wpAny_notOrdered_dict ty ?_));show wpAny _ _ (pure (Value.ref a)) _ _ s
 refine E6 ?_;show wpAny _ _ (Builtin.Dict.showsAll a >>= _) _ _ s
 unfold Builtin.Dict.showsAll;rw[if_neg (by rw[hs];exact FC)]
 refine E4 (E6 (E4 (wpAny_dictEntries ho hd (E4 (wpAny_dictEpoch ho hd ?_)))));exact E4 (Gu (E6 ⟨_,rfl,"dict_keyiterator",_,⟨_,Fv _ rfl,rfl⟩,F.slot_dict_keyiterator_next.lookup,h⟩))
theorem tK{Q:Option Value->Shared->Prop}{e:DictEntry}(ho:s.heap.get? a=some o)(hd:o.data=.dict es ep)(hit:s.heap.get? it=some (eO a i es.size ep))(hx:es[i]? =some e)(h:∀ h',Heap.SameBut it s.heap h'->h'.get? it=some (eO a (i+1) es.size ep)->Q (some e.key) { s with heap:=h' }):wpAny (model prog w) A (pyNext (.ref it)) Q E s:=by
 have ty:s.TypeIs (.ref it) "dict_keyiterator":=⟨_,hit,rfl⟩
 unfold pyNext;refine E4 (wpAny_attempt (wpAny_callSpecial?_slot (name:=Str.ofString "__next__") ty F.slot_dict_keyiterator_next (Gh F.slot_dict_keyiterator_next ty F.entry_dict_keyiterator_next ?_ (F.args_dict_keyiterator_next_1 _))))
 refine E4 (E6 (E4 (E4 ?_)))
 first|refine E4 (G1 ty (E6 ?_))|refine E4 (wpAny_typeNameOf_keyiter ty (E6 ?_))
 refine E4 (wpAny_fieldsOf hit rfl ?_);have hown:Builtin.Dict_items.ownsTuple "dict_keyiterator" = false:=by decide
 simp only[hown,Fo,if_false];show wpAny _ _ (if (Value.ref a==Value.none)=true then _ else _) _ _ s
 rw[if_neg (show ¬ ((Value.ref a==Value.none)=true) from FC)]
 refine E4 (E6 (E4 (wpAny_dictEntries ho hd ?_)));rw[if_neg (by simp)]
 refine E4 (E6 (E4 (wpAny_dictEpoch ho hd ?_)));rw[if_neg (by simp)]
 refine E6 ?_;simp only[show ¬ ((i:Int)<0) from by lia,if_false,Int.toNat_natCast,hx]
 refine E4 ?_
 first|refine E4 (G1 ty (E6 ?_))|refine E4 (wpAny_typeNameOf_keyiter ty (E6 ?_))
 refine E4 (wpAny_isOneOf_keyiter ty ?_);show wpAny _ _ (setField (.ref it) 1 (rawInt ((i:Int)+1)) >>= _) _ _ s
 refine E4 (GK (vs:=#[.ref a,.int i 0,.int es.size 0,.int ep 0]) hit (by simp) fun h1 hg1 hs1=>?_)
 have g1:h1.get? it=some (eO a (i+1) es.size ep):=by rw[hg1];simp [eO,rawInt]
 refine E4 (F7 ?_);refine E4 (wpAny_isOneOf_keyiter (s:={ s with heap:=h1 }) ⟨_,g1,rfl⟩ ?_);exact E6 (E6 ⟨_,rfl,E6 (h h1 hs1 g1)⟩)
theorem rg{Q:Option Value->Shared->Prop}(hh:A.handled=none)(ho:s.heap.get? a=some o)(hd:o.data=.dict es ep)(hit:s.heap.get? it=some (eO a es.size es.size ep))(h:∀ h',Heap.ExtBut it s.heap h'->Q none { s with heap:=h' }):wpAny (model prog w) A (pyNext (.ref it)) Q E s:=by
 have ty:s.TypeIs (.ref it) "dict_keyiterator":=⟨_,hit,rfl⟩
 unfold pyNext;refine E4 (wpAny_attempt (wpAny_callSpecial?_slot (name:=Str.ofString "__next__") ty F.slot_dict_keyiterator_next (Gh F.slot_dict_keyiterator_next ty F.entry_dict_keyiterator_next ?_ (F.args_dict_keyiterator_next_1 _))))
 refine E4 (E6 (E4 (E4 ?_)))
 first|refine E4 (G1 ty (E6 ?_))|refine E4 (wpAny_typeNameOf_keyiter ty (E6 ?_))
 refine E4 (wpAny_fieldsOf hit rfl ?_);have hown:Builtin.Dict_items.ownsTuple "dict_keyiterator" = false:=by decide
 simp only[hown,Fo,if_false];show wpAny _ _ (if (Value.ref a==Value.none)=true then _ else _) _ _ s
 rw[if_neg (show ¬ ((Value.ref a==Value.none)=true) from FC)]
 refine E4 (E6 (E4 (wpAny_dictEntries ho hd ?_)));rw[if_neg (by simp)]
 refine E4 (E6 (E4 (wpAny_dictEpoch ho hd ?_)));rw[if_neg (by simp)]
 refine E6 ?_;simp only[show ¬ ((es.size:Int)<0) from by lia,if_false,Int.toNat_natCast,Array.getElem?_eq_none (E7 es.size)]
 refine E4 ?_
 first|refine E4 (G1 ty (E6 ?_))|refine E4 (wpAny_typeNameOf_keyiter ty (E6 ?_))
 show wpAny _ _ (setField (.ref it) 0 .none >>= _) _ _ s
 refine E4 (GK (vs:=#[.ref a,.int es.size 0,.int es.size 0,.int ep 0]) hit (by simp) fun h1 hg1 hs1=>?_)
 show wpAny _ _ (newExc (.type "StopIteration") [] >>= _) _ _ _
 refine E4 ?_;simp only[newExc,newTuple];refine E4 (Gu ?_ (by size_fits))
 refine E4 (m:=firstArgMember _ _) (wpAny_of_eq (a:=Value.none) (by first|rfl|(simp only[firstArgMember];rfl)) ?_)
 refine Gu ?_ (by size_fits)
 simp only[raiseNew];refine E4 (wpAny_handled ?_);rw[show A.in1.handled=none from hh]
 refine E4 (E6 (wpAny_throw ?_));refine E4 (wpAny_isInstance (T:="StopIteration") (b:=true) ⟨_,Fv _ rfl,rfl⟩ isSubtype_stop ?_)
 exact E6 (h _ ((hs1.extBut.push _).push _))
end
noncomputable def iW (P:Program)(w:World)(o:Obj)(a:Addr)(xs:List bq):It:=
 ⟨fun i H=>H a=some (.frz o (DTB P w a xs))/\i<xs.length,fun i H x H'=>H'=H/\∃ e,xs[i]? =some e/\x=.ref e.2.1,fun i H=>H a=some (.frz o (DTB P w a xs))/\xs.length<=i⟩
theorem mY{xs:List bq}{vs:List (List L2.Key×Addr×Value)}(r:KTB xs vs):∀{i:Nat}{e:bq},xs[i]? =some e->∃ u,vs[i]? =some (e.1,e.2.1,u)/\RelV e.2.2 u:=by
 induction r with
 | nil=>intro i e h;simp at h
 | @cons p q ps qs h t ih=>
  intro i e hi;cases i with
  | zero=>
   simp at hi;subst hi;obtain⟨h1,h2,h3⟩:=h;exact⟨q.2.2,by rw[h1,h2];rfl,h3⟩
  | succ i=>exact ih (by simpa using hi)
theorem qr{xs:List bq}(x:HOk P w H h)(e:H a=some (.frz o (DTB P w a xs)))(hd:o.data=.dict es ep) :
  h.get? a=some o/\(a==sysModules)=false/\o.ExactDict/\∃ vs,KTB xs vs/\es.toList=vs.map (entryOfKey (tupleKind (dU P w))):=by
 obtain⟨ho,⟨vs,r,z,hs,o',es',ep',ho',ex,hd',h4,_⟩,_⟩:=(show au P w H h a (.frz o (DTB P w a xs)) from x a _ e)
 rw[ho]at ho';cases ho'
 rw[hd]at hd';cases hd'
 exact⟨ho,hs,ex,vs,r,h4⟩
theorem xV{K:PySem.W.Frag}(a it:Addr)(o:Obj)(xs:List bq)(hdat:o.data=.dict es ep) :
  Turn P w K tg (iW P w o a xs) [it] it (fun i h=>i<=xs.length/\h.get? it=some (eO a i xs.length ep)) where
 mem:=by simp
 obj:=fun i h st b hb=>by
  have e:b=it:=by simpa using hb
  subst e;exact⟨_,st.2,fun v z=>by
   have z':Data.fields _=Data.cell v:=z;cases z'⟩
 keep:=fun i h h' st k=>⟨st.1,k it (by simp) _ st.2⟩
 item:=by
  intro X hP hw hK hc i pins s σ H E I hf st hg;subst hP hw hK;obtain⟨hfr,hi⟩:=hg;obtain⟨_,hit⟩:=st;obtain⟨ho,hs,ex,vs,r,h4⟩:=qr I.hok hfr hdat;obtain⟨f0,f1,f2,f3,f4,f5⟩:=hf it (by simp)
  have hlen:es.size=xs.length:=by
   have:=congrArg List.length h4
   rw[E3,<-Paired.length r]at this;simpa using this
  obtain⟨e,he⟩:∃ e,xs[i]? =some e:=⟨_,Fg hi⟩;obtain⟨u,hu,_⟩:=mY r he;have hx:es[i]? =some (entryOfKey (tupleKind (dU X.prog X.w)) (e.1,e.2.1,u)):=by
   rw[<-FE,h4,E9,hu];rfl
  rw[<-hlen]at hit;refine tK ho hdat hit hx fun h' hsb hit'=>?_
  have I1:Inv X pins σ H { s with heap:=h' }:=I.turned (t':=s.toks) (fun b o hb e=>(hsb.2 b hb).trans e) f0 f1 f3 f4 f5
  refine⟨_,rfl,iZ (s:={ s with heap:=h' }) hit' rfl rfl (by decide) ⟨.ref e.2.1,H,I1,rfl,⟨rfl,e,he,rfl⟩,⟨hi,by rw[<-hlen];exact hit'⟩,fun b hb=>(hf b hb).1⟩⟩
 done:=by
  intro X hP hw hK hc i pins s σ H E I hf st hg;subst hP hw hK;obtain⟨hfr,hi⟩:=hg;obtain⟨hle,hit⟩:=st;obtain⟨ho,hs,ex,vs,r,h4⟩:=qr I.hok hfr hdat;obtain⟨f0,f1,f2,f3,f4,f5⟩:=hf it (by simp)
  have hlen:es.size=xs.length:=by
   have:=congrArg List.length h4
   rw[E3,<-Paired.length r]at this;simpa using this
  have ei:i=xs.length:=Nat.le_antisymm hle hi;subst ei;rw[<-hlen]at hit;exact rg (I.ok.hd hc) ho hdat hit fun h' eb=>⟨rfl,I.turned (t':=s.toks) (fun b o hb e=>eb b o hb e) f0 f1 f3 f4 f5⟩
 self:=fun A i s Q E st h=>by
  have hT:s.TypeIs (.ref it) "dict_keyiterator":=⟨_,st.2,rfl⟩
  refine wpAny_pyIter_slot hT PySem.F.slot_dict_keyiterator_iter (Gh PySem.F.slot_dict_keyiterator_iter hT PySem.F.entry_dict_keyiterator_iter ?_ (PySem.F.args_dict_keyiterator_iter_1 _));show wpAny _ _ (ret (.ref it)) _ _ s
  exact E6 ⟨_,rfl,"dict_keyiterator",_,hT,PySem.F.slot_dict_keyiterator_next.lookup,h⟩
section
variable {X:Cx}{pins:List (Addr×Obj)}{σ:L2.St}{H:Hp}{s:Shared}{a:Addr}
theorem Inv.ET{xs:List bq}(I:Inv X pins σ H s)(e:H a=some (DTB X.prog X.w a xs)):∃ o es ep,s.heap.get? a=some o/\(a==sysModules)=false/\o.ExactDict/\o.data=.dict es ep/\es.size=xs.length/\Inv X pins σ (upd H a (.frz o (DTB X.prog X.w a xs))) s:=by
 have ok:=(show au X.prog X.w H s.heap a (DTB X.prog X.w a xs) from I.hok a _ e)
 obtain⟨⟨vs,r,z,hs,o,es,ep,ho,ex,hd,h4,h5⟩,_⟩:=id ok;refine⟨o,es,ep,ho,hs,ex,hd,?_,SB.Inv.lM I e (fun _ z=>nomatch z) (fun _ z=>nomatch z) (fun _ z=>nomatch z) (fun o' v q=>?_) ⟨ho,jq r z hs ho ex hd h4 h5⟩⟩
 ·have:=congrArg List.length h4
  rw[E3,<-Paired.length r]at this;simpa using this
 ·have:=I.base.frzs a o' v q
  rw[e]at this;cases this
theorem Inv.Ca{xs:List bq}(I:Inv X pins σ H s)(e:H a=some (.frz o (DTB X.prog X.w a xs)))(h0:∀ o v,X.H₀ a≠some (.frz o v)):Inv X pins σ (upd H a (DTB X.prog X.w a xs)) s:=by
 obtain⟨_,⟨vs,r,z,hs,o,es,ep,ho,ex,hd,h4,h5⟩,_⟩:=(show au X.prog X.w H s.heap a (.frz o (DTB X.prog X.w a xs)) from I.hok a _ e)
 exact SB.Inv.lM I e (fun _ z=>nomatch z) (fun _ z=>nomatch z) (fun _ z=>nomatch z) (fun o' v q=>absurd q (h0 o' v)) (jq r z hs ho ex hd h4 h5)
end
section
variable {X:Cx}{tg l e:Expr}{tl te:TE}
noncomputable def uIK (X:Cx)(tl:TE):TI:=fun σ H R=>tl σ H fun x H1=>match x with
 | .ref a=>∃ xs,H1 a=some (DTB X.prog X.w a xs)/\∀ o,dz H1 a (.frz o (DTB X.prog X.w a xs)) (R (iW X.prog X.w o a xs))
 | _=>False
theorem qh(hl:PE X l tl):PI X tg l (uIK X tl):=by
 intro pins s σ H R I h;refine thn (hl pins s σ H _ I h) fun v s1 hZ=>?_
 obtain⟨x,H1,I1,r1,q1⟩:=hZ
 try dsimp only at q1
 split at q1
 ·rename_i a
  obtain⟨xs,hx,q⟩:=q1;cases r1
  obtain⟨o,es,ep,ho,hs,ex,hd,hlen,I2⟩:=SB.Inv.ET I1 hx;refine qy hs ho ex hd ⟨s1.heap.objs.size,[s1.heap.objs.size],_,_,_,rfl,I2.kept (t':=s1.toks) fun b o e=>E8 _ e,xV a _ o xs hd,⟨FG _,?_⟩,fun b hb=>?_,(q o).at⟩
  ·rw[<-hlen];exact Fv _ rfl
  ·have e:=Fb.mp hb;subst e;exact I2.fQ (E7 _) (I2.hok.fresh (E7 _))
 ·exact q1.elim
noncomputable def B6 (X:Cx)(t:TE):TE:=fun σ H Q=>t σ H fun v H'=>∃ a o xs,H' a=some (.frz o (DTB X.prog X.w a xs))/\(∀ o v,X.H₀ a≠some (.frz o v))/\dz H' a (DTB X.prog X.w a xs) (Q v)
theorem lV(h:PE X e te):PE X e (B6 X te):=by
 intro pins s σ H Q I hw;refine thn (h pins s σ H _ I hw) fun u s1 ⟨v,H',I',r,a,o,xs,e,n,q⟩=>⟨v,_,SB.Inv.Ca I' e n,r,q.at⟩
theorem zC{xs:List bq}(h:H a=some (.frz o (DTB P w a xs))):Wk (iW P w o a xs) H (xs.map fun e=>V.ref e.2.1) where
 go:=fun i H' ex hi=>⟨ex.up h,by simpa using hi⟩
 yld:=fun i H' x H2 ex hi y=>by
  obtain⟨rfl,e,he,rfl⟩:=y;exact⟨rfl,by rw[E9,he];rfl⟩
 stop:=fun H' ex=>⟨ex.up h,by rw[E3];exact E7 _⟩
end
theorem wY(hh:A.handled=none)(hne:a≠it)(hd:o.data=.dict es ep) :
  Walks prog w A it [it,a] [it] es.size (fun i v=>∃ e,es[i]? =some e/\v=e.key) (fun i h=>h.get? a=some o/\h.get? it=some (eO a i es.size ep)) where
 sub:=fun b hb=>by simp at hb;simp [hb]
 frame:=fun _ _ _ st hk=>⟨hk a (by simp) _ st.1,hk it (by simp) _ st.2⟩
 item:=fun i s Q E hi st hQ=>by
  have hx:es[i]? =some es[i]:=FO hi;refine tK st.1 hd st.2 hx fun h' hsb hit'=>?_
  exact hQ _ h' s.toks ⟨_,hx,rfl⟩ ⟨(hsb.2 a hne).trans st.1,hit'⟩ fun b o hb e=>(hsb.2 b (fun z=>hb (by simp [z]))).trans e
 done:=fun s Q E st hQ=>rg hh st.1 hd st.2 fun h' he=>hQ h' s.toks fun b o hb e=>he b o (fun z=>hb (by simp [z])) e
 self:=fun i s Q E st hQ=>by
  have hT:s.TypeIs (.ref it) "dict_keyiterator":=⟨_,st.2,rfl⟩
  refine wpAny_pyIter_slot hT PySem.F.slot_dict_keyiterator_iter (Gh PySem.F.slot_dict_keyiterator_iter hT PySem.F.entry_dict_keyiterator_iter ?_ (PySem.F.args_dict_keyiterator_iter_1 _));show wpAny _ _ (ret (.ref it)) _ _ s
  exact E6 ⟨_,rfl,"dict_keyiterator",_,hT,PySem.F.slot_dict_keyiterator_next.lookup,hQ⟩
theorem pP(hs:(a==sysModules)=false)(ex:o.ExactDict)(hd:o.data=.dict es ep) :
  PySem.W.KdlSrc prog w "dict" a a es.size (fun i v=>∃ e,es[i]? =some e/\v=e.key) (fun h=>h.get? a=some o) where
 type:=fun _ hm=>⟨o,hm,ex.1⟩
 there:=fun _ hm=>⟨Ft hm,Ft hm⟩
 keep:=fun _ _ hm hk=>hk a (.inl rfl) _ hm
 notList:=by decide
 notTuple:=by decide
 hint:=fun _ _ _ _ hm hq=>PySem.W.kdl_hint_dict ⟨o,hm,ex.1⟩ hq
 iter:=fun A s hh hm=>⟨eO a 0 es.size ep,_,fun E Q q=>qy hs hm ex hd q,wY hh (FD (Ft hm)) hd,E8 _ hm,Fv _ rfl⟩
theorem rE:∀{xs:List bq}{bs:List Value},bs.length=xs.length->(∀(i:Nat)(e:bq),xs[i]? =some e->bs[i]? =some (Value.ref e.2.1))->Vals (xs.map fun e=>V.ref e.2.1) bs
 | [],[],_,_=>.nil
 | [],_::_,h,_=>by simp at h
 | _::_,[],h,_=>by simp at h
 | e::r,b::bs,h,each=>by
  have e0:b=Value.ref e.2.1:=by simpa using each 0 e rfl
  subst e0;rw[Fi];exact .cons rfl (rE (by simpa using h) fun i e' he=>by simpa using each (i+1) e' (by simpa using he))
section
variable {X:Cx}
noncomputable def rQ (X:Cx):List V->Hp->VK->Prop:=fun xs H Q=>match xs with
 | [.ref a]=>∃ es,H a=some (DTB X.prog X.w a es)/\New H (.lst (es.map fun e=>V.ref e.2.1)) Q
 | _=>False
theorem D5(hc:X.calm=true):aH X (.type "list") (rQ X):=by
 intro pins s σ H xs us Q I r h;unfold rQ at h
 split at h
 ·rename_i a
  obtain⟨xs,hx,q⟩:=h;obtain⟨u,rfl,rx⟩:=vals1 r;cases rx
  obtain⟨⟨vs,rel,z,hs,o,es,ep,ho,ex,hd,h4,h5⟩,_⟩:=(show au X.prog X.w H s.heap a (DTB X.prog X.w a xs) from I.hok a _ hx)
  have hlen:es.size=xs.length:=by
   have:=congrArg List.length h4
   rw[E3,<-Paired.length rel]at this;simpa using this
  refine PySem.W.kdl_call (pP hs ex hd) (I.ok.hd hc) ho (by lia) fun h' tk acc c' kp hS hacc=>?_
  refine⟨.ref s.heap.objs.size,_,I.laid (t':=tk) kp (E7 _) (show au X.prog X.w _ h' _ (.lst (xs.map fun e=>V.ref e.2.1)) from⟨by rw[E3];lia,acc.toList,c',?_,by rw[Array.toArray_toList];exact hS⟩),rfl,q.at (I.hok.fresh (E7 _))⟩
  have each:∀(i:Nat) (e:bq),xs[i]? =some e->acc.toList[i]? =some (Value.ref e.2.1):=fun i e he=>by
   obtain⟨u,hu,_⟩:=mY rel he;have hi:i<acc.size:=by rw[hacc.1,hlen];exact(Fp.mp he).1
   obtain⟨e',he',hv⟩:=hacc.2 i acc[i] (FO hi);have hx2:es[i]? =some (entryOfKey (tupleKind (dU X.prog X.w)) (e.1,e.2.1,u)):=by
    rw[<-FE,h4,E9,hu];rfl
   rw[hx2]at he';cases he'
   rw[FE,FO hi,hv];rfl
  have hl2:acc.toList.length=xs.length:=by rw[Fx,hacc.1,hlen]
  exact rE hl2 each
 ·exact h.elim
end
section
variable {X:Cx}{a b c:Expr}{ta tb tc:TE}{rest:List Expr}{pos:Pos}
theorem B8(ha:PE X a ta)(hb:PE X (.BoolOp .Or (b::rest) pos) tb):PE X (.BoolOp .Or (a::b::rest) pos) (AV ta tb):=by
 intro pins s σ H Q I h;refine BoolOp_or (thn (ha pins s σ H _ I h) fun v s1 hZ=>?_)
 obtain⟨x,H1,I1,r1,q1⟩:=hZ
 try dsimp only at q1
 split at q1
 ·rename_i c
  cases r1
  refine Gw ?_;cases c with
  | true=>exact⟨.bl true,H1,I1,rfl,q1⟩
  | false=>exact hb pins s1 σ H1 Q I1 q1
 ·exact q1.elim
structure Ez (c:TT)(tb:TS)(D:Ends)(σ:L2.St)(H:Hp):Prop where
 run:∃ W:Nat->L2.St->Hp->Prop,(∃ m,W m σ H)/\∀ m σ H,W m σ H →
  c σ H fun b H1=>if b=true then ∃ N:L2.St->Hp->Prop,(∀ σ' H',N σ' H'->∃ m',m'<m/\W m' σ' H')/\tb { D with nx:=N,ct:=N,bk:=D.nx } σ H1 else D.nx σ H1
theorem pz{tt:TT}{tbs:TS}(hp:PassesOwn (model X.prog X.w) X.A X.env X.xe)(hc:PT X c tt)(hb:PSs X body tbs):PS X (.While c body [] pos) (Ez tt tbs):=
 PS.weak (Ei hp hc hb) fun D σ H h=>h.run
end
structure Enc (α:Type) where
 enc:α->List V
 flat:∀ a,(enc a).all bP=true
 alike:∀ a b,bx ((enc a).map Dt.sc) ((enc b).map Dt.sc)
 inj:∀ a b,enc a=enc b->a=b
variable {α:Type}
noncomputable def Enc.d (E:Enc α)(a:α):Dt:=.tup ((E.enc a).map Dt.sc)
noncomputable def Enc.ds (E:Enc α)(l:List α):Dt:=.lst (l.map E.d)
theorem Enc.AM(E:Enc α){a b:α}(h:E.d a=E.d b):a=b:=E.inj a b (mT (gr.mp h))
noncomputable def rfs (ps:List (α×Addr)):List V:=ps.map fun p=>V.ref p.2
noncomputable def Enc.At (E:Enc α)(H:Hp)(ps:List (α×Addr)):Prop:=∀ p∈ps,H p.2=some (.tup (E.enc p.1))
theorem Enc.At.ext{E:Enc α}{ps:List (α×Addr)}(t:E.At H ps)(e:Ext H H'):E.At H' ps:=fun p hp=>e.up (t p hp)
theorem Enc.is(E:Enc α){K:PySem.W.Frag}{x:Addr}{a:α}(h:H x=some (.tup (E.enc a))):Is K H (E.d a) (.ref x):=by
 unfold Enc.d Is;exact⟨x,_,rfl,RdT.sq (.inl h),jH (E.flat a)⟩
theorem Enc.yD(E:Enc α)(a:α):dep (E.d a)=1:=by unfold Enc.d dep;rw[jP]
theorem Enc.bT(E:Enc α):∀ a:List α,SB.bT (a.map E.d)<=1
 | []=>by rw[GN];unfold SB.bT;lia
 | x::r=>by
  rw[Fi];unfold SB.bT;rw[E.yD]
  have:=E.bT r
  lia
theorem Enc.any(E:Enc α) [DecidableEq α] (m:α):∀ l:List α,(l.map E.d).any (fun e=>eqD e (E.d m))=decide (m∈l)
 | []=>rfl
 | x::r=>by
  rw[Fi,GU,E.any m r];apply FU.mpr;rw[Bool.or_eq_true,dB,decide_eq_true_eq,decide_eq_true_eq,Fn];exact⟨fun h=>h.elim (fun z=>.inl (E.AM z).symm) .inr,fun h=>h.elim (fun z=>.inl (by rw[z])) .inr⟩
section
variable {X:Cx}{a b:Expr}{ta tb:TE}{rest:List Expr}{pos:Pos}
noncomputable def wj (ta tb:TE):TE:=fun σ H Q=>ta σ H fun x H1=>match x with
 | .bl c=>∃ d,(c=false->tb σ H1 fun y H2=>y=.bl d/\H2=H1)/\Q (.bl (c||d)) H1
 | _=>False
theorem CB(ha:PE X a ta)(hb:PE X (.BoolOp .Or (b::rest) pos) tb):PE X (.BoolOp .Or (a::b::rest) pos) (wj ta tb):=
 PE.weak (B8 (PE.cl ha) (PE.cl hb)) fun σ H Q h=>⟨_,h,fun x H1 q=>by
  split at q
  ·rename_i c
   obtain⟨d,h1,h2⟩:=q;cases c with
   | true=>exact h2
   | false=>exact⟨_,h1 rfl,fun y H2 z=>by
     obtain⟨rfl,rfl⟩:=z;exact h2⟩
  ·exact q.elim⟩
end
end SB
end
section
set_option maxHeartbeats 4000000
namespace K
open PySem PySem.Spec PyProof.Rows L2 SB
noncomputable abbrev fL:Stmt:=top 35
structure dv (H:Hp)(q s m g f:Addr)(n:Int)(st:List Int)(ms:List (Mv×Addr))(sg:List (Str×Str))(fl:List Str):Prop where
 q:H q=some (.lst [.int n,.ref s,.ref m,.ref g,.ref f])
 s:H s=some (.lst (st.map V.int))
 m:H m=some (.lst (refs ms))
 t:cE H ms
 g:H g=some (.dK (sgV sg))
 f:H f=some (.lst (fl.map V.str))
theorem dv.ext{q s m g:Addr}{st:List Int}{ms:List (Mv×Addr)}{sg:List (Str×Str)}(a:dv H q s m g f n st ms sg fl)(e:Ext H H'):dv H' q s m g f n st ms sg fl:=
 ⟨e.up a.q,e.up a.s,e.up a.m,fun y hy=>e.up (a.t y hy),e.up a.g,e.up a.f⟩
theorem fS{α:Type}(g:α->V)(xs:List α)(lo hi:Option Int):cN (xs.map g) lo hi=((xs.drop (HT.sIx xs.length 0 lo)).take (HT.sIx xs.length xs.length hi-HT.sIx xs.length 0 lo)).map g:=by
 unfold cN;rw[E3,List.map_take,List.map_drop]
theorem my{α:Type}(g:α->V)(xs:List α)(lo hi:Option Int):∃ cs:List α,cN (xs.map g) lo hi=cs.map g/\(∀ c∈cs,c∈xs)/\cs.length<=xs.length:=by
 rw[fS];refine⟨_,rfl,fun c hc=>List.mem_of_mem_drop (List.mem_of_mem_take hc),?_⟩
 rw[F3,GJ];lia
theorem iz{α:Type}{xs:List α}{i:Int}(h0:0<=i)(h1:i<xs.length):∃ v,atI xs i=some v/\v∈xs:=by
 obtain⟨j,rfl⟩:∃ j:Nat,i=j:=⟨i.toNat,by lia⟩
 have hj:j<xs.length:=by lia
 exact⟨xs[j],gJ (Fg hj),List.getElem_mem hj⟩
noncomputable def gZ (sg:List (Str×Str))(k v:Str):List (Str×Str):=if (sg.any fun p=>decide (p.1=k))=true then sg.map (fun p=>if p.1=k then(p.1,v) else p) else sg++[(k,v)]
theorem C6(sg:List (Str×Str))(k v:Str):putK (sgV sg) (Sum.inr k) (V.str v)=sgV (gZ sg k v):=by
 unfold putK gZ sgV;have e:((sg.map fun p=>((Sum.inr p.1:L2.Key),V.str p.2)).any fun kv=>decide (kv.1=Sum.inr k))=(sg.any fun p=>decide (p.1=k)):=by
  rw[List.any_map];congr 1;funext p;apply FU.mpr
  simp
 rw[e]
 split
 ·rw[Fm,Fm];refine G2 fun p hp=>?_
  simp only[Function.comp]
  by_cases q:p.1=k
  ·simp [q]
  ·simp [q]
 ·rw[Fc];rfl
theorem yU(sg:List (Str×Str))(k v:Str):(gZ sg k v).length<=sg.length+1:=by
 unfold gZ
 split
 ·rw[E3];lia
 ·simp
theorem zo{sg:List (Str×Str)}{k v:Str}(h:∀ p∈sg,isW p.1=true/\isW p.2=true)(hk:isW k=true)(hv:isW v=true):∀ p∈gZ sg k v,isW p.1=true/\isW p.2=true:=by
 unfold gZ
 split
 ·intro p hp;obtain⟨q,hq,rfl⟩:=E5.mp hp
  split
  ·exact⟨(h q hq).1,hv⟩
  ·exact h q hq
 ·intro p hp;rcases Fs.mp hp with hp|hp
  ·exact h p hp
  ·rw[Fb]at hp;subst hp;exact⟨hk,hv⟩
theorem nxi{v:V}{Q:L2.St->Hp->Prop}(h:Q (σ.set i (some v)) H):bG i v σ H Q:=h
theorem Ef{f b c:L2.St->Hp->Prop}{r:VK}(h:f σ H):(Ends.mk f r b c).nx σ H:=h
theorem Ct{a b:TS}(R:L2.St->Hp->Prop)(h1:∀ σ J,R σ J->b D σ J)(h2:∀ N:L2.St->Hp->Prop,(∀ σ J,R σ J->N σ J)->a { D with nx:=N } σ H):mI a b D σ H:=h2 (b D) h1
theorem i7:OpR X (binaryOp .LShift) (uI pE fun i j=>.int (i*2^j.toNat)):=OpR.weak Bj jZ
theorem iS{e:Int}(h0:0<=e)(h:e<=10):0<(1:Int)*2^e.toNat/\(1:Int)*2^e.toNat<1073741824:=by
 have:∀ m:Fin 11,0<(1:Int)*2^m.val/\(1:Int)*2^m.val<1073741824:=by decide
 exact this ⟨e.toNat,by lia⟩
theorem iV{e:Int}(h0:0<=e)(h:e<=10):pE 1 e:=⟨h0,by lia,by decide⟩
theorem k7{α:Type}{c:α->Bool}{g:α->Int}:∀ l:List α,(l.filterMap fun j=>if c j=true then some (V.int (g j)) else none)=((l.filter c).map g).map V.int
 | []=>rfl
 | a::r=>by
  cases e:c a with
  | true=>rw[List.filterMap_cons_some (b:=V.int (g a)) (by rw[e];rfl),List.filter_cons_of_pos e,k7 r];rfl
  | false=>rw[List.filterMap_cons_none (by rw[e];rfl),List.filter_cons_of_neg (by rw[e];decide),k7 r]
theorem oS{α:Type}{c:α->Bool}{g:α->Str}:∀ l:List α,(l.filterMap fun j=>if c j=true then some (V.str (g j)) else none)=((l.filter c).map g).map V.str
 | []=>rfl
 | a::r=>by
  cases e:c a with
  | true=>rw[List.filterMap_cons_some (b:=V.str (g a)) (by rw[e];rfl),List.filter_cons_of_pos e,oS r];rfl
  | false=>rw[List.filterMap_cons_none (by rw[e];rfl),List.filter_cons_of_neg (by rw[e];decide),oS r]
section
variable {P:Program}{w:World}{K:PySem.W.Frag}{mg:Str->Option Value}{base:Heap}
noncomputable def oG:Sp:=fun vs H Q _=>∃(a:Addr)(most:Nat)(ns:List Int),vs=[.ref a,.int most]/\RdL H a (ns.map V.int)/\ns.length<=63/\most<=24 ∧
 ∀(p:Addr) (H':Hp) (n:Int) (s m g f:Addr) (st:List Int) (ps:List (Mv×Addr)) (sg:List (Str×Str)) (fl:List Str),dv H' p s m g f n st ps sg fl->nJ n st ps sg fl->ps.length<=most->st.length<=9->fl.length<=5->sg.length<=5->Ext H H'->Q (.ref p) H'
noncomputable abbrev nMc:List Str:=["_law_script","_law_most","_law_cell_here","_law_size","_law_deeds","_law_signs_here","_law_starts","_law_shown","_law_k","_law_faults","_law_moves","_law_steps","_law_step"]
theorem yS:aJ nMc ["_law_script","_law_most"] (ah fL):=⟨rfl,rfl,rfl,by decide +kernel,rfl,by decide +kernel,by decide +kernel⟩
theorem xQ(F:Fun K "_law_machine" "_law_machine" fL f fd) (T:di K mg) (TN:mF mg) (D1:Known P w K mg base 1 "_law_cell" ["_law_script","_law_k"] lj) (D2:Known P w K mg base 1 "_law_words" ["_law_cell_here","_law_many"] oJ):ao P w K mg base CX0 2 f fd ["_law_script","_law_most"] oG:=by
 refine F.ok yS (fun vs H Q E h=>?_) (fun cdv A outer s H vs Q E hr1 h=>?_)
 ·obtain⟨a,most,ns,rfl,_⟩:=h;rfl
 ·obtain⟨a,most,ns,rfl,ha,h63,hm,k⟩:=h;have hu:=hr1.units;refine⟨_,(af (av nMc 2 (aw D1 hr1 (aa (q_v 0) (aa ae ab))))
   (af (av nMc 3 (aq bD (bw (aa (ak bU ae (ak bM (q_v 2) ae)) (aa ae ab))) (q_t oB TN.int (aa (dD cP (ak bM (ak cG (q_v 2) ae) ae) ae) ab)) (fun _ _=>rfl)))
   (af (av nMc 4 (aw D2 hr1 (aa (aw D1 hr1 (aa (q_v 0) (aa ae ab))) (aa (ak bU ae (ak bM (ak cG (q_v 2) ae) ae)) ab))))
   (af (av nMc 5 (aw D2 hr1 (aa (aw D1 hr1 (aa (q_v 0) (aa ae ab))) (aa (ak bU ae (ak bM (ak cG (q_v 2) ae) ae)) ab))))
   (af (jK nMc 6 (ah fL) ["_law_room","_law_script"] [none,some 0] rfl (fj (q_v 3) T.range) (fun _ _ _ _=>q_g ["_law_room","_law_script"] 0) (fun _ _ _ _=>aG cP (ak bM (ak cG (aw D1 hr1 (aa (q_v 1) (aa ae ab))) (ak i7 ae (q_v 0))) ae) ae) (fun _ _ _ _=>q_v 0))
   (af (av nMc 7 nN)
   (af (bC PassesOwn.never rfl (fj (q_b cI T.len (aa (q_v 4) ab)) T.range) (q_g nMc 8) (ag (bf (aG jR (ak bM (ak cG (aw D1 hr1 (aa (q_v 0) (aa ae ab))) (ak i7 ae (ak ff ae (q_v 8)))) ae) ae) (ag (lP hu (q_v 7) (aq bD (q_v 4) (q_v 8) (fun _ _=>rfl)) (aq bD (q_v 5) (ak bM (ak bM (ak cG (aw D1 hr1 (aa (q_v 0) (aa ae ab))) (ak i7 ae (ak ff ae (q_v 8)))) ae) (q_b cI T.len (aa (q_v 5) ab))) (fun _ _=>rfl)))) bj)))
   (af (jK nMc 9 (ah fL) ["_law_k","_law_deeds","_law_script"] [none,some 4,some 0] rfl (fj (q_b cI T.len (aa (q_v 4) ab)) T.range) (fun _ _ _ _=>q_g ["_law_k","_law_deeds","_law_script"] 0) (fun _ _ _ _=>aG cP (ak bM (ak cG (aw D1 hr1 (aa (q_v 2) (aa ae ab))) (ak i7 ae (q_v 0))) ae) ae) (fun _ _ _ _=>(aq bD (q_v 1) (q_v 0) (fun _ _=>rfl))))
   (af (av nMc 10 (bw ab))
   (af (av nMc 11 (fh fk (q_v 0) (df ae) (df (ak bU ae (q_v 1)))))
   (af (bf (aG cP (ak bM (ak cG (q_v 2) ae) ae) ae) (ag (av nMc 11 (fh fk (ak bU (q_v 11) (eW nMc (ah fL) ["_law_k","_law_cell_here"] [none,some 2] rfl (fj (q_v 1) T.range) (fun _ _ _ _=>q_g ["_law_k","_law_cell_here"] 0) (fun _ _ _ _=>(ak bU (ak ff (ak cG (q_v 1) ae) (ak bU (q_v 0) ae)) (ak ff ae (q_v 0)))))) iI (df (q_v 1))))) bj)
   (af (bC PassesOwn.never rfl (bg (q_v 11)) (q_g nMc 12) (ag (bQ (eZ (q_v 10) (cM (aa (ak bM (q_v 12) (q_v 3)) (aa (aq bD (q_v 4) (ak bM (ak cG (q_v 12) ae) (q_b cI T.len (aa (q_v 4) ab))) (fun _ _=>rfl)) (aa (ak bM (ak cG (q_v 12) ae) (q_v 3)) ab))))))))
   (ag (aD (bw (aa (q_v 3) (aa (ak bU (q_v 6) (fh fk (bw (aa ae ab)) iI (df (q_t oB TN.int (aa (o7 (dD (gA hu) (q_v 6) (bw ab)) (kg (dD jR (ak bM (aw D1 hr1 (aa (q_v 0) (aa ae ab))) ae) ae))) ab))))) (aa (q_v 10) (aa (q_v 7) (aa (q_v 9) ab)))))))))))))))))))),?_⟩
  have z1:∀{n:Nat},n<=1000->n<=sizeLine:=fun h=>by rw[Fz];lia
  have z0:∀{n:Nat},n<=1000->n<sizeLine:=fun h=>by rw[Fz];lia
  refine⟨a,ns,0,rfl,ha,by decide,?_⟩
  refine⟨by show(0:Int)<5;decide,z1 (by show 2<=1000;decide),fun l1 H1 hl1 h1 e1=>⟨⟨by decide,by decide⟩,by show(0:Int)<8;decide,rfl,_,.inl h1,?_⟩⟩
  have hb:=ri (decide (V.int (ay ns 0 / 5%8)=V.int 7));obtain⟨v,hv,hvm⟩:=iz (xs:=[V.int (1+ay ns 0%5),.int 8]) (i:=b2n (decide (V.int (ay ns 0 / 5%8)=V.int 7))) hb.1 (by show _<(2:Int);lia)
  obtain⟨n,rfl,hn⟩:∃ n:Int,v=.int n/\1<=n/\n<=8:=by
   have h5:0<=ay ns 0%5/\ay ns 0%5<5:=⟨Gq _ (by decide),Ge _ (by decide)⟩
   simp only[Fn,List.not_mem_nil,or_false]at hvm;rcases hvm with rfl|rfl
   ·exact⟨_,rfl,by lia,by lia⟩
   ·exact⟨_,rfl,by decide,by decide⟩
  refine⟨_,hv,?_⟩;have q5:0<=ay ns 0 / 40%5/\ay ns 0 / 40%5<5:=⟨Gq _ (by decide),Ge _ (by decide)⟩
  obtain⟨kd,hkd⟩:∃ k:Nat,1+ay ns 0 / 40%5=(k:Int):=⟨(1+ay ns 0 / 40%5).toNat,by lia⟩
  refine⟨a,ns,1,rfl,(e1.rd ha),by decide,⟨by decide,by decide⟩,by show(0:Int)<5;decide,ay ns 1,kd,(by show [V.int _,V.int (1+ay ns 0 / 40%5)]=_;rw[hkd]),by lia,fun ds gd p2 H2 hp2 h2 e2=>?_⟩
  have q3:0<=ay ns 0 / 200%3/\ay ns 0 / 200%3<3:=⟨Gq _ (by decide),Ge _ (by decide)⟩
  obtain⟨ks,hks⟩:∃ k:Nat,1+ay ns 0 / 200%3=(k:Int):=⟨(1+ay ns 0 / 200%3).toNat,by lia⟩
  refine⟨a,ns,2,rfl,(e2.rd (e1.rd ha)),by decide,⟨by decide,by decide⟩,by show(0:Int)<3;decide,ay ns 2,ks,(by show [V.int _,V.int (1+ay ns 0 / 200%3)]=_;rw[hks]),by lia,fun zs gz p3 H3 hp3 h3 e3=>?_⟩
  have x3:Ext H H3:=e1.trans (e2.trans e3);have d3:H3 p2=some (.lst (ds.map V.str)):=e3.up h2;obtain⟨ld,wd⟩:=gd;obtain⟨lz,wz⟩:=gz;have kd5:1<=kd/\kd<=5:=by lia
  have ks3:1<=ks/\ks<=3:=by lia
  refine⟨⟨by lia,by lia⟩,?_⟩
  refine eE (zs:=List.range n.toNat) (fun j=>if decide (V.int (ay ns 3 / (1*2^(0+(j:Int)).toNat)%2)=V.int 1)=true then some (.int (0+(j:Int))) else none) (jn 0 _) (z0 (by rw[F2];lia)) ?_ ?_
  ·intro i j H6 Kk hj ex kk;have hj8:j<n.toNat:=FT.mp (Fe hj);refine⟨bY rfl,a,ns,3,rfl,(ex.rd (x3.rd ha)),by decide,iV (by lia) (by lia),iS (by lia) (by lia),by show(0:Int)<2;decide,rfl,?_⟩
   have:=kk H6 Ext.refl
   refine aV (fun h=>?_) (fun h=>?_)
   ·have h':decide (V.int (ay ns 3 / (1*2^(0+(j:Int)).toNat)%2)=V.int 1)=true:=h;rw[if_pos h']at this;exact this
   ·have h':¬ decide (V.int (ay ns 3 / (1*2^(0+(j:Int)).toNat)%2)=V.int 1)=true:=h;rw[if_neg h']at this;exact this
  intro s4 H4 hs4 h4 e4;rw[k7 (α:=Nat) (c:=fun j=>decide (V.int (ay ns 3 / (1*2^(0+(j:Int)).toNat)%2)=V.int 1)) (g:=fun j=>0+(j:Int))]at h4
  obtain⟨st,est,hst,lst⟩:∃ st:List Int,((List.range n.toNat).filter fun(j:Nat)=>decide (V.int (ay ns 3 / (1*2^(0+(j:Int)).toNat)%2)=V.int 1)).map (fun(j:Nat)=>0+(j:Int))=st/\(∀ r∈st,0<=r/\r<n)/\st.length<=8:=by
   refine⟨_,rfl,fun r hr=>?_,?_⟩
   ·obtain⟨j,hj,rfl⟩:=E5.mp hr
    have:=FT.mp (FH.mp hj).1
    lia
   ·rw[E3];refine FL (List.length_filter_le _ _) ?_;rw[F2];lia
  rw[est]at h4;have x4:Ext H H4:=x3.trans e4;have d4:=e4.up d3;have z4:=e4.up h3;intro g H5 hg h5 e5;show bG 7 (.ref g) [some (.ref a),some (.int most),some (.int (ay ns 0)),some (.int n),some (.ref p2),some (.ref p3),some (.ref s4),none,none,none,none,none,none] H5 _
  refine⟨_,.inl (e5.up d4),⟨by rw[E3];lia,by rw[E3];lia⟩,jr (fun i σ J=>∃(sg:List (Str×Str)) (v8:Option V),σ=[some (.ref a),some (.int most),some (.int (ay ns 0)),some (.int n),some (.ref p2),some (.ref p3),some (.ref s4),some (.ref g),v8,none,none,none,none]/\J g=some (.dK (sgV sg))/\(∀ p∈sg,isW p.1=true/\isW p.2=true)/\sg.length<=i/\Ext H4 J)
   ⟨[],none,rfl,h5,(fun p hp=>nomatch hp),E7 _,e5⟩ ?_ ?_⟩
  ·rintro i σ J hi ⟨sg,v8,rfl,jg,wg,lg,xj⟩;have hi:i<ds.length:=by
    have:i<((ds.map V.str).length:Int).toNat:=hi
    rw[E3]at this;lia
   have rd:RdL J a (ns.map V.int):=(xj.rd (x4.rd ha));refine⟨a,ns,4,rfl,rd,by decide,.inl ⟨by decide,by decide⟩,iV (by lia) (by lia),iS (by lia) (by lia),by show(0:Int)<4;decide,aV (fun _=>?_) (fun _=>?_)⟩
   ·obtain⟨y,hy,hym⟩:=iz (xs:=zs.map V.str) (i:=ay ns 4 / (1*2^(2*(0+(i:Int))).toNat)%4%((zs.map V.str).length:Int)) (Gq _ (by rw[E3];lia)) (Ge _ (by rw[E3];lia))
    obtain⟨y,hz,rfl⟩:=E5.mp hym;refine⟨a,ns,4,rfl,rd,by decide,.inl ⟨by decide,by decide⟩,iV (by lia) (by lia),iS (by lia) (by lia),by show(0:Int)<4;decide,_,.inl (xj.up z4),by show(0:Int)<((zs.map V.str).length:Int);rw[E3];lia,_,.inl (xj.up z4),_,hy,?_⟩
    have hx:(ds.map V.str)[i]? =some (.str (ds[i])):=by rw[E9,Fg hi];rfl
    refine⟨_,.inl (xj.up d4),.str (ds[i]),by rw[show(0+(i:Int))=(i:Int) by lia];exact gJ hx,_,jg,?_,_,rfl,fun J' j' b'=>?_⟩
    ·show(sgV sg).length<sizeLine
     unfold sgV;rw[E3];exact z0 (by lia)
    rw[C6]at j';refine⟨_,_,rfl,j',zo wg (wd _ (List.getElem_mem hi)) (wz _ hz),by have:=yU sg ds[i] y;lia,fun x u hu=>b'.up (aA hu hg) (xj.up hu)⟩
   ·exact⟨sg,_,rfl,jg,wg,by lia,xj⟩
  rintro σ J ⟨sg,v8,rfl,jg,wg,lg,xj⟩;have lg:sg.length<=5:=by
   have:sg.length<=((ds.map V.str).length:Int).toNat:=lg
   rw[E3]at this;lia
  have xH:Ext H J:=x4.trans xj;have dJ:=xj.up d4;have sJ:=xj.up h4;refine⟨_,.inl dJ,⟨by rw[E3];lia,by rw[E3];lia⟩,?_⟩
  refine eE (zs:=List.range ((ds.map V.str).length:Int).toNat) (fun j=>if decide (V.int (ay ns 5 / (1*2^(0+(j:Int)).toNat)%3)=V.int 0)=true then some (.str (ds.getD j "")) else none) (jn 0 _) (z0 (by rw[F2,E3];lia)) ?_ ?_
  ·intro i j H6 Kk hj ex kk;have hj5:j<ds.length:=by
    have:=FT.mp (Fe hj)
    rw[E3]at this;lia
   refine⟨bY rfl,a,ns,5,rfl,(ex.rd (xH.rd ha)),by decide,iV (by lia) (by lia),iS (by lia) (by lia),by show(0:Int)<3;decide,rfl,?_⟩
   have:=kk H6 Ext.refl
   refine aV (fun h=>?_) (fun h=>?_)
   ·have h':decide (V.int (ay ns 5 / (1*2^(0+(j:Int)).toNat)%3)=V.int 0)=true:=h;rw[if_pos h']at this;refine⟨_,.inl (ex.up dJ),_,?_,this⟩;rw[show(0+(j:Int))=(j:Int) by lia]
    refine gJ ?_;rw[E9,Fg hj5,Gp,Fg hj5];rfl
   ·have h':¬ decide (V.int (ay ns 5 / (1*2^(0+(j:Int)).toNat)%3)=V.int 0)=true:=h;rw[if_neg h']at this;exact this
  intro f6 H6 hf6 h6 e6;rw[oS (α:=Nat) (c:=fun j=>decide (V.int (ay ns 5 / (1*2^(0+(j:Int)).toNat)%3)=V.int 0)) (g:=fun j=>ds.getD j "")]at h6
  obtain⟨fl,efl,hfl,lfl⟩:∃ fl:List Str,((List.range ((ds.map V.str).length:Int).toNat).filter fun(j:Nat)=>decide (V.int (ay ns 5 / (1*2^(0+(j:Int)).toNat)%3)=V.int 0)).map (fun j=>ds.getD j "")=fl/\(∀ z∈fl,isW z=true)/\fl.length<=5:=by
   refine⟨_,rfl,fun z hz=>?_,?_⟩
   ·obtain⟨j,hj,rfl⟩:=E5.mp hz
    have:=FT.mp (FH.mp hj).1
    rw[E3]at this;have hj5:j<ds.length:=by lia
    rw[Gp,Fg hj5];exact wd _ (List.getElem_mem hj5)
   ·rw[E3];refine FL (List.length_filter_le _ _) ?_;rw[F2,E3];lia
  rw[efl]at h6;refine⟨z1 (by show 0<=1000;decide),fun m7 H7 hm7 h7 e7=>?_⟩
  show bG 10 (.ref m7) [some (.ref a),some (.int most),some (.int (ay ns 0)),some (.int n),some (.ref p2),some (.ref p3),some (.ref s4),some (.ref g),v8,some (.ref f6),none,none,none] H7 _
  have x7:Ext J H7:=e6.trans e7;refine⟨_,(x7.rd (xH.rd ha)),fun l8 H8 hl8 h8 e8=>?_⟩
  show bG 11 (.ref l8) [some (.ref a),some (.int most),some (.int (ay ns 0)),some (.int n),some (.ref p2),some (.ref p3),some (.ref s4),some (.ref g),v8,some (.ref f6),some (.ref m7),none,none] H8 _
  refine nxi ?_;show Ends.nx (Ends.mk _ _ _ _) _ _
  refine Ef ?_;obtain⟨c8,ec8,lc8⟩:∃ cs:List Int,cN (ns.map V.int) (some 6) (some (6+(most:Int)))=cs.map V.int/\cs.length<=most:=by
   rw[fS];refine⟨_,rfl,?_⟩;rw[show(6:Int)=((6:Nat):Int) from rfl,show((6:Nat):Int)+(most:Int)=((6+most:Nat):Int) by lia,HT.ft,HT.ft,F3,GJ]
   refine FL (Nat.min_le_left _ _) (Nat.sub_le_of_le_add ?_);rcases Nat.le_total 6 ns.length with h|h
   ·rw[Nat.min_eq_left h,Nat.add_comm most];exact Nat.min_le_left _ _
   ·rw[Nat.min_eq_right h];exact FL (Nat.min_le_right _ _) (Nat.le_add_left _ _)
  have h8:H8 l8=some (.lst (c8.map V.int)):=by rw[<-ec8];exact h8
  refine Ct (fun σ J'=>∃(l:Addr) (cs:List Int),σ=[some (.ref a),some (.int most),some (.int (ay ns 0)),some (.int n),some (.ref p2),some (.ref p3),some (.ref s4),some (.ref g),v8,some (.ref f6),some (.ref m7),some (.ref l),none]/\J' l=some (.lst (cs.map V.int))/\cs.length<=most/\Ext H8 J'/\l≠m7) ?_ ?_
  rotate_left
  ·intro N hN;refine⟨⟨by decide,by decide⟩,by show(0:Int)<2;decide,rfl,aV (fun _=>?_) (fun _=>?_)⟩
   ·refine⟨⟨by lia,by lia⟩,?_⟩
    refine gx (zs:=List.range (most:Int).toNat) (fun j=>.int (ay ns 0 / 7*(0+(j:Int)+3)+31*(0+(j:Int)))) (jn 0 _) (z0 (by rw[F2];lia)) ?_ ?_
    ·intro i j H9 Kk hj ex kk;have hj':j<most:=by have:=FT.mp (Fe hj);lia
     exact⟨bY rfl,⟨by decide,by decide⟩,.inr ⟨by lia,by lia⟩,.inl ⟨by decide,by decide⟩,kk H9 Ext.refl⟩
    intro l9 H9 hl9 h9 e9;refine⟨_,e9.up h8,_,h9,z1 (by rw[E3,E3,F2];lia),fun l10 H10 hl10 h10 e10=>⟨_,.inl h10,fun l11 H11 hl11 h11 e11=>hN _ _ ⟨l11,?_⟩⟩⟩
    have h10':H10 l10=some (.lst ((c8++(List.range (most:Int).toNat).map fun(j:Nat)=>ay ns 0 / 7*(0+(j:Int)+3)+31*(0+(j:Int))).map V.int)):=by
     rw[h10,Fc,Fm];rfl
    generalize hall:(c8++(List.range (most:Int).toNat).map fun(j:Nat)=>ay ns 0 / 7*(0+(j:Int)+3)+31*(0+(j:Int)))=all at h10'
    have e12:c8.map V.int++(List.range (most:Int).toNat).map (fun(j:Nat)=>V.int (ay ns 0 / 7*(0+(j:Int)+3)+31*(0+(j:Int))))=all.map V.int:=by
     rw[<-hall,Fc,Fm];rfl
    have h11:H11 l11=some (.lst (cN (all.map V.int) none (some (most:Int)))):=by rw[<-e12];exact h11
    rw[fS]at h11;refine⟨_,rfl,h11,?_,e9.trans (e10.trans e11),(aA ((e8.trans (e9.trans e10)).up h7) hl11).symm⟩;rw[HT.ft,HT.mX,F3];lia
   ·exact hN _ _ ⟨l8,c8,rfl,h8,lc8,Ext.refl,(aA h7 hl8).symm⟩
  rintro σ J8 ⟨l,cs,rfl,hl,lcs,x8,nlm⟩;have y8:Ext H7 J8:=e8.trans x8;have m8:=y8.up h7;have d8:=(x7.trans y8).up dJ;have nm:∀{x:Addr} {u:HO},H6 x=some u->x≠m7:=fun hx=>aA hx hm7
  refine⟨_,.inl hl,bZ (xs:=cs.map V.int) (fun i σ J9=>∃(ps:List (Mv×Addr)) (v12:Option V),σ=[some (.ref a),some (.int most),some (.int (ay ns 0)),some (.int n),some (.ref p2),some (.ref p3),some (.ref s4),some (.ref g),v8,some (.ref f6),some (.ref m7),some (.ref l),v12]/\J9 m7=some (.lst (refs ps))/\cE J9 ps/\(∀ p∈ps,bz n p.1)/\ps.length=i/\(∀ x u,x≠m7->J8 x=some u->J9 x=some u))
   ⟨[],none,rfl,m8,(fun p hp=>nomatch hp),(fun p hp=>nomatch hp),rfl,fun x u _ hu=>hu⟩ (fun i σ J9 _ ⟨_,_,_,_,_,_,_,fr⟩=>.inl (fr l _ nlm hl)) ?_ ?_⟩
  ·rintro i x σ J9 hx ⟨ps,v12,rfl,jm,tp,gp,lp,fr⟩;have hi:i<cs.length:=by have:=(Fp.mp hx).1;rw[E3]at this;exact this
   rw[E9,Fl]at hx;obtain⟨z,hz,rfl⟩:=hx;have d9:=fr p2 _ (nm (e6.up dJ)) d8;have dp:(0:Int)<((ds.map V.str).length:Int):=by rw[E3];lia
   obtain⟨y,hy,hym⟩:=iz (xs:=ds.map V.str) (i:=z / 8%((ds.map V.str).length:Int)) (Gq _ (by lia)) (Ge _ dp)
   obtain⟨y,hyd,rfl⟩:=E5.mp hym;have n0:(0:Int)<n:=by lia
   refine⟨_,.inl jm,n0,⟨by decide,by decide⟩,_,.inl d9,dp,_,.inl d9,_,hy,⟨by decide,by decide⟩,n0,z1 (by show 3<=1000;decide),fun t J10 ht j10 e10=>⟨_,e10.up jm,z0 ?_,fun J11 j11 b11=>?_⟩⟩
   ·unfold refs;rw[E3];lia
   have ntm:t≠m7:=(aA jm ht).symm;refine⟨ps++[((z%n,y,z / 40%n),t)],_,rfl,?_,fun q hq=>?_,fun q hq=>?_,by rw[Fh,lp];rfl,fun x u nx hu=>b11.up nx (e10.up (fr x u nx hu))⟩
   ·rw[j11];unfold refs;rw[Fc];rfl
   ·rcases Fs.mp hq with hq|hq
    ·exact b11.up (aX (e10.up (tp q hq)) (e10.up jm) fun z=>nomatch z) (e10.up (tp q hq))
    ·rw[Fb.mp hq];exact b11.up ntm j10
   ·rcases Fs.mp hq with hq|hq
    ·exact gp q hq
    ·rw[Fb.mp hq];exact⟨⟨Gq _ (by lia),Ge _ n0⟩,wd y hyd,Gq _ (by lia),Ge _ n0⟩
  rintro σ J9 ⟨ps,v12,rfl,jm,tp,gp,lp,fr⟩;have lp:ps.length=(cs.map V.int).length:=lp;rw[E3]at lp;have up:∀{x:Addr} {u:HO},H6 x=some u->J9 x=some u:=fun {x u} hx=>fr x u (nm hx) (y8.up (e7.up hx))
  have s9:=up (e6.up sJ);have g9:=up (e6.up jg);have f9:=up h6;have xx9:Ext H J9:=fun x u hx=>up (e6.up (xH.up hx))
  refine⟨z1 (by show 1<=1000;decide),fun l12 J12 hl12 h12 e12=>⟨z1 (by show 0<=1000;decide),fun l13 J13 hl13 h13 e13=>⟨flD (st.map V.int),flD [],bV (.inl ((e12.trans e13).up s9)) (dA _),bV (.inl h13) rfl,ez (fun x _ y hy=>nomatch hy),rfl,by rw[eL];decide,aV (fun _=>?_) (fun _=>?_)⟩⟩⟩
  ·refine⟨a,ns,3,rfl,((xx9.trans (e12.trans e13)).rd ha),by decide,by show(0:Int)<3;decide,?_⟩
   obtain⟨zz,ezz,hzz,lzz⟩:=my V.int [(0:Int)] none (some (b2n (decide ((0:Int)<ay ns 3%3))));refine⟨_,.inl (e13.up h12),fun l14 J14 hl14 h14 e14=>?_⟩
   have h14:J14 l14=some (.lst (zz.map V.int)):=by rw[<-ezz];exact h14
   have y14:Ext J9 J14:=e12.trans (e13.trans e14);refine⟨_,y14.up s9,_,h14,z1 (by rw[E3,E3];have:zz.length<=1:=lzz;lia),fun l15 J15 hl15 h15 e15=>⟨z1 (by show 5<=1000;decide),fun p J16 hp h16 e16=>?_⟩⟩
   have y16:Ext J9 J16:=y14.trans (e15.trans e16);have h15:J16 l15=some (.lst ((st++zz).map V.int)):=by rw[Fc];exact e16.up h15
   refine k p J16 n l15 m7 g f6 (st++zz) ps sg fl ⟨h16,h15,y16.up jm,fun q hq=>y16.up (tp q hq),y16.up g9,y16.up f9⟩ ⟨hn,by lia,fun r hr=>?_,gp,wg,hfl⟩ (by lia) (by rw[Fh];have:zz.length<=1:=lzz;lia) lfl lg (xx9.trans y16)
   rcases Fs.mp hr with hr|hr
   ·exact hst r hr
   ·have:=hzz r hr
    rw[Fb.mp this];lia
  ·
   obtain⟨zz,ezz,hzz,lzz⟩:=my V.int [(0:Int)] none (some (b2n false));refine⟨_,.inl (e13.up h12),fun l14 J14 hl14 h14 e14=>?_⟩
   have h14:J14 l14=some (.lst (zz.map V.int)):=by rw[<-ezz];exact h14
   have y14:Ext J9 J14:=e12.trans (e13.trans e14);refine⟨_,y14.up s9,_,h14,z1 (by rw[E3,E3];have:zz.length<=1:=lzz;lia),fun l15 J15 hl15 h15 e15=>⟨z1 (by show 5<=1000;decide),fun p J16 hp h16 e16=>?_⟩⟩
   have y16:Ext J9 J16:=y14.trans (e15.trans e16);have h15:J16 l15=some (.lst ((st++zz).map V.int)):=by rw[Fc];exact e16.up h15
   refine k p J16 n l15 m7 g f6 (st++zz) ps sg fl ⟨h16,h15,y16.up jm,fun q hq=>y16.up (tp q hq),y16.up g9,y16.up f9⟩ ⟨hn,by lia,fun r hr=>?_,gp,wg,hfl⟩ (by lia) (by rw[Fh];have:zz.length<=1:=lzz;lia) lfl lg (xx9.trans y16)
   rcases Fs.mp hr with hr|hr
   ·exact hst r hr
   ·have:=hzz r hr
    rw[Fb.mp this];lia
end
end K
end
section
namespace SB
open PySem PySem.Spec PyProof.Rows L2
theorem Cw{α β:Type}(E:Enc β)(f:α->β){enc:α->V}{zs:List α}{J:It}{fr:List (Option Nat)}{g:TG}{Q:VK}(wk:Wk J H1 (zs.map enc))(hz:zs.length<sizeLine)(step:∀(i:Nat)(a:α)(H:Hp)(K:V->Hp->Prop),zs[i]? =some a->Ext H1 H->New H (.tup (E.enc (f a))) K->g (enc a) (frV fr σ) H fun σ' H3=>cQ fr σ σ'/\te σ' H3 K)(fin:∀ D H' qs,H1 D=none->H' D=some (.lst (rfs qs))->E.At H' qs->qs.map (·.1)=zs.map f->Ext H1 H'->Q (.ref D) H')(hg:fo g:=by intro x σ H Q Q' k q;exact k _ _ q):fe fr σ g (fun _ H Q=>Q true H) te J H1 Q:=by
 refine⟨?_⟩;intro D hD;refine⟨fun i m acc H=>m=zs.length-i/\i<=zs.length/\H D=some (.lst acc)/\Ext H1 H/\∃ qs,acc=rfs qs/\E.At H qs/\qs.map (·.1)=(zs.take i).map f,⟨zs.length,by simp,FG _,aY,cY hD,[],rfl,(fun p hp=>nomatch hp),by simp⟩,?_⟩
 rintro i m acc H ⟨rfl,hi,hDa,ex,qs,rfl,hat,hqs⟩;have hl:(rfs qs).length=i:=by
  unfold rfs;rw[E3,<-E3 (f:=fun x:β×Addr=>x.1),hqs,E3,F3]
  lia
 refine⟨hDa,by lia,?_⟩
 by_cases hlt:i<zs.length
 ·refine .inr ⟨wk.go i H ex (by rw[E3];exact hlt),fun x H2 y=>?_⟩
  obtain⟨rfl,hx⟩:=wk.yld i H x H2 ex (by rw[E3];exact hlt) y
  rw[E9,Fl]at hx;obtain⟨a,ha,rfl⟩:=hx;refine hg _ _ _ _ _ (fun σ' H3 q=>⟨q.1,?_⟩) (step i a _ (fun y H5=>H5 D=some (.lst (rfs qs))/\∃ m',m'<zs.length-i/\m'=zs.length-(i+1)/\i+1<=zs.length/\(upd H5 D (.lst (rfs qs++[y]))) D=some (.lst (rfs qs++[y]))/\Ext H1 (upd H5 D (.lst (rfs qs++[y])))/\∃ qs',rfs qs++[y]=rfs qs'/\E.At (upd H5 D (.lst (rfs qs++[y]))) qs'/\qs'.map (·.1)=(zs.take (i+1)).map f) ha ex fun p H5 hp h5 e5=>?_)
  ·show if true=true then _ else _
   rw[if_pos rfl];exact q.2
  ·refine⟨e5.up hDa,_,(by lia:zs.length-(i+1)<zs.length-i),rfl,hlt,aY,fun b o hb=>?_,qs++[(f a,p)],?_,?_,?_⟩
   ·rw[ar (aA hb hD)];exact e5.up (ex.up hb)
   ·unfold rfs;rw[Fc];rfl
   ·intro z hz';have nd:∀{b:Addr} {ys:List V},H5 b=some (.tup ys)->b≠D:=fun hb=>aX hb (e5.up hDa) (fun w=>nomatch w)
    rcases Fs.mp hz' with h|h
    ·have:=e5.up (hat z h)
     rw[ar (nd this)];exact this
    ·rw[Fb]at h;subst h;rw[ar (nd h5)];exact h5
   ·rw[Fc,hqs,Gb,Fc,ha];rfl
 ·have e:i=zs.length:=by lia
  subst e;refine .inl ⟨by have:=wk.stop H ex;rw[E3]at this;exact this,fin D H qs hD hDa hat (by rw[hqs,GD]) ex⟩
section
variable {X:Cx}{tg l e:Expr}{tl te:TE}
end
section
variable {prog:Program}{w:World}{A:Around}{E:Value->Shared->Prop}{s:Shared}
theorem gather{T:String}{d:Addr}{n:Nat}{P:Nat->Value->Prop}{OK:Heap->Prop}{R:List Value->Shared->Prop}(S:PySem.W.KdlSrc prog w T a d n P OK)(hh:A.handled=none)(ok:OK s.heap)(hn:n<=sizeLine)(go:∀(h1:Heap)(tk:Nat)(vs:Array Value),(∀ b o,s.heap.get? b=some o->h1.get? b=some o)->s.heap.objs.size<=h1.objs.size->ItemsOf P vs n->R vs.toList { s with heap:=h1,toks:=tk }):wpAny (model prog w) A (collect (.ref a)) R E s:=by
 have lt:=S.there _ ok;unfold collect;refine E4 (wpAny_runValue (codeAny_builtin F.entry_proto_collect ?_));rw[Around.under_plainId F.plain_proto_collect _];refine E4 (m:=newList []) (Gu ?_);refine E6 ⟨plainId_quiet F.plain_list_iadd _,codeAny_builtin F.entry_list_iadd ?_⟩;rw[Around.under_plainId F.plain_list_iadd _];have up:∀ b o,s.heap.get? b=some o->(s.heap.push { cls:=.type "list",data:=.seq ([]:List Value).toArray }).get? b=some o:=fun b o e=>E8 _ e
 have ex:=PySem.W.kdl_extend (A:=A) (s:={ s with heap:=s.heap.push { cls:=.type "list",data:=.seq ([]:List Value).toArray } })
  (R:=fun q s1=>q=.ok (.ret (.ref s.heap.objs.size))/\∃ h1 tk vs c,s1={ s with heap:=h1,toks:=tk }/\(∀ b o,s.heap.get? b=some o->h1.get? b=some o)/\h1.get? s.heap.objs.size=some { cls:=.type "list",dict:=none,data:=.seq vs c,slots:=#[] }/\ItemsOf P vs n)
  S hh (S.keep _ _ ok fun b _=>up b) s.heap.objs.size (GY lt.1) (GY lt.2) (.ref s.heap.objs.size) 0 (Fv _ rfl)
  (fun h1 tk vs c kp atL it=>⟨rfl,h1,tk,vs,c,rfl,fun b o e=>kp b o (FD (Ft e)) (up b o e),atL,it⟩) hn
 have last:∀(q:Result) (s1:Shared),(q=.ok (.ret (.ref s.heap.objs.size))/\∃ h1 tk vs c,s1={ s with heap:=h1,toks:=tk }/\(∀ b o,s.heap.get? b=some o->h1.get? b=some o)/\h1.get? s.heap.objs.size=some { cls:=.type "list",dict:=none,data:=.seq vs c,slots:=#[] }/\ItemsOf P vs n) →
   wpAny (model prog w) A (load s.heap.objs.size) (fun o s2=>∃ vs c,o={ cls:=.type "list",dict:=none,data:=.seq vs c,slots:=#[] }/\R vs.toList s2) E s1:=fun q s1 ⟨_,h1,tk,vs,c,e,kp,atL,it⟩=>by
  subst e;exact wpAny_load atL ⟨vs,c,rfl,go h1 tk vs kp (GL (Ft atL)) it⟩
 refine Gf ex (fun f s1 x=>?_) fun e s1 x=>?_
 ·cases f with
  | done f=>
   obtain⟨e,_⟩:=id x;cases e
   refine E4 (m:=load s.heap.objs.size) (Gf (last _ s1 x) (fun o s2 ⟨vs,c,e,r⟩=>?_) fun _ _ z=>z)
   subst e;exact E6 r
  | again c=>
   refine⟨x.1,codeAny_mono x.2 fun q s1 x=>?_⟩
   obtain⟨e,_⟩:=id x;cases e
   refine E4 (m:=load s.heap.objs.size) (Gf (last _ s1 x) (fun o s2 ⟨vs,c,e,r⟩=>?_) fun _ _ z=>z)
   subst e;exact E6 r
 ·cases x.1
theorem uC{α:Type}{ok:α->Prop}{lt:α->α->Bool}(L:cw ok lt){ks:List α}{Rel:α->Value->Prop}(hsz:ks.length<=sizeLine)(nd:ks.Nodup)(hok:∀ k∈ks,ok k)(hf:∀ k∈ks,∀ k'∈ks,∀ v,Rel k v->Rel k' v->k=k')(κ0:SortKind)(hkind:∀(s1:Shared)(ys:List (α×Value)),(∀ p∈ys,p.1∈ks/\Rel p.1 p.2)->(∀ b o,s.heap.get? b=some o->s1.heap.get? b=some o)->2<=ys.length->∀ Q:SortKind->Shared->Prop,Q κ0 s1->wpAny (model prog w) A.in1.in1 (keyKind' (ys.map (·.2)).toArray) Q (fun _ _=>False) s1)(hcmp:∀(s1:Shared),(∀ b o,s.heap.get? b=some o->s1.heap.get? b=some o)->∀ p:α×Value,(p.1∈ks/\Rel p.1 p.2)->∀ q:α×Value,(q.1∈ks/\Rel q.1 q.2)->∀ C:Bool->Shared->Prop,C (lt p.1 q.1) s1->wpAny (model prog w) A.in1.in1 (keyLt' κ0 p.2 q.2) C (fun _ _=>False) s1)(hcol:∀(E':Value->Shared->Prop)(R:List Value->Shared->Prop),(∀(h1:Heap)(tk:Nat)(xs:List (α×Value)),xs.map (·.1)=ks->(∀ p∈xs,Rel p.1 p.2)->(∀ b o,s.heap.get? b=some o->h1.get? b=some o)->s.heap.objs.size<=h1.objs.size->R (xs.map (·.2)) { s with heap:=h1,toks:=tk })->wpAny (model prog w) A.in1 (collect (.ref a)) R E' s)(h:∀(h':Heap)(tk:Nat)(D:Addr)(c:Nat)(out:List (α×Value)),(out.map (·.1)).Perm ks->(out.map (·.1)).Pairwise (fun x y=>lt x y=true)->(∀ p∈out,Rel p.1 p.2)->(∀ b o,s.heap.get? b=some o->h'.get? b=some o)->s.heap.objs.size<=D →
   h'.get? D=some (seqObj "list" (out.map (·.2)).toArray c)->Q (.ref D) { s with heap:=h',toks:=tk }) :
  wpAny (model prog w) A (call (.builtin "sorted") [.ref a]) Q E s:=by
 refine Calls.call_function_entry kind_sorted plain_sorted entry_sorted (args_sorted1 _) ?_;unfold Builtin.«sorted»;refine E4 (m:=checkCount "sorted" 1 1 _) (E6 ?_)
 refine E4 (hcol _ _ fun h1 tk ys hk1 hrel keep1 size1=>?_)
 have hyl:ys.length=ks.length:=by rw[<-hk1,E3]
 have hin0:∀ p∈ys,p.1∈ks/\Rel p.1 p.2:=fun p hp=>⟨by rw[<-hk1];exact FK hp,hrel p hp⟩
 refine E4 (wpAny_newList ?_ (by rw[E3,hyl];first|exact hsz|exact Nat.le_succ_of_le hsz))
 have hoL:(h1.push (seqObj "list" (ys.map (·.2)).toArray 0)).get? h1.objs.size=some (seqObj "list" (ys.map (·.2)).toArray 0):=Fv _ rfl
 have eJ:∀ b o,s.heap.get? b=some o->b≠h1.objs.size:=fun b o e=>FD (FJ (Ft e) size1)
 refine E4 (F7 (Gh slot_list_sort ⟨_,hoL,rfl⟩ entry_list_sort ?_ (args_list_sort _)));refine qI (s:={ s with heap:=h1.push (seqObj "list" (ys.map (·.2)).toArray 0),toks:=tk }) L hoL (by rw[hyl];exact hsz) (fun p hp=>hok _ (hin0 p hp).1) (by rw[hk1];exact nd)
  (fun p hp q hq e=>hf _ (hin0 p hp).1 _ (hin0 q hq).1 q.2 (e▸(hin0 p hp).2) (hin0 q hq).2) κ0 ?_ ?_ ?_
 ·intro h2 s1 k1 Q' q;exact hkind s1 ys hin0 (fun b o e=>k1 b o (eJ b o e) (E8 _ (keep1 b o e))) h2 Q' q
 ·intro s1 k1 p hp q hq C hC;exact hcmp s1 (fun b o e=>k1 b o (eJ b o e) (E8 _ (keep1 b o e))) p (hin0 p hp) q (hin0 q hq) C hC
 ·intro out h' c po uo k1 size2 ho';refine⟨_,rfl,E6 ⟨_,rfl,?_⟩⟩;exact h h' tk _ c out ((po.map (·.1)).trans (List.Perm.of_eq hk1)) uo (fun z hz=>hrel z (po.mem_iff.mp hz)) (fun b o e=>k1 b o (eJ b o e) (E8 _ (keep1 b o e))) size1 ho'
end
theorem jk{α:Type}{Rel:α->Value->Prop}:∀(ks:List α)(vs:List Value),vs.length=ks.length->(∀(i:Nat)(k:α)(v:Value),ks[i]? =some k->vs[i]? =some v->Rel k v)->∃ xs:List (α×Value),xs.map (·.1)=ks/\xs.map (·.2)=vs/\∀ p∈xs,Rel p.1 p.2
 | [],[],_,_=>⟨[],rfl,rfl,fun p hp=>nomatch hp⟩
 | [],_::_,h,_=>by simp at h
 | _::_,[],h,_=>by simp at h
 | k::ks,v::vs,h,each=>by
  obtain⟨xs,h1,h2,h3⟩:=jk ks vs (by simpa using h) fun i k' v' hk hv=>each (i+1) k' v' (by simpa using hk) (by simpa using hv)
  refine⟨(k,v)::xs,by rw[Fi,h1],by rw[Fi,h2],fun p hp=>?_⟩
  rcases Fn.mp hp with rfl|hp
  ·exact each 0 k v rfl rfl
  ·exact h3 p hp
section
variable {X:Cx}
noncomputable def sA:List V->Hp->VK->Prop:=fun xs H Q=>match xs with
 | [.ref a]=>∃ kvs:List (L2.Key×V),H a=some (.dK kvs)/\∃ b:Bool,bB ((kvs.map (·.1)).Nodup/\(∀ k∈kvs.map (·.1),isI k=b)/\kvs.length<64)/\New H (.lst ((srt kLt (kvs.map (·.1))).map kV)) Q
 | _=>False
theorem vo(hc:X.calm=true):aH X (.builtin "sorted") sA:=by
 intro pins s σ H xs us Q I r h;unfold sA at h
 split at h
 ·rename_i a
  obtain⟨kvs,ha,b,⟨nd,hb,h64⟩,q⟩:=h;obtain⟨u,rfl,rx⟩:=vals1 r;cases rx
  obtain⟨z,hs,vs,rel,dd⟩:=(show au X.prog X.w H s.heap a (.dK kvs) from I.hok a _ ha)
  have hlen:kvs.length=vs.length:=Paired.length rel;obtain⟨ob,es,ep,hob,hex,hdat,hrest⟩:=id dd;refine uC (Rel:=fun k v=>bI k v=true) (dI b) (ks:=kvs.map (·.1)) (by rw[E3,Fz];lia) nd hb (fun k _ k' _ v h1 h2=>oT h1 h2) oneType' ?_ ?_ ?_ ?_
  ·intro s1 ys hy _ h2 Q' q';exact uq (b:=b) (fun p hp=>⟨(hy p hp).2,hb _ (hy p hp).1⟩) h2 q'
  ·intro s1 _ x hx y hy C hC;exact ub hx.2 hy.2 (by rw[hb _ hx.1,hb _ hy.1]) hC
  ·intro E' R hR;have dat:s.heap.DictAt (az X.prog X.w) a vs ep:=⟨ob,es,hob,hex,hdat,hrest⟩;refine gather (A:=X.A.in1) (PySem.W.kdl_dict (kvs:=vs) (ep:=ep) hs) (by simp [I.ok.hd hc]) dat (by rw[Fz];lia) fun h' tk acc hk hsz hacc=>?_
   obtain⟨ys,e1,e2,e3⟩:=jk (Rel:=fun(k:L2.Key) v=>bI k v=true) (kvs.map (·.1)) acc.toList (by rw[Fx,hacc.1,E3,hlen]) fun i k v hk hv=>by
    have hv':acc[i]? =some v:=by rw[<-FE];exact hv
    obtain⟨k',x,hkx,hkey⟩:=hacc.2 i v hv';rw[E9,Fl]at hk;obtain⟨⟨kk,vv⟩,hkv,rfl⟩:=hk;obtain⟨u,hu,_⟩:=nF rel hkv;rw[hu]at hkx;cases hkx
    exact hkey
   rw[<-e2];exact hR h' tk ys e1 e3 hk hsz
  ·intro h' tk D c out hpo hup hrel keep hD hg;have ho:out.map (·.1)=srt kLt (kvs.map (·.1)):=iP (dI b) hb (fun k'=>hpo.mem_iff) hup
   have rv2:Vals ((srt kLt (kvs.map (·.1))).map kV) (out.map (·.2)):=by
    rw[<-ho,Fm];exact kX (f:=kV) fun q hq=>i8 (hrel q hq)
   have hol:out.length=kvs.length:=by
    have:=hpo.length_eq
    rw[E3,E3]at this;exact this
   have I2:Inv X pins σ (upd H D (.lst ((srt kLt (kvs.map (·.1))).map kV))) { s with heap:=h',toks:=tk }:=
    I.laid (t':=tk) keep hD (show au X.prog X.w _ h' D (.lst ((srt kLt (kvs.map (·.1))).map kV)) from⟨by rw[<-ho,E3,E3,hol,Fz];lia,out.map (·.2),c,rv2,hg⟩)
   exact⟨V.ref D,_,I2,rfl,q.at (I.hok.fresh hD)⟩
 ·exact h.elim
noncomputable def pH:List V->Hp->VK->Prop:=fun xs H Q=>match xs with
 | [.ref a]=>∃ kvs:List (L2.Key×V),H a=some (.dK kvs)/\New H (.lst ((kvs.map (·.1)).map kV)) Q
 | _=>False
theorem yV(hc:X.calm=true):aH X (.type "list") pH:=by
 intro pins s σ H xs us Q I r h;unfold pH at h
 split at h
 ·rename_i a
  obtain⟨kvs,ha,q⟩:=h;obtain⟨u,rfl,rx⟩:=vals1 r;cases rx
  obtain⟨z,hs,vs,rel,dd⟩:=(show au X.prog X.w H s.heap a (.dK kvs) from I.hok a _ ha)
  have hlen:kvs.length=vs.length:=Paired.length rel;obtain⟨ob,es,ep,hob,hex,hdat,hrest⟩:=id dd;have dat:s.heap.DictAt (az X.prog X.w) a vs ep:=⟨ob,es,hob,hex,hdat,hrest⟩;refine PySem.W.kdl_call (PySem.W.kdl_dict (kvs:=vs) (ep:=ep) hs) (I.ok.hd hc) dat (by rw[<-hlen];exact z) fun h' tk acc c' kp hS hacc=>?_
  refine⟨.ref s.heap.objs.size,_,I.laid (t':=tk) kp (E7 _) (show au X.prog X.w _ h' _ (.lst ((kvs.map (·.1)).map kV)) from⟨by rw[E3,E3];exact z,acc.toList,c',?_,by rw[Array.toArray_toList];exact hS⟩),rfl,q.at (I.hok.fresh (E7 _))⟩
  obtain⟨ys,e1,e2,e3⟩:=jk (Rel:=fun(k:L2.Key) v=>bI k v=true) (kvs.map (·.1)) acc.toList (by rw[Fx,hacc.1,E3,hlen]) fun i k v hk hv=>by
   have hv':acc[i]? =some v:=by rw[<-FE];exact hv
   obtain⟨k',x,hkx,hkey⟩:=hacc.2 i v hv';rw[E9,Fl]at hk;obtain⟨⟨kk,vv⟩,hkv,rfl⟩:=hk;obtain⟨u,hu,_⟩:=nF rel hkv;rw[hu]at hkx;cases hkx
   exact hkey
  rw[<-e1,<-e2,Fm];exact kX (f:=kV) fun q hq=>i8 (e3 q hq)
 ·exact h.elim
end
end SB
end
section
namespace SB
open PySem PySem.Spec PyProof.Rows L2
open PySem.W (CodeHd tabObj kla_obj kla_fn)
structure cC (mg:Str->Option Value)(base:Heap)(c P:Addr):Prop where
 hd:CodeHd base c P
 bm:∃ bm o,mg "__builtins__" = some (.ref bm)/\bm≠builtinsNs/\bm≠mainGlobals/\base.get? bm=some o/\o.cls=.type "module"/\o.dict=some builtinsNs/\o.data=.plain
theorem cC.keeps{base':Heap}{P:Addr}(L:cC mg base c P)(k:∀ b o,base.get? b=some o->base'.get? b=some o):cC mg base' c P:=
 ⟨L.hd.keeps k,let ⟨bm,o,a,b,d,e,r⟩:=L.bm;⟨bm,o,a,b,d,k _ _ e,r⟩⟩
noncomputable def fE (oc:Obj)(qual:Str):Prop:=∃(vs:Array Value)(t:Tok),oc.data=.fields vs/\vs[1]? =some (.str qual t)
noncomputable def TabAt (pos:Pos)(qual:Str)(P:Addr)(H:Hp):Prop:=H P=some (.tbl #[])\/∃ c' oc,H P=some (.tbl #[rawInt pos.line,rawInt pos.col,.ref c'])/\H c'=some (.frz oc (.own c'))/\fE oc qual
structure c9 (H H':Hp):Prop where
 up:∀{b u},H b=some u->(∀ ps,u≠.tbl ps)->H' b=some u
 tb:∀{b ps},H b=some (.tbl ps)->∃ ps',H' b=some (.tbl ps')
theorem c9.trans(a:c9 H H1)(b:c9 H1 H2):c9 H H2:=⟨fun h n=>b.up (a.up h n) n,fun h=>by
 obtain⟨ps,h⟩:=a.tb h;exact b.tb h⟩
theorem Ext.toT(a:Ext H H1):c9 H H1:=⟨fun h _=>Ext.up a h,fun h=>⟨_,Ext.up a h⟩⟩
theorem c9.none(a:c9 H H1)(h:H1 b=.none):H b=.none:=by
 cases e:H b with
 | none=>rfl
 | some u=>
  by_cases hp:∃ ps,u=.tbl ps
  ·obtain⟨ps,rfl⟩:=hp;obtain⟨ps',z⟩:=a.tb e;rw[z]at h;cases h
  ·rw[a.up e fun ps z=>hp ⟨ps,z⟩]at h
   cases h
theorem TabAt.ext{P:Addr}(t:TabAt pos qual P H)(x:Ext H H'):TabAt pos qual P H':=by
 rcases t with t|⟨c',oc,h1,h2,h3⟩
 ·exact .inl (x.up t)
 ·exact .inr ⟨c',oc,x.up h1,x.up h2,h3⟩
theorem TabAt.ER{P:Addr}(t:TabAt pos qual P H){u:HO}(h:H b=some u)(n:∀ ps,u≠.tbl ps):b≠P:=by
 rintro rfl;rcases t with t|⟨c',oc,h1,h2,h3⟩
 ·rw[h]at t;exact n _ (Fw t)
 ·rw[h]at h1;exact n _ (Fw h1)
section
variable {X:Cx}{pins:List (Addr×Obj)}{σ:L2.St}{H:Hp}{s:Shared}
end
end SB
end
section
namespace SB
open PySem PySem.Spec PyProof.Rows L2
open PySem.W (CodeHd tabObj kla_obj kla_fn)
noncomputable def rebase (X:Cx)(H:Hp)(h:Heap):Heap:=PySem.W.hideAll (dG h H) (frs X.stack)
section
variable {X:Cx}{pins:List (Addr×Obj)}{σ:L2.St}{H:Hp}{s:Shared}
theorem t7(e:s.heap.get? b=some o)(n:H b=none)(hb:b∉frs X.stack):(rebase X H s.heap).get? b=some o:=PySem.W.hideAll_get _ (qg e n) hb
theorem BQ(e:(rebase X H s.heap).get? b=some o):s.heap.get? b=some o/\H b=none:=uy (PySem.W.of_hideAll _ e)
theorem zT:(rebase X H s.heap).objs.size=s.heap.objs.size:=by
 unfold rebase;rw[PySem.W.hideAll_size,uK]
theorem Au(I:Inv X pins σ H s)(e:X.base.get? b=some o):b∉frs X.stack:=fun z=>by
 rcases Fn.mp (I.fC b z) with q|q
 ·exact absurd (FJ (Ft e) (FL I.ok.bsz I.ok.above)) (by rw[q];exact Gm _)
 ·exact I.ok.qB e q
theorem u9(I:Inv X pins σ H s)(e:X.base.get? b=some o):(rebase X H s.heap).get? b=some o:=t7 (I.bs b o e).1 (I.bs b o e).2 (Au I e)
theorem pM{base':Heap}:∀{l:List Env},(∀ b∈frs l,base'.get? b=none)->h.FunFrames base l->h.FunFrames base' l
 | [],_,_=>trivial
 | env::r,hn,hl=>by
  obtain⟨hk,⟨L,o,hf,_,ho,hd⟩,hr⟩:=hl;have mem:L∈frs (env::r):=by unfold frs;rw[FN,hf];exact Fd
  exact⟨hk,⟨L,o,hf,hn L mem,ho,hd⟩,pM (fun b hb=>hn b (by unfold frs;rw[FN,hf];exact Ff _ hb)) hr⟩
theorem EW(I:Inv X pins σ H s):dW X.prog X.w X.K X.mg (rebase X H s.heap) X.A X.stack s H:=by
 have k:∀ b o,X.base.get? b=some o->(rebase X H s.heap).get? b=some o:=fun b o e=>u9 I e
 obtain⟨m1,m2,⟨mb,m3,m4⟩,m5⟩:=I.ok.mod;exact⟨I.ok.frames,⟨m1.keeps k,m2.keeps k,⟨mb,m3.keeps k,m4⟩,m5.keeps k⟩,fun b o e=>BQ e,Nat.le_of_eq zT,pM (fun b hb=>PySem.W.hideAll_none _ hb) I.stack,I.oH,I.hok,I.bare⟩
structure eR (base:Heap)(cl:List (Str×Addr))(scope:Scope)(Nf:List Str)(fvs:List V):Prop where
 inj:∀ x y c,cl.lookup x=some c->cl.lookup y=some c->x=y
 has:∀ x,scope.names.lookup x=some .free->∃ c,cl.lookup x=some c
 cell:∀ x c,cl.lookup x=some c->∃ v,base.IsCell c v
 val:∀(i:Nat) (x:Str) (v:V),Nf[i]? =some x->fvs[i]? =some v->scope.names.lookup x=some .free/\∃ u c,RelV v u/\cl.lookup x=some c/\base.IsCell c (some u)
structure Rb (X:Cx)(σ:L2.St)(H:Hp)(base':Heap):Prop where
 keep:∀ b o,X.base.get? b=some o->base'.get? b=some o
 clos:∀(scope:Scope) (Nf:List Str) (fvs:List V),(∀ n k,(n,k)∈scope.names->k=.free->X.env.kindOf n=some .cell\/X.env.kindOf n=some .free) →
  (∀(i:Nat) (x:Str) (v:V),Nf[i]? =some x->fvs[i]? =some v->scope.names.lookup x=some .free/\∃ j:Nat,X.N[j]? =some x/\σ[j]? =some (some v))->eR base' (ba X.env scope.names []) scope Nf fvs
theorem Bn(hf:∀ x,X.fn x=true)(I:Inv X pins σ H s)(e:X.env.cells.lookup x=some c):c∉frs X.stack:=fun z=>by
 rcases Fn.mp (I.fC c z) with q|q
 ·exact I.cne x c e q
 ·obtain⟨_,o,ho,_⟩:=I.ok.cA.mem q;exact absurd (Ft ho) (Nat.not_lt.mpr (I.ok.cab x c (hf x) e))
theorem Bx(hf:∀ x,X.fn x=true)(I:Inv X pins σ H s):Rb X σ H (rebase X H s.heap):=by
 refine⟨fun b o e=>u9 I e,fun scope Nf fvs hfr hv=>?_⟩
 have hcl:∀ n k,(n,k)∈scope.names->k=.free->∃ c,X.env.cells.lookup n=some c:=fun n k hm e=>I.ok.has n (hfr n k hm e)
 have cg:=kI X.env scope.names [] hcl (fun x c h=>by simp at h)
 have up:∀{x:Str} {c:Addr} {v:Option Value},X.env.cells.lookup x=some c->s.heap.IsCell c v->(rebase X H s.heap).IsCell c v:=fun {x c v} e ⟨o,ho,hd⟩=>⟨o,t7 ho (I.freeC x c e) (Bn hf I e),hd⟩
 refine⟨fun x y c h1 h2=>I.ok.inj x y c (cg x c h1) (cg y c h2),fun x hx=>i6 X.env scope.names [] x (.inl (PySem.mem_of_lookup hx)),fun x c hx=>?_,fun i x v h1 h2=>?_⟩
 ·obtain⟨v,z⟩:=I.cell x c (cg x c hx);exact⟨v,up (cg x c hx) z⟩
 ·obtain⟨hx,j,hj,hσ⟩:=hv i x v h1 h2;refine⟨hx,?_⟩;have hm:=PySem.mem_of_lookup hx;have hk:=hfr x .free hm rfl;obtain⟨m,_,hl⟩:=I.loc;obtain⟨u,r,lk⟩:=hl j x v hj hσ (by rcases hk with e|e;exact .inr (.inl e);exact .inr (.inr e))
  obtain⟨c,hc⟩:=i6 X.env scope.names [] x (.inl hm);refine⟨u,c,r,hc,?_⟩;rcases lk with⟨e,_⟩|⟨_,c2,e2,z⟩
  ·rcases hk with e'|e' <;> (rw[e']at e;cases e)
  ·rw[cg x c hc]at e2;cases e2
   exact up (cg x c hc) z
variable {k:Nat}{x:Str}{ps:List Str}{sp:Heap->Sp}{e:Expr}{es:List Expr}{t:TA}{p pos:Pos}
noncomputable def AX (X:Cx)(sp:Heap->Sp)(t:TA):TE:=fun σ H Q=>t σ H fun vs H1=>∀ base',Rb X σ H1 base'->sp base' vs H1 Q E0
theorem pq(F:∀ base',X.K.In base'->base'.Ns mainGlobals X.mg->Known X.prog X.w X.K X.mg base' k x ps (sp base'))(hr:aE k X.A)(hf:∀ x,X.fn x=true)(ha:PA X (e::es) t)(hg:Gl X x:=by rfl)(hdb:(x==("__debug__":Str))=false:=by decide) (he:starEach (e::es) X.env=(false,eval e X.env)::starEach es X.env:=by rfl) (hpl:(backTo pos (starEach es X.env)).any (·.1)=false:=by rfl):PE X (.Call (.Name x p) (e::es) [] pos) (AX X sp t):=by
 intro pins s σ H Q I h;obtain⟨f,fd,_,mgf,kp,_⟩:=(F X.base I.ok.mod.kin I.ok.mod.glob).ex;refine G6 (jt I hg mgf ?_ hdb);refine PySem.W.callWith_K (h₀:=X.base) I.ok.mod.kin kp (thn (ha pos pins s σ H _ I h) fun us s1 ⟨vs,H1,I1,r,q⟩=>⟨I1.kIn,?_⟩) he hpl
 have e0:=EW I1;obtain⟨f',fd',F',mgf',_,b'⟩:=(F (rebase X H1 s1.heap) e0.mod.kin e0.mod.glob).ex;rw[mgf]at mgf';cases mgf'
 have q:=q _ (Bx hf I1);have hl:us.length=ps.length:=by rw[<-r.length];exact F'.len _ _ _ _ q
 have bt:=b' s1 us I1.kIn (by rw[FR];exact hl)
 rw[FR]at bt;show wpAny _ _ (call (.ref f) ([]++us)) _ _ _
 rw[List.nil_append];refine wpAny_call (codeAny_mono (F'.run X.A X.stack s1 H1 ⟨us,[]⟩ us vs Q E0 hr e0 bt r q) fun r s' hq=>?_)
 cases r with
 | error e=>exact False.elim hq
 | ok fl=>
  cases fl with
  | ret u=>exact I1.after hq
  | next=>exact False.elim hq
  | brk=>exact False.elim hq
  | cont=>exact False.elim hq
noncomputable def Ee (sp:Sp)(f:Addr)(o:Obj)(tx:TE)(t:TA):TE:=fun σ H Q=>tx σ H fun v H1=>v=.ref f/\H1 f=some (.frz o (.own f))/\t σ H1 fun vs H2=>H2 f=some (.frz o (.own f))/\sp vs H2 Q E0
theorem sP{sp:Sp}{tx:TE}(hx:PE X (.Name x p) tx)(F:ao X.prog X.w X.K X.mg X.base CX0 k f fd ps sp)(b:Binds X.K fd ps [])(ho:o.data=.func fd)(hr:aE k X.A)(ha:PA X (e::es) t)(he:starEach (e::es) X.env=(false,eval e X.env)::starEach es X.env:=by rfl)(hpl:(backTo pos (starEach es X.env)).any (·.1)=false:=by rfl):PE X (.Call (.Name x p) (e::es) [] pos) (Ee sp f o tx t):=by
 intro pins s σ H Q I h;have at_:∀{H':Hp} {h':Heap},HOk X.prog X.w H' h'->H' f=some (.frz o (.own f))->PySem.W.FnAt f h':=fun {H' h'} hk e=>by
  obtain⟨g,_⟩:=hk f _ e;obtain⟨oc,od,dt,sl⟩:=o;cases ho
  exact⟨oc,od,fd,sl,g⟩
 refine G6 (thn (hx pins s σ H _ I h) fun u s1 hZ=>?_)
 obtain⟨v,H1,I1,r1,e1,hf1,q1⟩:=hZ;subst e1;obtain rfl:u=Value.ref f:=r1;refine PySem.W.callWith_F (first:=[]) (at_ I1.hok hf1) (thn (ha pos pins s1 σ H1 _ I1 q1) fun us s2 ⟨vs,H2,I2,r,hf2,q⟩=>⟨at_ I2.hok hf2,?_⟩) he hpl
 have h2:=lF (dvs:=[]) (ds:=[]) F hr b .nil (iE (X:=X)) I2 r (by rw[FR];exact q)
 exact h2
end
end SB
end
section
namespace SB
open PySem PySem.Spec PyProof.Rows L2
open PySem.W (CodeHd tabObj kla_obj kla_fn envX)
noncomputable def fT (P:Program)(w:World)(K:PySem.W.Frag)(mg:Str->Option Value)(base:Heap)(N:List Str)(qual:Str)(scope:Scope)(f:Addr)(cd:Value)(cl:List (Str×Addr))(A:Around)(outer:List Env)(s:Shared)(H:Hp):Cx where
 prog:=P
 w:=w
 K:=K
 mg:=mg
 base:=base
 A:=A.deeper (envX qual scope s.heap.objs.size f cd cl)
 N:=N
 s₀:=s
 H₀:=H
 env:=envX qual scope s.heap.objs.size f cd cl
 outer:=outer
 stack:=envX qual scope s.heap.objs.size f cd cl::outer
 ex:=[]
 calm:=true
 fn:=fun _=>false
 pn:=[]
 xe:=fun _ _=>False
structure kG (ps Nf:List Str)(sc:Scope):Prop where
 kind:sc.kind=.function
 co:sc.isCoroutine=false
 gen:sc.isGenerator=false
 nd:ps.Nodup
 par:∀ x∈ps,sc.names.lookup x=some .local
 nocell:∀ y∈sc.names,y.2≠.cell
theorem rG:∀{ps:List Str}{us:List Value}{i:Nat}{x:Str}{u:Value},ps.Nodup->ps[i]? =some x->us[i]? =some u->(ps.zip us).reverse.lookup x=some u
 | [],_,_,_,_,_,h,_=>by simp at h
 | _::_,[],_,_,_,_,_,h=>by simp at h
 | p::ps,w::us,0,x,u,nd,h1,h2=>by
  simp at h1 h2;subst h1;subst h2
  rw[List.zip_cons_cons,List.reverse_cons,List.lookup_append]
  have:(ps.zip us).reverse.lookup p=none:=by
   rw[List.lookup_eq_none_iff];intro q hq
   have:=(List.of_mem_zip (GV.mp hq)).1
   have ne:p≠q.1:=fun e=>(Gg.mp nd).1 (e▸this)
   simpa using ne
  rw[this]
  simp
 | p::ps,w::us,i+1,x,u,nd,h1,h2=>by
  rw[List.zip_cons_cons,List.reverse_cons,List.lookup_append,rG (i:=i) (x:=x) (u:=u) (Gg.mp nd).2 (by simpa using h1) (by simpa using h2)]
  rfl
section
variable {P:Program}{w:World}{K:PySem.W.Frag}{mg:Str->Option Value}{base:Heap}{ps Nf:List Str}{qual:Str}{scope:Scope}{f:Addr}{cd:Value}{cl:List (Str×Addr)}{A:Around}{outer:List Env}{s:Shared}{H:Hp}{us:List Value}{vs fvs:List V}
theorem C4(S:kG ps Nf scope)(C:eR base cl scope Nf fvs)(hd:A.handled=none)(e0:dW P w K mg base A outer s H)(hl:vs.length=ps.length)(hfl:fvs.length=Nf.length)(r:Vals vs us){tk:Nat}(hn:h'.Ns s.heap.objs.size (fun x=>(ps.zip us).reverse.lookup x))(hk:∀ b o,s.heap.get? b=some o->h'.get? b=some o) :
  Inv (fT P w K mg base (ps++Nf) qual scope f cd cl A outer s H) [] (vs.map some++fvs.map some) H { s with heap:=h',toks:=tk }:=by
 have noA:∀ b:Addr,b∉(fT P w K mg base (ps++Nf) qual scope f cd cl A outer s H).ex:=fun b z=>absurd (show b∈([]:List Addr) from z) (by simp)
 have up:∀{c:Addr} {v:Option Value},base.IsCell c v->h'.IsCell c v:=fun⟨o,ho,hd⟩=>⟨o,hk _ _ (e0.bs _ _ ho).1,hd⟩
 refine⟨⟨e0.mod,S.kind,rfl,rfl,E7 _,C.inj,fun y hy=>?_,fun y c h _=>(by cases h),fun _=>hd,Around.frames_deeper e0.frames,.inr ⟨rfl,rfl⟩,fun b z=>absurd z (noA b),e0.bs,e0.bsz,fun b _ _=>noA b,fun b z=>absurd z (noA b),e0.cA,e0.frf⟩,
  rfl,e0.bare,Un.kept hk,⟨_,hn,fun i y v h1 h2 h3=>?_⟩,fun y c h=>?_,e0.hok.fresh (E7 _),fun y c h=>?_,fun p hp=>absurd (show p∈([]:List (Addr×Obj)) from hp) (by simp),e0.hok.kept hk,?_⟩
 ·have hy:scope.names.lookup y=some .cell\/scope.names.lookup y=some .free:=hy;rcases hy with hy|hy
  ·exact absurd rfl (S.nocell _ (PySem.mem_of_lookup hy))
  ·exact C.has y hy
 ·have h1:(ps++Nf)[i]? =some y:=h1;have h2:(vs.map some++fvs.map some)[i]? =some (some v):=h2
  by_cases hi:i<ps.length
  ·rw[FX hi]at h1;rw[FX (by rw[E3,hl];exact hi),E9,Fl]at h2
   obtain⟨v',hv,e⟩:=h2;cases e
   obtain⟨u,hu,rv⟩:=r.get hv;exact⟨u,rv,.inl ⟨S.par y (Fe h1),rG S.nd h1 hu⟩⟩
  ·have hi:ps.length<=i:=Nat.not_lt.mp hi;rw[F6 hi]at h1;rw[F6 (by rw[E3,hl];exact hi),E9,Fl,E3,hl]at h2
   obtain⟨v',hv,e⟩:=h2;cases e
   obtain⟨hf,u,c,rv,hc,z⟩:=C.val _ y v h1 hv;exact⟨u,rv,.inr ⟨.inr hf,c,hc,up z⟩⟩
 ·obtain⟨v,z⟩:=C.cell y c h;exact⟨v,up z⟩
 ·obtain⟨v,o,ho,_⟩:=C.cell y c h
  exact(e0.bs _ _ ho).2
 ·show(vs.map some++fvs.map some).length=(ps++Nf).length
  rw[Fh,Fh,E3,E3,hl,hfl]
theorem uH{k:Nat}{params:Arguments}{body:Expr}{ctv:Value}{c':Addr}{oc:Obj}{sp:Sp}(S:kG ps Nf scope)(C:eR base cl scope Nf fvs)(hfl:fvs.length=Nf.length)(co:fE oc qual)(len:∀ vs H Q E,sp vs H Q E->vs.length=ps.length)(hob:∀ vs H Q E,sp vs H Q E->H f=some (.frz (kla_obj "<lambda>" qual params body scope cl pm c' ctv) (.own f))/\H c'=some (.frz oc (.own c'))) (hbody:∀(A:Around) (outer:List Env) (s:Shared) (H:Hp) (vs:List V) (Q:VK) (E:XK),aE k (A.deeper (envX qual scope s.heap.objs.size f (.ref c') cl))->sp vs H Q E →
   ∃ t,PE (fT P w K mg base (ps++Nf) qual scope f (.ref c') cl A outer s H) body t/\t (vs.map some++fvs.map some) H Q) :
  ao P w K mg base CX0 (k+1) f (kla_fn "<lambda>" qual params body scope cl pm (.ref c') ctv) ps sp:=by
 refine⟨len,fun A outer s H args us vs Q E hr e0 hb r hsp=>?_⟩
 have hl:=len _ _ _ _ hsp;obtain⟨hf,hc⟩:=hob _ _ _ _ hsp;have lim:s.heap.NoLimit:=e0.mod.nolimit.keeps fun b o e=>(e0.bs b o e).1
 obtain⟨gf,_⟩:=e0.hok f _ hf;obtain⟨gc,_⟩:=e0.hok c' _ hc;obtain⟨vs',t',hd',hv'⟩:=co;refine PySem.W.kla_callFunE hr.depth gf rfl S.co S.gen rfl ⟨c',oc,vs',t',rfl,gc,hd',hv'⟩ (hb _ _ _ _ ?_);refine wpAny_newFunctionEnv S.nocell (fun y hy=>S.par y.1 (List.of_mem_zip hy).1) (fun h₁ hns hsb=>⟨lim.fresh _ hsb,?_⟩) S.kind
 show codeAny _ _ (.expr body (envX qual scope s.heap.objs.size f (.ref c') cl)) _ _
 have hk₁:∀ b o,s.heap.get? b=some o->h₁.get? b=some o:=fun b o e=>hsb.extBut b o (FD (Ft e)) (E8 _ e)
 obtain⟨t,ht,hq⟩:=hbody A outer s H vs Q E (hr.deeper _) hsp;have I:=C4 (qual:=qual) (f:=f) (cd:=.ref c') (cl:=cl) (tk:=s.toks+(ps.zip us).length) S C hr.hd e0 hl hfl r hns hk₁;refine PySem.W.kla_codeExpr (Gf (ht [] _ _ H _ I hq) (fun v s' hs=>?_) fun e s' hs=>hs.elim)
 obtain⟨v',H',J,rv,q⟩:=hs;exact⟨v',H',J.os,J.bare,J.base,J.hok,rv,q⟩
end
end SB
end
section
set_option maxHeartbeats 2000000
namespace K
open PySem PySem.Spec PyProof.Rows L2 SB
noncomputable abbrev hV:Stmt:=top 17
structure eF (α:Type) where
 enc:α->List V
 key:α->List L2.Key
 ok:∀ a,dH (enc a) (key a)
 inj:∀ a b,key a=key b->a=b
inductive Rc {α:Type}(next:α->List α)(st:List α):α->Prop
 | base {x:α}:x∈st->Rc next st x
 | step {x y:α}:Rc next st x->y∈next x->Rc next st y
noncomputable def aQ (H H':Hp):Prop:=∀ b xs,H b=some (.tup xs)->H' b=some (.tup xs)
theorem Ext.tup(x:Ext H H'):aQ H H':=fun b xs h=>x.up h
theorem aQ.trans(a:aQ H H1)(b:aQ H1 H2):aQ H H2:=fun c xs h=>b c xs (a c xs h)
theorem eM{u:HO}(b:But l H H')(hl:H l=some u)(n:∀ xs,u≠.tup xs):aQ H H':=fun c xs h=>b.up (fun z=>by rw[z,hl]at h;exact n _ (Fw h)) h
theorem Cc{α:Type}{next:α->List α}{st l:List α}(h1:∀ x∈st,x∈l)(h2:∀ x∈l,∀ y∈next x,y∈l){x:α}(c:Rc next st x):x∈l:=by
 induction c with
 | base h=>exact h1 _ h
 | step _ hy ih=>exact h2 _ ih _ hy
section
variable {α:Type} [DecidableEq α]
noncomputable def mis (U l:List α):Nat:=U.countP fun s=>decide (s∉l)
theorem gK{l:List α}{s:α}(hs:s∉l):∀ us:List α,mis us (l++[s])+(if s∈us then 1 else 0)<=mis us l
 | []=>by simp [mis]
 | u::us=>by
  have ih:=gK hs us;unfold mis at ih ⊢;rw[List.countP_cons,List.countP_cons]
  by_cases e:u=s
  ·subst e;have h1:decide (u∉l++[u])=false:=by simp
   have h2:decide (u∉l)=true:=Fq hs;rw[h1,h2,if_pos (Fd ..)];simp only[Fo,if_false,if_true]
   split at ih <;> lia
  ·have h1:decide (u∉l++[s])=decide (u∉l):=by
    apply FU.mpr
    simp [e]
   have h2:(s∈u::us)↔s∈us:=by
    rw[Fn];exact⟨fun z=>z.elim (fun z=>absurd z.symm e) id,.inr⟩
   rw[h1]
   by_cases q:s∈us
   ·rw[if_pos (h2.mpr q)];rw[if_pos q]at ih;lia
   ·rw[if_neg (fun z=>q (h2.mp z))]
    rw[if_neg q]at ih;lia
end
set_option maxHeartbeats 4000000
noncomputable def kvI (ks:List (Int×V)):List (L2.Key×V):=ks.map fun p=>(Sum.inl p.1,p.2)
theorem EG(a b:List (Int×V)):kvI (a++b)=kvI a++kvI b:=by
 unfold kvI;rw[Fc]
theorem lA(ks:List (Int×V)):(kvI ks).map (·.1)=(ks.map (·.1)).map Sum.inl:=by
 unfold kvI;rw[Fm,Fm];rfl
theorem oN(ks:List (Int×V))(x:Int):((kvI ks).any fun kv=>decide (kv.1=(Sum.inl x:L2.Key)))=decide (x∈ks.map (·.1)):=by
 induction ks with
 | nil=>rfl
 | cons a r ih=>
  rw[show kvI (a::r)=(Sum.inl a.1,a.2)::kvI r from rfl,GU,ih,Fi]
  by_cases h:a.1=x
  ·subst h
   simp
  ·have h':¬ (Sum.inl a.1:L2.Key)=Sum.inl x:=fun z=>h (Sum.inl.inj z)
   rw[FI h',Bool.false_or];refine decide_eq_decide.mpr ⟨fun z=>Ff _ z,fun z=>?_⟩
   rcases Fn.mp z with z|z
   ·exact absurd z.symm h
   ·exact z
theorem pF(ks:List (Int×V))(x:Int):(aN (kvI ks) (Sum.inl x)).isSome=decide (x∈ks.map (·.1)):=by
 rw[<-oN];unfold aN;rw[GZ];refine FU.mpr ?_;rw[List.find?_isSome,List.any_eq_true]
theorem sj{ks:List (Int×V)}{x:Int}{v:V}(h:x∉ks.map (·.1)):putK (kvI ks) (Sum.inl x) v=kvI (ks++[(x,v)]):=by
 unfold putK;rw[oN,FI h,if_neg (by decide),EG]
 rfl
theorem wI{ks:List (Int×V)}{x:Int}(h:x∈ks.map (·.1))(hv:∀ e∈ks,e.2=.non):putK (kvI ks) (Sum.inl x) .non=kvI ks:=by
 unfold putK;rw[oN,Fq h,if_pos rfl];unfold kvI;rw[Fm];refine G2 fun e he=>?_
 show(if (Sum.inl e.1:L2.Key)=Sum.inl x then((Sum.inl e.1:L2.Key),V.non) else(Sum.inl e.1,e.2))=(Sum.inl e.1,e.2)
 split
 ·rw[hv e he]
 ·rfl
structure RI (next:Int->List Int)(ok:Int->Prop)(U st:List Int)(H H1:Hp)(d:Addr)(ks:List (Int×V)):Prop where
 ext:Ext H H1
 dn:H d=none
 dd:H1 d=some (.dK (kvI ks))
 okk:∀ e∈ks,ok e.1
 bd:ks.length+mis U (ks.map (·.1))<=U.length
 rc:∀ e∈ks,Rc next st e.1
 nd:(ks.map (·.1)).Nodup
section
variable {next:Int->List Int}{ok:Int->Prop}{U st:List Int}{H H1 H2:Hp}{d:Addr}{ks:List (Int×V)}
theorem RI.move(r:RI next ok U st H H1 d ks)(x:Ext H H2)(dd:H2 d=some (.dK (kvI ks))):RI next ok U st H H2 d ks:=⟨x,r.dn,dd,r.okk,r.bd,r.rc,r.nd⟩
theorem RI.up(r:RI next ok U st H H1 d ks)(x:Ext H1 H2):RI next ok U st H H2 d ks:=r.move (r.ext.trans x) (x.up r.dd)
theorem RI.put(r:RI next ok U st H H1 d ks)(hU:∀ x,ok x->x∈U){y:Int}{v:V}(ny:y∉ks.map (·.1))(oky:ok y)(rcy:Rc next st y)(dd:H2 d=some (.dK (kvI (ks++[(y,v)]))))(bb:But d H1 H2):RI next ok U st H H2 d (ks++[(y,v)]):=by
 refine⟨fun c u h=>bb.up (fun z=>by rw[z,r.dn]at h;cases h) (r.ext.up h),r.dn,dd,fun e he=>?_,?_,fun e he=>?_,?_⟩
 ·rcases Fs.mp he with he|he
  ·exact r.okk e he
  ·rw[Fb]at he;subst he;exact oky
 ·have:=gK ny U
  rw[if_pos (hU y oky)]at this
  have:=r.bd
  rw[Fh,Fc];show ks.length+1+mis U (ks.map (·.1)++[y])<=_
  lia
 ·rcases Fs.mp he with he|he
  ·exact r.rc e he
  ·rw[Fb]at he;subst he;exact rcy
 ·rw[Fc];refine List.nodup_append.mpr ⟨r.nd,Gg.mpr ⟨(fun z=>nomatch z),GW⟩,fun a ha b hb e=>?_⟩
  rw[Fi,GN,Fb]at hb;subst hb;subst e;exact ny ha
theorem RI.len(r:RI next ok U st H H1 d ks)(hU:U.length<=1000):ks.length<=1000:=by have:=r.bd;lia
end
structure StI where
 lb:V
 y:Int
 ap:Addr
noncomputable def si (next:Int->List Int)(ok:Int->Prop)(H0:Hp):Sp:=fun vs H Q _=>∃ x:Int,vs=[.int x]/\Ext H0 H/\ok x ∧
 ∀ l H' (es:List StI),H l=none->H' l=some (.lst (es.map fun e=>V.ref e.ap))->(∀ e∈es,H' e.ap=some (.tup [e.lb,.int e.y]))->es.map (·.y)=next x->Ext H H'->Q (.ref l) H'
noncomputable def o9 (P:Program)(w:World)(K:PySem.W.Frag)(mg:Str->Option Value)(base:Heap)(kk:Nat)(pn:Str):Sp:=fun vs H Q _=>∃(c f:Addr)(fd:FuncData)(o:Obj)(next:Int->List Int)(ok:Int->Prop)(U:List Int)(xs:List Int),vs=[.ref c,.ref f]/\RdL H c (xs.map V.int)/\(∀ x∈xs,ok x) ∧
 H f=some (.frz o (.own f))/\o.data=.func fd/\ao P w K mg base CX0 kk f fd [pn] (si next ok H)/\Binds K fd [pn] []/\(∀ x,ok x->∀ y∈next x,ok y)/\(∀ x,ok x->x∈U)/\U.length<=1000 ∧
 ∀ d H' ks,RI next ok U xs H H' d ks->(∀ x,x∈ks.map (·.1)↔Rc next xs x)->Q (.ref d) H'
noncomputable abbrev nRe:List Str:=["starts","steps_from","came_by","place","front","reached","label","after"]
theorem qu:aJ nRe ["starts","steps_from"] (ah hV):=⟨rfl,rfl,rfl,by decide +kernel,rfl,by decide +kernel,by decide +kernel⟩
section
variable {P:Program}{w:World}{K:PySem.W.Frag}{mg:Str->Option Value}{base:Heap}
theorem BG{kk:Nat}{pn:Str}(F:Fun K "reach" "reach" hV f fd) (hli:mg "list" = none):ao P w K mg base CX0 (kk+1) f fd ["starts","steps_from"] (o9 P w K mg base kk pn):=by
 refine F.ok qu (fun vs H Q E h=>?_) (fun cdv A outer s H vs Q E1 hr h=>?_)
 ·obtain⟨c,g,fd,o,next,ok,U,xs,rfl,_⟩:=h;rfl
 ·obtain⟨c,g,fd,o,next,ok,U,xs,rfl,hc,hq,hg,ho,FF,BB,hnx,hU,hUl,k⟩:=h;have hu:=hr.units;refine⟨_,af (av nRe 2 nN)
   (af (bC PassesOwn.never rfl (bg (q_v 0)) (q_g nRe 3) (ag (lP hu (q_v 2) (q_v 3) et)))
   (af (av nRe 4 (q_t (yV rfl) hli (aa (q_v 2) ab)))
   (af (pz PassesOwn.never (ua (q_v 4))
    (af (av nRe 5 (bw ab))
    (af (bC PassesOwn.never rfl (bg (q_v 4)) (q_g nRe 3)
     (ag (bC PassesOwn.never rfl (bg (sP (q_v 1) FF BB ho hr (aa (q_v 3) ab))) (fq rfl (bJ (q_g nRe 6) (bJ (q_g nRe 7) eU)))
      (ag (bf (aG (A3 hu) (q_v 7) (q_v 2))
       (af (lP hu (q_v 2) (q_v 7) (cM (aa (q_v 3) (aa (q_v 6) ab))))
       (ag (bQ (eZ (q_v 5) (q_v 7))))) bj)))))
    (ag (av nRe 4 (q_v 5))))))
   (ag (aD (q_v 2)))))),?_⟩
  have z1:∀{n:Nat},n<=1000->n<=sizeLine:=fun h=>by rw[Fz];lia
  have z2:∀{n:Nat},n<=1000->n<sizeLine:=fun h=>by rw[Fz];lia
  have kl:∀ ks:List (Int×V),(kvI ks).length=ks.length:=fun ks=>by unfold kvI;rw[E3]
  refine fun d H1 hd h1 e1=>?_
  refine⟨_,e1.rd hc,bZ (xs:=xs.map V.int) (fun i σ H2=>∃(v3:Option V) (ks:List (Int×V)),σ=[some (.ref c),some (.ref g),some (.ref d),v3,none,none,none,none]/\RI next ok U xs H H2 d ks/\(∀ e∈ks,e.2=.non)/\∀ x∈xs.take i,x∈ks.map (·.1))
   ⟨_,[],rfl,⟨e1,hd,h1,(fun e he=>nomatch he),?_,(fun e he=>nomatch he),GW⟩,(fun e he=>nomatch he),fun x hx=>nomatch hx⟩ (fun i σ H2 _ hp=>?_) ?_ ?_⟩
  ·show 0+mis U []<=U.length
   rw[Nat.zero_add];exact List.countP_le_length
  ·obtain⟨_,_,_,r,_⟩:=hp;exact r.ext.rd hc
  ·rintro i x σ H2 hx ⟨v3,ks,rfl,r,hv,hj⟩;rw[E9,Fl]at hx;obtain⟨x,hp,rfl⟩:=hx;have hpm:=Fe hp;refine⟨_,r.dd,z2 (by rw[kl];exact r.len hUl),_,rfl,fun H4 h4 b4=>?_⟩
   have tk:∀ ks':List (Int×V),(∀ y∈ks.map (·.1),y∈ks'.map (·.1))->x∈ks'.map (·.1)->∀ y∈xs.take (i+1),y∈ks'.map (·.1):=fun ks' h1 h2 y hy=>by
    rw[Gb,hp]at hy;rcases Fs.mp hy with hy|hy
    ·exact h1 y (hj y hy)
    ·rw[Fb.mp hy];exact h2
   by_cases hin:x∈ks.map (·.1)
   ·rw[wI hin hv]at h4;exact⟨_,ks,rfl,r.move (fun b u h=>b4.up (fun z=>by rw[z,hd]at h;cases h) (r.ext.up h)) h4,hv,tk ks (fun _ h=>h) hin⟩
   ·rw[sj hin]at h4;refine⟨_,_,rfl,r.put hU hin (hq x hpm) (.base hpm) h4 b4,fun e he=>?_,tk _ (fun y hy=>?_) ?_⟩
    ·rcases Fs.mp he with he|he
     ·exact hv e he
     ·rw[Fb]at he;subst he;rfl
    ·rw[Fc];exact Gd _ hy
    ·rw[Fc];exact F0 _ (Fb.mpr rfl)
  ·rintro σ H2 ⟨v3,ks0,rfl,r0,hv,hj⟩;have hs0:∀ x∈xs,x∈ks0.map (·.1):=fun x hx=>hj x (by rw[E3,GD];exact hx)
   refine⟨_,r0.dd,fun l0 H3 hl0 h3 e3=>?_⟩
   have h3:H3 l0=some (.lst ((ks0.map (·.1)).map V.int)):=by
    rw[h3,lA,Fm];rfl
   have none_of:∀{H1:Hp} {a:Addr},Ext H H1->H1 a=none->H a=none:=fun {H1 a} e h=>by
    cases q:H a with
    | none=>rfl
    | some u=>rw[e.up q]at h;cases h
   refine⟨(fun m σ H4=>∃(v3 v5 v6 v7:Option V) (l:Addr) (ks:List (Int×V)) (fr:List Int),σ=[some (.ref c),some (.ref g),some (.ref d),v3,some (.ref l),v5,v6,v7]/\RI next ok U xs H H4 d ks/\H l=none/\H4 l=some (.lst (fr.map V.int)) ∧
     (∀ x∈fr,ok x/\x∈ks.map (·.1))/\(∀ x∈xs,x∈ks.map (·.1))/\(∀ x∈ks.map (·.1),x∉fr->∀ y∈next x,y∈ks.map (·.1))/\m=2*mis U (ks.map (·.1))+(if fr=[] then 0 else 1)),
    ⟨_,_,_,_,_,l0,ks0,_,rfl,r0.up e3,none_of r0.ext hl0,h3,?_,hs0,fun x hx hn=>absurd hx hn,rfl⟩,?_⟩
   ·intro x hx;obtain⟨e,he,rfl⟩:=E5.mp hx;exact⟨r0.okk e he,hx⟩
   ·rintro m σ H4 ⟨v3,v5,v6,v7,l,ks,fr,rfl,r,hl,h4,hfr,hst,hcl,rfl⟩;refine⟨_,.inl h4,aV (fun hA=>?_) (fun hA=>?_)⟩
    ·have hne:fr≠[]:=fun z=>by
      subst z;exact FC hA
     rw[if_neg hne];refine⟨_,fun _ _ z=>z,?_⟩
     refine⟨z1 (by show 0<=1000;decide),fun l2 H5 hl2 h5 e5=>?_⟩
     have hl2n:H l2=none:=none_of r.ext hl2;have nl:l≠l2:=aA h4 hl2;refine⟨_,.inl (e5.up h4),bZ (xs:=fr.map V.int) (fun i σ H6=>∃(v3 v6 v7:Option V) (ks':List (Int×V)) (re:List Int),σ=[some (.ref c),some (.ref g),some (.ref d),v3,some (.ref l),some (.ref l2),v6,v7]/\RI next ok U xs H H6 d ks'/\H6 l=some (.lst (fr.map V.int)) ∧
       H6 l2=some (.lst (re.map V.int))/\(∀ x∈re,ok x/\x∈ks'.map (·.1))/\(∀ x∈ks.map (·.1),x∈ks'.map (·.1))/\re.length+mis U (ks'.map (·.1))<=mis U (ks.map (·.1)) ∧
       (∀ x∈ks'.map (·.1),x∉re->x∉fr.drop i->∀ y∈next x,y∈ks'.map (·.1)))
      ⟨_,_,_,ks,[],rfl,r.up e5,e5.up h4,h5,(fun p hp=>nomatch hp),fun x h=>h,by show 0+_<=_;lia,fun x hx _ hn=>hcl x hx hn⟩ (fun i σ H6 _ hp=>?_) ?_ ?_⟩
     ·obtain⟨_,_,_,_,_,_,_,h6,_⟩:=hp;exact .inl h6
     ·rintro i x σ H6 hx ⟨w3,w6,w7,ks',re,rfl,r6,h6,h6l,hre,hsub,hms,hcl6⟩;rw[E9,Fl]at hx;obtain⟨p,hp,rfl⟩:=hx;have hpm:=Fe hp;obtain⟨okp,hpe⟩:=hfr p hpm;have rcp:Rc next xs p:=by
       obtain⟨e,he,ee⟩:=E5.mp hpe;exact ee▸r.rc e he
      have hpe':=hsub _ hpe;refine⟨rfl,r6.ext.up hg,r6.ext.up hg,p,rfl,r6.ext,okp,fun l3 H7 ss hl3 h7 s7 n7 e7=>?_⟩
      have nl3:l3≠l2:=(aA h6l hl3).symm;have hstn:∀ e∈ss,e.y∈next p:=fun e he=>n7▸FK he
      refine⟨_,.inl h7,bZ (xs:=ss.map fun e=>V.ref e.ap) (fun j σ H8=>∃(v6 v7:Option V) (ks2:List (Int×V)) (re2:List Int),σ=[some (.ref c),some (.ref g),some (.ref d),some (.int p),some (.ref l),some (.ref l2),v6,v7]/\RI next ok U xs H H8 d ks2/\H8 l=some (.lst (fr.map V.int)) ∧
        H8 l2=some (.lst (re2.map V.int))/\H8 l3=some (.lst (ss.map fun e=>V.ref e.ap))/\aQ H7 H8/\(∀ x∈re2,ok x/\x∈ks2.map (·.1))/\(∀ x∈ks'.map (·.1),x∈ks2.map (·.1))/\re2.length+mis U (ks2.map (·.1))<=mis U (ks.map (·.1)) ∧
        (∀ x∈ks2.map (·.1),x∉re2->x∉fr.drop i->∀ y∈next x,y∈ks2.map (·.1))/\(∀ e∈ss.take j,e.y∈ks2.map (·.1)))
       ⟨_,_,ks',re,rfl,r6.up e7,e7.up h6,e7.up h6l,h7,fun _ _ h=>h,hre,fun x h=>h,hms,hcl6,fun e he=>nomatch he⟩ (fun j σ H8 _ hp=>?_) ?_ ?_⟩
      ·obtain⟨_,_,_,_,_,_,_,_,h8,_⟩:=hp;exact .inl h8
      ·rintro j x σ H8 hx ⟨u6,u7,ks2,re2,rfl,r8,h8,h8l,h83,t8,hre2,hsub2,hms2,hcl8,hj8⟩;rw[E9,Fl]at hx;obtain⟨e,he,rfl⟩:=hx;have hem:=Fe he;have s2:=t8 _ _ (s7 e hem);have oke:=hnx _ okp _ (hstn e hem);have tk:∀ ks3:List (Int×V),(∀ y∈ks2.map (·.1),y∈ks3.map (·.1))->e.y∈ks3.map (·.1)->∀ e'∈ss.take (j+1),e'.y∈ks3.map (·.1):=fun ks3 h1 h2 e' he'=>by
        rw[Gb,he]at he';rcases Fs.mp he' with he'|he'
        ·exact h1 _ (hj8 e' he')
        ·rw[Fb.mp he'];exact h2
       refine⟨_,.inl s2,rfl,?_⟩;refine⟨_,.inl r8.dd,_,rfl,aV (fun hB=>?_) (fun hB=>?_)⟩
       ·have hB:e.y∉ks2.map (·.1):=by
         have hB:(!(aN (kvI ks2) (Sum.inl e.y)).isSome)=true:=hB;rw[pF]at hB;simpa using hB
        refine⟨z1 (by show 2<=1000;decide),fun t H9 ht h9 e9=>?_⟩
        have r9:=r8.up e9;refine⟨_,r9.dd,z2 (by rw[kl];exact r9.len hUl),_,rfl,fun H10 h10 b10=>?_⟩
        rw[sj hB]at h10;have r10:=r9.put hU hB oke (.step rcp (hstn e hem)) h10 b10;have nd:∀{b:Addr} {ys:List V},H9 b=some (.lst ys)->b≠d:=fun hb=>aX hb r9.dd fun w=>nomatch w
        have h10l:H10 l2=some (.lst (re2.map V.int)):=b10.up (nd (e9.up h8l)) (e9.up h8l);have rl:re2.length<=1000:=by
         have:mis U (ks.map (·.1))<=U.length:=List.countP_le_length
         lia
        refine⟨_,.inl h10l,_,h10l,by rw[E3];exact z2 rl,fun H11 h11 b11=>?_⟩
        have t9:aQ H8 H10:=aQ.trans (Ext.tup e9) (eM b10 r9.dd fun xs z=>nomatch z)
        have t11:aQ H10 H11:=eM b11 h10l fun xs z=>nomatch z
        have nd2:d≠l2:=aX r10.dd h10l fun w=>nomatch w
        have ex:∀ x:Int,x∈(ks2++[(e.y,V.ref t)]).map (·.1)↔x∈ks2.map (·.1)\/x=e.y:=fun x=>by
         rw[Fc,Fs];exact or_congr Iff.rfl Fb
        refine⟨_,_,ks2++[(e.y,V.ref t)],re2++[e.y],rfl,r10.move (fun b u h=>b11.up (fun z=>by rw[z,hl2n]at h;cases h) (r10.ext.up h)) (b11.up nd2 r10.dd),b11.up nl (b10.up (nd (e9.up h8)) (e9.up h8)),?_,b11.up nl3 (b10.up (nd (e9.up h83)) (e9.up h83)),aQ.trans t8 (aQ.trans t9 t11),?_,?_,?_,?_,tk _ (fun y hy=>(ex y).mpr (.inl hy)) ((ex _).mpr (.inr rfl))⟩
        ·rw[h11,Fc];rfl
        ·intro p' hp';rcases Fs.mp hp' with hp'|hp'
         ·obtain⟨a2,a3⟩:=hre2 p' hp';exact⟨a2,(ex _).mpr (.inl a3)⟩
         ·rw[Fb]at hp';subst hp';exact⟨oke,(ex _).mpr (.inr rfl)⟩
        ·exact fun x hx=>(ex x).mpr (.inl (hsub2 x hx))
        ·have:=gK hB U
         rw[if_pos (hU _ oke)]at this;rw[Fh,Fc];show re2.length+1+mis U (ks2.map (·.1)++[e.y])<=_
         lia
        ·intro x hx h1 h2 y hy;rw[Fs]at h1
         rcases(ex x).mp hx with hx|hx
         ·exact(ex y).mpr (.inl (hcl8 x hx (fun z=>h1 (.inl z)) h2 y hy))
         ·exact absurd (.inr (Fb.mpr hx)) h1
       ·have hB:e.y∈ks2.map (·.1):=by
         have hB:¬ (!(aN (kvI ks2) (Sum.inl e.y)).isSome)=true:=hB;rw[pF]at hB;simpa using hB
        exact⟨_,_,ks2,re2,rfl,r8,h8,h8l,h83,t8,hre2,hsub2,hms2,hcl8,tk ks2 (fun _ h=>h) hB⟩
      ·rintro σ H8 ⟨u6,u7,ks2,re2,rfl,r8,h8,h8l,h83,t8,hre2,hsub2,hms2,hcl8,hj8⟩;refine⟨_,_,_,ks2,re2,rfl,r8,h8,h8l,hre2,fun x hx=>hsub2 _ (hsub x hx),hms2,fun x hx h1 h2 y hy=>?_⟩
       by_cases q:x=p
       ·subst q;rw[<-n7]at hy;obtain⟨e,he,rfl⟩:=E5.mp hy;exact hj8 e (by rw[E3,GD];exact he)
       ·refine hcl8 x hx h1 (fun z=>h2 ?_) y hy
        obtain⟨hil,hie⟩:=Fp.mp hp;rw[Gr hil,hie]at z;rcases Fn.mp z with z|z
        ·exact absurd z q
        ·exact z
     ·rintro σ H6 ⟨w3,w6,w7,ks',re,rfl,r6,h6,h6l,hre,hsub,hms,hcl6⟩;refine⟨_,?_,_,_,_,_,l2,ks',re,rfl,r6,hl2n,h6l,hre,fun x hx=>hsub _ (hst x hx),fun x hx h1=>hcl6 x hx h1 (by rw[E3,List.drop_length];exact fun z=>nomatch z),rfl⟩
      cases re with
      | nil=>
       rw[if_pos rfl];simp only[GP]at hms;lia
      | cons p re=>
       rw[if_neg (by simp)]
       rw[Fy]at hms;lia
    ·have hnil:fr=[]:=by
      cases fr with
      | nil=>rfl
      | cons p r=>exact absurd rfl hA
     subst hnil;refine k d H4 ks r fun x=>⟨fun hx=>?_,fun hx=>Cc hst (fun x hx=>hcl x hx (fun z=>nomatch z)) hx⟩
     obtain⟨e,he,rfl⟩:=E5.mp hx;exact r.rc e he
end
end K
end
section
namespace SB
open PySem PySem.Spec PyProof.Rows L2
open PySem.W (CodeHd tabObj kla_obj kla_fn envX)
theorem zM{M:Model}{globals:Addr}{cl:List (Str×Addr)}{func:Option Addr}{code:Value}{builtins:Addr}{Q:Env->Shared->Prop}(hk:scope.kind=.function)(hx:scope.names.lookup x=some .cell)(hc:∀ n acc,cellsFrom n scope.names acc=(x,n)::acc)(h:∀ h',h'.Ns s.heap.objs.size (fun _=>none)->h'.IsCell (s.heap.objs.size+1) (some v)->(∀ b o,s.heap.get? b=some o->h'.get? b=some o)->Q (newEnv scope s.heap.objs.size globals ((x,s.heap.objs.size+1)::cl) qual func code none builtins) { s with heap:=h' }) :
  wpAny M A (newFunctionEnv scope globals cl [(x,v)] qual func code none builtins) Q E s:=by
 unfold newFunctionEnv;simp only[Option.isSome_none,Fo,if_false];refine E4 (wpAny_alloc ?_);refine E4 (wpAny_layCells _ (fun a k cs=>by cases e:k==NameKind.cell <;> simp [e]) _ cl _ _ ?_)
 have sz:(s.heap.push { cls:=.type "frame",data:=.dict #[] }).objs.size=s.heap.objs.size+1:=GG ..
 have ok:=cellsFrom_ok scope.names (s.heap.push { cls:=.type "frame",data:=.dict #[] }) (s.heap.objs.size+1) [] ⟨fun _ _ hm=>(nomatch hm),List.Pairwise.nil⟩ (by rw[sz];exact E7 _)
 rw[sz,hc]at ok;have at0:=(ok.empty x _ (Fd ..)).1;show wpAny M A _ _ _ { s with heap:=pushCells (s.heap.push { cls:=.type "frame",data:=.dict #[] }) scope.names }
 rw[show({ s with heap:=s.heap.push { cls:=.type "frame",data:=.dict #[] } }:Shared).heap.objs.size=s.heap.objs.size+1 from sz,hc]
 rw[List.forIn_cons];refine E4 (E4 (E4 (wpAny_storeName_cell (c:=s.heap.objs.size+1) (v₀:=none) hk hx (by rw[GC,beq_self_eq_true]) at0 fun h' c' sb=>E6 ?_)))
 dsimp only;rw[List.forIn_nil];refine E6 (E6 ?_);have kp:∀ b o,s.heap.get? b=some o->h'.get? b=some o:=fun b o e=>sb.extBut b o (FD (Nat.lt_succ_of_lt (Ft e))) (pushCells_keeps _ _ b o (E8 _ e))
 exact h h' (((Heap.Ns.new s.heap (.type "frame")).keeps (pushCells_keeps _ _)).sameBut sb (FD (G3 _))) c' kp
structure pf (x:Str)(Nf:List Str)(sc:Scope):Prop where
 kind:sc.kind=.function
 co:sc.isCoroutine=false
 gen:sc.isGenerator=false
 par:sc.names.lookup x=some .cell
 only:∀ y∈sc.names,y.2=.cell->y.1=x
 cells:∀ n acc,cellsFrom n sc.names acc=(x,n)::acc
section
variable {P:Program}{w:World}{K:PySem.W.Frag}{mg:Str->Option Value}{base:Heap}{x:Str}{Nf:List Str}{qual:Str}{scope:Scope}{f:Addr}{cd:Value}{cl:List (Str×Addr)}{A:Around}{outer:List Env}{s:Shared}{H:Hp}{u:Value}{v:V}{fvs:List V}
theorem xO(S:pf x Nf scope)(C:eR base cl scope Nf fvs)(hd:A.handled=none)(e0:dW P w K mg base A outer s H)(hfl:fvs.length=Nf.length)(r:RelV v u){tk:Nat}(hn:h'.Ns s.heap.objs.size (fun _=>none))(hcl:h'.IsCell (s.heap.objs.size+1) (some u))(hk:∀ b o,s.heap.get? b=some o->h'.get? b=some o) :
  Inv (fT P w K mg base (x::Nf) qual scope f cd ((x,s.heap.objs.size+1)::cl) A outer s H) [] (some v::fvs.map some) H { s with heap:=h',toks:=tk }:=by
 have noA:∀ b:Addr,b∉(fT P w K mg base (x::Nf) qual scope f cd ((x,s.heap.objs.size+1)::cl) A outer s H).ex:=fun b z=>absurd (show b∈([]:List Addr) from z) (by simp)
 have up:∀{c:Addr} {v:Option Value},base.IsCell c v->h'.IsCell c v:=fun⟨o,ho,hd⟩=>⟨o,hk _ _ (e0.bs _ _ ho).1,hd⟩
 have old:∀{y:Str} {c:Addr},cl.lookup y=some c->c<s.heap.objs.size:=fun {y c} h=>by
  obtain⟨v,o,ho,_⟩:=C.cell y c h;exact Ft (e0.bs _ _ ho).1
 have at_:∀{y:Str} {c:Addr},((x,s.heap.objs.size+1)::cl).lookup y=some c->(y=x/\c=s.heap.objs.size+1)\/(y≠x/\cl.lookup y=some c):=fun {y c} h=>by
  rw[GC]at h;cases e:y==x with
  | true=>rw[e]at h;cases h;exact .inl ⟨beq_iff_eq.mp e,rfl⟩
  | false=>rw[e]at h;exact .inr ⟨(fun z=>by rw[z,beq_self_eq_true]at e;cases e),h⟩
 have new_:((x,s.heap.objs.size+1)::cl).lookup x=some (s.heap.objs.size+1):=by rw[GC,beq_self_eq_true]
 have old_:∀{y:Str} {c:Addr},y≠x->cl.lookup y=some c->((x,s.heap.objs.size+1)::cl).lookup y=some c:=fun {y c} n h=>by
  rw[GC];cases e:y==x with
  | true=>exact absurd (beq_iff_eq.mp e) n
  | false=>exact h
 have nx:∀{y:Str},scope.names.lookup y=some .free->y≠x:=fun {y} h z=>by
  rw[z,S.par]at h;cases h
 refine⟨⟨e0.mod,S.kind,rfl,rfl,E7 _,fun y z c h1 h2=>?_,fun y hy=>?_,fun y c h _=>(by cases h),fun _=>hd,Around.frames_deeper e0.frames,.inr ⟨rfl,rfl⟩,fun b z=>absurd z (noA b),e0.bs,e0.bsz,fun b _ _=>noA b,fun b z=>absurd z (noA b),e0.cA,e0.frf⟩,
  rfl,e0.bare,Un.kept hk,⟨_,hn,fun i y v' h1 h2 h3=>?_⟩,fun y c h=>?_,e0.hok.fresh (E7 _),fun y c h=>?_,fun p hp=>absurd (show p∈([]:List (Addr×Obj)) from hp) (by simp),e0.hok.kept hk,?_⟩
 ·rcases at_ h1 with⟨e1,d1⟩|⟨n1,k1⟩
  ·rcases at_ h2 with⟨e2,d2⟩|⟨n2,k2⟩
   ·exact e1.trans e2.symm
   ·exact absurd (d1▸old k2) (Nat.not_lt.mpr (Nat.le_succ _))
  ·rcases at_ h2 with⟨e2,d2⟩|⟨n2,k2⟩
   ·exact absurd (d2▸old k1) (Nat.not_lt.mpr (Nat.le_succ _))
   ·exact C.inj y z c k1 k2
 ·have hy:scope.names.lookup y=some .cell\/scope.names.lookup y=some .free:=hy;rcases hy with hy|hy
  ·have:=S.only (y,.cell) (PySem.mem_of_lookup hy) rfl
   have:y=x:=this
   subst this;exact⟨_,new_⟩
  ·obtain⟨c,hc⟩:=C.has y hy;exact⟨c,old_ (nx hy) hc⟩
 ·have h1:(x::Nf)[i]? =some y:=h1;have h2:(some v::fvs.map some)[i]? =some (some v'):=h2;cases i with
  | zero=>
   cases h1
   cases h2
   exact⟨u,r,.inr ⟨.inl S.par,_,new_,hcl⟩⟩
  | succ i=>
   rw[List.getElem?_cons_succ]at h1 h2;rw[E9,Fl]at h2;obtain⟨v'',hv,e⟩:=h2;cases e
   obtain⟨hf,u',c,rv,hc,z⟩:=C.val _ y v' h1 hv;exact⟨u',rv,.inr ⟨.inr hf,c,old_ (nx hf) hc,up z⟩⟩
 ·rcases at_ h with⟨rfl,rfl⟩|⟨_,h⟩
  ·exact⟨_,hcl⟩
  ·obtain⟨v,z⟩:=C.cell y c h;exact⟨v,up z⟩
 ·rcases at_ h with⟨rfl,rfl⟩|⟨_,h⟩
  ·exact e0.hok.fresh (Nat.le_succ _)
  ·obtain⟨v,o,ho,_⟩:=C.cell y c h
   exact(e0.bs _ _ ho).2
 ·show(some v::fvs.map some).length=(x::Nf).length
  rw[Fy,Fy,E3,hfl]
theorem Af{k:Nat}{params:Arguments}{body:Expr}{ctv:Value}{c':Addr}{oc:Obj}{sp:Sp}(S:pf x Nf scope)(C:eR base cl scope Nf fvs)(hfl:fvs.length=Nf.length)(co:fE oc qual)(len:∀ vs H Q E,sp vs H Q E->vs.length=1)(hob:∀ vs H Q E,sp vs H Q E->H f=some (.frz (kla_obj "<lambda>" qual params body scope cl pm c' ctv) (.own f))/\H c'=some (.frz oc (.own c'))) (hbody:∀(A:Around) (outer:List Env) (s:Shared) (H:Hp) (v:V) (Q:VK) (E:XK),aE k (A.deeper (envX qual scope s.heap.objs.size f (.ref c') ((x,s.heap.objs.size+1)::cl)))->sp [v] H Q E →
   ∃ t,PE (fT P w K mg base (x::Nf) qual scope f (.ref c') ((x,s.heap.objs.size+1)::cl) A outer s H) body t/\t (some v::fvs.map some) H Q) :
  ao P w K mg base CX0 (k+1) f (kla_fn "<lambda>" qual params body scope cl pm (.ref c') ctv) [x] sp:=by
 refine⟨len,fun A outer s H args us vs Q E hr e0 hb r hsp=>?_⟩
 have hl:=len _ _ _ _ hsp;obtain⟨hf,hc⟩:=hob _ _ _ _ hsp;have lim:s.heap.NoLimit:=e0.mod.nolimit.keeps fun b o e=>(e0.bs b o e).1
 obtain⟨gf,_⟩:=e0.hok f _ hf;obtain⟨gc,_⟩:=e0.hok c' _ hc;obtain⟨vs',t',hd',hv'⟩:=co;obtain⟨v,rfl⟩:=List.length_eq_one_iff.mp hl;obtain⟨u,rfl,r1⟩:=vals1 r;refine PySem.W.kla_callFunE hr.depth gf rfl S.co S.gen rfl ⟨c',oc,vs',t',rfl,gc,hd',hv'⟩ (hb _ _ _ _ ?_);refine zM S.kind S.par S.cells fun h₁ hns hcl hk₁=>⟨lim.keeps hk₁,?_⟩
 show codeAny _ _ (.expr body (envX qual scope s.heap.objs.size f (.ref c') ((x,s.heap.objs.size+1)::cl))) _ _
 obtain⟨t,ht,hq⟩:=hbody A outer s H v Q E (hr.deeper _) hsp;have I:=xO (qual:=qual) (f:=f) (cd:=.ref c') (cl:=cl) (tk:=s.toks) S C hr.hd e0 hfl r1 hns hcl hk₁;refine PySem.W.kla_codeExpr (Gf (ht [] _ _ H _ I hq) (fun v s' hs=>?_) fun e s' hs=>hs.elim)
 obtain⟨v',H',J,rv,q⟩:=hs;exact⟨v',H',J.os,J.bare,J.base,J.hok,rv,q⟩
end
end SB
end
section
namespace SB
open PySem PySem.Spec PyProof.Rows L2
open PySem.W (CodeHd tabObj kla_obj kla_fn)
structure ai (T:Addr)(H H':Hp):Prop where
 toT:c9 H H'
 ot:∀{b u},b≠T->H b=some u->H' b=some u
theorem ai.trans(a:ai T H H1)(b:ai T H1 H2):ai T H H2:=⟨a.toT.trans b.toT,fun n h=>b.ot n (a.ot n h)⟩
theorem ai.up(a:ai T H H'){u:HO}(h:H b=some u)(n:∀ ps,u≠.tbl ps):H' b=some u:=a.toT.up h n
theorem ai.none(a:ai T H H1)(h:H1 b=.none):H b=.none:=a.toT.none h
theorem Ext.toP(a:Ext H H1):ai T H H1:=⟨Ext.toT a,fun _ h=>Ext.up a h⟩
theorem TabAt.keep{T':Addr}(t:TabAt pos qual T' H)(a:ai T H H1)(n:T'≠T):TabAt pos qual T' H1:=by
 rcases t with t|⟨c',oc,h1,h2,h3⟩
 ·exact .inl (a.ot n t)
 ·exact .inr ⟨c',oc,a.ot n h1,a.up h2 (fun ps z=>nomatch z),h3⟩
noncomputable def Ag (pos:Pos)(qual:Str)(params:Arguments)(body:Expr)(scope:Scope)(clos:List (Str×Addr))(pm:Value)(P:Addr):TE:=fun _ H Q=>TabAt pos qual P H ∧
 ∀ f c' ctv oc H',H f=none->ai P H H'->TabAt pos qual P H'->H' f=some (.frz (kla_obj "<lambda>" qual params body scope clos pm c' ctv) (.own f))->H' c'=some (.frz oc (.own c'))->fE oc qual->Q (.ref f) H'
section
variable {X:Cx}{pins:List (Addr×Obj)}{σ:L2.St}{H:Hp}{s:Shared}
theorem sL{P:Addr}(I:Inv X pins σ H s)(L:cC X.mg X.base c P){o:HO}(hP:H P=some o):s.heap.BuiltinsAt X.mg P:=by
 obtain⟨bm,o,a,b,d,e,r⟩:=L.bm;refine⟨bm,o,a,b,d,?_,I.bk _ _ e,r⟩;rintro rfl;rw[(I.bs _ _ e).2]at hP;cases hP
theorem lW{params:Arguments}{body:Expr}{P:Addr}(hcd:X.env.code=.ref c)(L:cC X.mg X.base c P)(hfr:∀ n k,(n,k)∈scope.names->k=.free->X.env.kindOf n=some .cell\/X.env.kindOf n=some .free)(hdef:defaultsOf params X.env=([],[])):PE X (.Lambda params body scope pos) (Ag pos (X.env.qual++"<lambda>") params body scope (ba X.env scope.names []) ((X.mg "__name__").getD .none) P):=by
 intro pins s σ H Q I h;obtain⟨T,k⟩:=h;have hcl:closureFor scope X.env=pure (ba X.env scope.names []):=mD fun n kk hm e=>I.ok.has n (hfr n kk hm e)
 have hgs:s.heap.Ns mainGlobals X.mg:=I.ok.mod.glob.keeps I.bk;have hgn:H mainGlobals=none:=by
  obtain⟨o,es,ep,e,_⟩:=I.ok.mod.glob
  exact(I.bs _ _ e).2
 refine PySem.W.kla_eval hdef ?_;rcases T with T|⟨c',oc,T,hc',co⟩
 ·have hP:s.heap.get? P=some (tabObj #[]):=I.hok P _ T;refine PySem.W.kla_makeFunction (c:=c) (P:=P) (ps:=#[]) (mg:=X.mg) hcl I.ok.glob hgs hcd (L.hd.keeps I.bk) hP trivial rfl (fun z=>by rw[z,T]at hgn;cases hgn) (sL I L T) fun c' ctv h' tk hx hge hlt hrec htb=>?_
  obtain⟨c2,oc,vs,t,e2,hoc,hd,hv⟩:=hrec;cases e2
  generalize hf:h'.objs.size=f at *;have hcn:H c'=none:=I.hok.fresh hge;have hszf:s.heap.objs.size<=f:=FL hge (GL hlt);have hfn:H f=none:=I.hok.fresh hszf;have hPn:∀{b:Addr},H b=none->b≠P:=fun hb z=>by rw[z,T]at hb;cases hb
  have hcP:c'≠P:=hPn hcn;have hfP:f≠P:=hPn hfn;have hcf:c'≠f:=FD hlt;have old:∀ b o,b≠P->s.heap.get? b=some o->(h'.push (kla_obj "<lambda>" (X.env.qual++"<lambda>") params body scope (ba X.env scope.names []) ((X.mg "__name__").getD .none) c' ctv)).get? b=some o:=fun b o hb e=>E8 _ (hx b o hb e)
  have gP:=E8 (kla_obj "<lambda>" (X.env.qual++"<lambda>") params body scope (ba X.env scope.names []) ((X.mg "__name__").getD .none) c' ctv) htb
  have gC:=E8 (kla_obj "<lambda>" (X.env.qual++"<lambda>") params body scope (ba X.env scope.names []) ((X.mg "__name__").getD .none) c' ctv) hoc
  have gF:(h'.push (kla_obj "<lambda>" (X.env.qual++"<lambda>") params body scope (ba X.env scope.names []) ((X.mg "__name__").getD .none) c' ctv)).get? f=some (kla_obj "<lambda>" (X.env.qual++"<lambda>") params body scope (ba X.env scope.names []) ((X.mg "__name__").getD .none) c' ctv):=by
   rw[<-hf];exact Fv _ rfl
  generalize (h'.push (kla_obj "<lambda>" (X.env.qual++"<lambda>") params body scope (ba X.env scope.names []) ((X.mg "__name__").getD .none) c' ctv))=h2 at *
  generalize hob:kla_obj "<lambda>" (X.env.qual++"<lambda>") params body scope (ba X.env scope.names []) ((X.mg "__name__").getD .none) c' ctv=ob at *
  obtain⟨H2,hH2⟩:∃ H2,H2=upd (upd (upd H P (.tbl #[rawInt pos.line,rawInt pos.col,.ref c'])) c' (.frz oc (.own c'))) f (.frz ob (.own f)):=⟨_,rfl⟩;have aF:H2 f=some (.frz ob (.own f)):=by rw[hH2];exact aY
  have aC:H2 c'=some (.frz oc (.own c')):=by rw[hH2,ar hcf];exact aY
  have aP:H2 P=some (.tbl #[rawInt pos.line,rawInt pos.col,.ref c']):=by rw[hH2,ar hfP.symm,ar hcP.symm];exact aY
  have aO:∀ b,b≠f->b≠c'->b≠P->H2 b=H b:=fun b h1 h2 h3=>by rw[hH2,ar h1,ar h2,ar h3]
  have aS:∀ b u,H b=some u->b≠P->H2 b=some u:=fun b u e hb=>by rw[aO b (aA e hfn) (aA e hcn) hb];exact e
  have lt:∀{b:Addr} {o:Obj},s.heap.get? b=some o->b≠f/\b≠c':=fun e=>⟨FD (FJ (Ft e) hszf),FD (FJ (Ft e) hge)⟩
  have un:Un X.fs [] H H2 s.heap h2:=by
   refine⟨fun b o e n _ _=>old b o (hPn n) e,fun b o e n _ _=>⟨o.slots,old b o (hPn n) e⟩,fun b o e n _=>?_,fun b o e _=>?_,fun b xs e=>aS b _ e ?_,fun b o u e=>aS b _ e ?_,fun b ps e=>?_⟩
   ·rw[aO b (lt e).1 (lt e).2 (hPn n)];exact n
   ·by_cases z:b=P
    ·subst z;exact⟨_,gP⟩
    ·exact⟨o,old b o z e⟩
   ·intro z;rw[z,T]at e;cases e
   ·intro z;rw[z,T]at e;cases e
   ·by_cases z:b=P
    ·subst z;rw[T]at e;cases e
     exact⟨#[rawInt pos.line,rawInt pos.col,.ref c'],aP⟩
    ·exact⟨#[],by rw[aS b _ e z,Array.append_empty]⟩
  have hok:HOk X.prog X.w H2 h2:=fun b u e=>by
   by_cases z1:b=f
   ·subst z1;rw[aF]at e;cases e;exact⟨gF,_,gF⟩
   ·by_cases z2:b=c'
    ·subst z2;rw[aC]at e;cases e;exact⟨gC,_,gC⟩
    ·by_cases z3:b=P
     ·subst z3;rw[aP]at e;cases e;exact gP
     ·rw[aO b z1 z2 z3]at e;refine(I.hok b u e).ef (fun d v hd' q=>old d v ?_ q) (fun d q=>aS d _ q fun z=>by rw[z,T]at q;cases q) fun d xs q=>aS d _ q fun z=>by rw[z,T]at q;cases q
      rcases hd' with rfl|hd'
      ·exact z3
      ·rintro rfl;rw[T]at hd';cases hd'
  exact⟨V.ref f,H2,I.un un hok,rfl,k f c' ctv oc H2 hfn ⟨⟨fun {b u} e n=>aS b u e fun z=>by subst z;rw[T]at e;exact n _ (Fw e).symm,fun {b ps} e=>by
    by_cases z:b=P
    ·subst z;exact⟨_,aP⟩
    ·exact⟨ps,aS b _ e z⟩⟩,fun {b u} hb e=>aS b u e hb⟩ (.inr ⟨c',oc,aP,aC,vs,t,hd,hv⟩) (hob▸aF) aC ⟨vs,t,hd,hv⟩⟩
 ·have hP:s.heap.get? P=some (tabObj #[rawInt pos.line,rawInt pos.col,.ref c']):=I.hok P _ T;refine PySem.W.kla_makeFunctionHit (c:=c) (P:=P) (ps:=#[rawInt pos.line,rawInt pos.col,.ref c']) (cv:=.ref c') (mg:=X.mg) hcl I.ok.glob hgs hcd (L.hd.keeps I.bk) hP ?_ ?_ (sL I L T) fun ctv h' tk hk hsz=>?_
  ·show True;trivial
  ·simp [codeAmong,rawInt]
  ·have I2:=I.laid (a:=h'.objs.size) (o:=.frz (kla_obj "<lambda>" (X.env.qual++"<lambda>") params body scope (ba X.env scope.names []) ((X.mg "__name__").getD .none) c' ctv) (.own h'.objs.size)) (t':=tk)
    (h':=h'.push (kla_obj "<lambda>" (X.env.qual++"<lambda>") params body scope (ba X.env scope.names []) ((X.mg "__name__").getD .none) c' ctv)) (fun b u e=>E8 _ (hk b u e)) hsz ⟨Fv _ rfl,_,Fv _ rfl⟩
   have hn:H h'.objs.size=none:=I.hok.fresh hsz;have x:Ext H (upd H h'.objs.size (.frz (kla_obj "<lambda>" (X.env.qual++"<lambda>") params body scope (ba X.env scope.names []) ((X.mg "__name__").getD .none) c' ctv) (.own h'.objs.size))):=fun b u e=>by rw[ar (aA e hn)];exact e
   exact⟨V.ref _,_,I2,rfl,k _ c' ctv oc _ hn (Ext.toP x) (TabAt.ext (.inr ⟨c',oc,T,hc',co⟩) x) aY (x.up hc') co⟩
end
end SB
end
section
namespace SB
open PySem PySem.Spec PyProof.Rows L2
open PySem.W (CodeHd tabObj)
end SB
end
section
set_option maxHeartbeats 4000000
namespace K
open PySem PySem.Spec PyProof.Rows L2 SB
open PySem.W (CodeHd tabObj kla_obj kla_fn envX)
noncomputable abbrev aK:Stmt:=top 20
theorem Cy{α β:Type}(f:α->Option β)(tv:β->List V){enc:α->V}{zs:List α}{J:It}{fr:List (Option Nat)}{g:TG}{Q:VK}(wk:Wk J H1 (zs.map enc))(hz:zs.length<sizeLine)(step:∀(i:Nat)(a:α)(H:Hp)(K:V->Hp->Prop)(S:Hp->Prop),zs[i]? =some a->Ext H1 H->(∀ b,f a=some b->New H (.tup (tv b)) K)->(f a=none->S H)->g (enc a) (frV fr σ) H fun σ' H3=>cQ fr σ σ'/\tif σ' H3 fun b H4=>if b=true then te σ' H4 K else S H4)(fin:∀ D H' (qs:List (β×Addr)),H1 D=none->H' D=some (.lst (rfs qs))->(∀ q∈qs,H' q.2=some (.tup (tv q.1)))->qs.map (·.1)=zs.filterMap f->Ext H1 H'->Q (.ref D) H')(hg:fo g:=by intro x σ H Q Q' k q;exact k _ _ q):fe fr σ g tif te J H1 Q:=by
 refine⟨?_⟩;intro D hD;refine⟨fun i m acc H=>m=zs.length-i/\i<=zs.length/\H D=some (.lst acc)/\Ext H1 H/\acc.length<=i/\∃ qs:List (β×Addr),acc=rfs qs/\(∀ q∈qs,H q.2=some (.tup (tv q.1)))/\qs.map (·.1)=(zs.take i).filterMap f,⟨zs.length,by simp,FG _,aY,cY hD,E7 _,[],rfl,(fun p hp=>nomatch hp),by simp⟩,?_⟩
 rintro i m acc H ⟨rfl,hi,hDa,ex,hl,qs,rfl,hat,hqs⟩;refine⟨hDa,by lia,?_⟩
 by_cases hlt:i<zs.length
 ·refine .inr ⟨wk.go i H ex (by rw[E3];exact hlt),fun x H2 y=>?_⟩
  obtain⟨rfl,hx⟩:=wk.yld i H x H2 ex (by rw[E3];exact hlt) y
  rw[E9,Fl]at hx;obtain⟨a,ha,rfl⟩:=hx;have tk:(zs.take (i+1)).filterMap f=(zs.take i).filterMap f++(f a).toList:=by
   rw[Gb,ha,List.filterMap_append];cases e:f a <;> simp [e]
  refine hg _ _ _ _ _ (fun σ' H3 q=>⟨q.1,?_⟩) (step i a _ (fun y H5=>H5 D=some (.lst (rfs qs))/\∃ m',m'<zs.length-i/\m'=zs.length-(i+1)/\i+1<=zs.length/\(upd H5 D (.lst (rfs qs++[y]))) D=some (.lst (rfs qs++[y]))/\Ext H1 (upd H5 D (.lst (rfs qs++[y])))/\(rfs qs++[y]).length<=i+1/\∃ qs':List (β×Addr),rfs qs++[y]=rfs qs'/\(∀ q∈qs',(upd H5 D (.lst (rfs qs++[y]))) q.2=some (.tup (tv q.1)))/\qs'.map (·.1)=(zs.take (i+1)).filterMap f)
   (fun H5=>∃ m',m'<zs.length-i/\m'=zs.length-(i+1)/\i+1<=zs.length/\H5 D=some (.lst (rfs qs))/\Ext H1 H5/\(rfs qs).length<=i+1/\∃ qs':List (β×Addr),rfs qs=rfs qs'/\(∀ q∈qs',H5 q.2=some (.tup (tv q.1)))/\qs'.map (·.1)=(zs.take (i+1)).filterMap f) ha ex (fun b hb p H5 hp h5 e5=>?_) (fun hn=>?_))
  ·exact q.2
  ·refine⟨e5.up hDa,_,(by lia:zs.length-(i+1)<zs.length-i),rfl,hlt,aY,fun b o hb=>?_,by rw[Fh];show _+1<=_;lia,qs++[(b,p)],?_,?_,?_⟩
   ·rw[ar (aA hb hD)];exact e5.up (ex.up hb)
   ·unfold rfs;rw[Fc];rfl
   ·intro z hz';have nd:∀{b:Addr} {ys:List V},H5 b=some (.tup ys)->b≠D:=fun hb=>aX hb (e5.up hDa) (fun w=>nomatch w)
    rcases Fs.mp hz' with h|h
    ·have:=e5.up (hat z h)
     rw[ar (nd this)];exact this
    ·rw[Fb]at h;subst h;rw[ar (nd h5)];exact h5
   ·rw[Fc,hqs,tk,hb];rfl
  ·exact⟨_,(by lia:zs.length-(i+1)<zs.length-i),rfl,hlt,hDa,ex,by lia,qs,rfl,hat,by rw[hqs,tk,hn];simp⟩
 ·have e:i=zs.length:=by lia
  subst e;refine .inl ⟨by have:=wk.stop H ex;rw[E3]at this;exact this,fin D H qs hD hDa hat (by rw[hqs,GD]) ex⟩
noncomputable def rS:List V->Hp->VK->Prop:=fun xs H Q=>match xs with
 | [.ref p]=>∃ ys,RdL H p ys/\New H (.tup ys) Q
 | _=>False
theorem yp:aH X (.type "tuple") rS:=aH.weak yq fun xs H Q h=>by
 unfold rS at h
 split at h
 ·obtain⟨ys,hy,q⟩:=h;exact⟨_,ys,rfl,.inl ⟨hy.sq,fun l hl=>q.at hl⟩⟩
 ·exact h.elim
noncomputable def kY (s:Stmt):Expr:=match cy s with
 | [_,.Assign _ (.Call _ [_,l] _ _) _,_]=>l
 | _=>.Name "" ⟨0,0,0,0⟩
noncomputable def uv (s:Stmt):Arguments:=match kY s with | .Lambda a _ _ _=>a|_=>cR (.Pass ⟨0,0,0,0⟩)
noncomputable def uF (s:Stmt):Expr:=match kY s with | .Lambda _ b _ _=>b|_=>.Name "" ⟨0,0,0,0⟩
noncomputable def fz (s:Stmt):Scope:=match kY s with | .Lambda _ _ c _=>c|_=>ah (.Pass ⟨0,0,0,0⟩)
noncomputable def cm (s:Stmt):Pos:=match kY s with | .Lambda _ _ _ p=>p|_=>⟨0,0,0,0⟩
noncomputable abbrev lwQ:Str:=(("with_unseen":Str)++(".<locals>.":Str))++("<lambda>":Str)
noncomputable def kC (M:aj):List Mv:=M.mv.filter fun m=>decide (aT M.sg m.2.1=none)
noncomputable def dN (M:aj)(r:Int):List Int:=((kC M).filter fun m=>decide (m.1=r)).map fun m=>m.2.2
noncomputable def okI (n:Int)(r:Int):Prop:=0<=r/\r<n
noncomputable def UI (n:Int):List Int:=(List.range n.toNat).map fun(j:Nat)=>(j:Int)
theorem mj(h:okI n r):r∈UI n:=by
 obtain⟨h1,h2⟩:=h;exact E5.mpr ⟨r.toNat,FT.mpr (by lia),by lia⟩
theorem qo{M:aj}(hm:∀ m∈M.mv,bz n m):∀ y∈dN M r,okI n y:=fun y hy=>by
 obtain⟨m,hm',rfl⟩:=E5.mp hy
 have:=hm m (FH.mp (FH.mp hm').1).1
 exact this.2.2
section
variable {P:Program}{w:World}{K:PySem.W.Frag}{mg:Str->Option Value}{base:Heap}
theorem CI:pf "room" ["unseen"] (fz aK):=⟨rfl,rfl,rfl,by decide +kernel,by decide +kernel,fun _ _=>rfl⟩
noncomputable abbrev nLw:List Str:=["room","unseen"]
theorem zH{c':Addr}{oc:Obj}{cl:List (Str×Addr)}{ctv:Value}{H0:Hp}{M:aj}{us:List (Mv×Addr)}(Cl:eR base cl (fz aK) ["unseen"] [.ref c]) (co:fE oc lwQ) (hf:H0 f=some (.frz (kla_obj "<lambda>" lwQ (uv aK) (uF aK) (fz aK) cl pm c' ctv) (.own f))) (hc':H0 c'=some (.frz oc (.own c'))) (hc:H0 c=some (.lst (refs us))) (ht:cE H0 us) (hus:us.map (·.1)=kC M) (hul:us.length<=100) :
  ao P w K mg base CX0 1 f (kla_fn "<lambda>" lwQ (uv aK) (uF aK) (fz aK) cl pm (.ref c') ctv) ["room"] (si (dN M) (okI n) H0):=by
 refine Af (k:=0) CI Cl rfl co (fun vs H Q E h=>?_) (fun vs H Q E h=>?_) (fun A outer s H v Q E hr h=>?_)
 ·obtain⟨x,rfl,_⟩:=h;rfl
 ·obtain⟨x,rfl,ext,_⟩:=h;exact⟨ext.up hf,ext.up hc'⟩
 ·obtain⟨x,e,ext,okx,k⟩:=h;cases e
  refine⟨_,ij nLw (fz aK) ["move","room"] [none,some 0] rfl (bg (q_v 1)) (fun _ _ _ _=>q_g ["move","room"] 0) (fun _ _ _ _=>aG cP (aq aI (q_v 0) ae (fun _ _=>rfl)) (q_v 1)) (fun _ _ _ _=>cM (aa (q_v 0) (aa (aq aI (q_v 0) ae (fun _ _=>rfl)) ab))),?_⟩
  have z0:∀{n:Nat},n<=1000->n<sizeLine:=fun h=>by rw[Fz];lia
  have z1:∀{n:Nat},n<=1000->n<=sizeLine:=fun h=>by rw[Fz];lia
  refine⟨_,.inl (ext.up hc),Cy (zs:=us) (enc:=fun p:Mv×Addr=>V.ref p.2) (fun p=>if p.1.1=x then some p else none) (fun p=>[V.ref p.2,V.int p.1.2.2]) (dM (.inl (ext.up hc))) (z0 (by lia)) (fun i p H1 Kk S hp ex kn ks=>?_) fun D H' qs hD hD' hq eq ex=>?_⟩
  ·have tp:=ex.up (ext.up (ht p (Fe hp)));refine⟨bY rfl,_,.inl tp,_,rfl,rfl,aV (fun hA=>?_) (fun hA=>?_)⟩
   ·have hA:decide (V.int p.1.1=V.int x)=true:=hA;have e:p.1.1=x:=by have:=FA hA;injection this
    refine⟨_,.inl tp,_,rfl,z1 (by show 2<=1000;decide),?_⟩
    exact kn p (by rw[if_pos e])
   ·have hA:¬ decide (V.int p.1.1=V.int x)=true:=hA;refine ks (if_neg fun z=>hA ?_)
    rw[z];exact Fq rfl
  ·refine k D H' (qs.map fun q=>⟨.ref q.1.2,q.1.1.2.2,q.2⟩) hD (by rw[hD',Fm];rfl) (fun e he=>?_) ?_ ex
   ·obtain⟨q,hq',rfl⟩:=E5.mp he;exact hq q hq'
   ·rw[Fm];show qs.map ((fun p:Mv×Addr=>p.1.2.2)∘(·.1))=dN M x
    rw[<-Fm,eq];unfold dN;rw[<-hus];clear eq hq hD' k hus ht hc hul;induction us with
    | nil=>rfl
    | cons a r ih=>
     rw[Fi]
     by_cases e:a.1.1=x
     ·simp only[FN,List.filter_cons,e,if_true,decide_true,Fi,ih]
     ·simp only[FN,List.filter_cons,e,if_false,decide_false,ih];rfl
theorem pZ:∀ y∈(fz aK).names,y.2=.free->(ah aK).names.lookup y.1=some .cell\/(ah aK).names.lookup y.1=some .free:=by decide +kernel
theorem fJ{M:aj}(m:aZ C H p M)(x:c9 H H'):aZ C H' p M:=by
 obtain⟨dx,l1,l2,d,l3,ps,m⟩:=m;exact⟨dx,l1,l2,d,l3,ps,x.up m.ob (fun _ z=>nomatch z),x.up m.st (fun _ z=>nomatch z),x.up m.mv (fun _ z=>nomatch z),fun q hq=>x.up (m.tup q hq) (fun _ z=>nomatch z),m.pm,x.up m.sg (fun _ z=>nomatch z),x.up m.fl (fun _ z=>nomatch z)⟩
theorem dE(r:RdL H a xs)(x:c9 H H'):RdL H' a xs:=by
 rcases r with r|⟨o,r⟩
 ·exact .inl (x.up r fun _ z=>nomatch z)
 ·exact .inr ⟨o,x.up r fun _ z=>nomatch z⟩
theorem Fun.okC{st:Stmt}{k:Nat}{sp:Sp}(F:Fun K x qual st f fd)(S:aJ N ps (ah st))(len:∀ vs H Q E,sp vs H Q E->vs.length=ps.length)(hbody:∀(A:Around)(outer:List Env)(s:Shared)(H:Hp)(vs:List V)(Q:VK)(E:XK),aE k (A.deeper (envOfC qual (ah st) s.heap.objs.size f fd.code))->sp vs H Q E →
   ∃ t,PSs (fM CX0 P w K mg base N qual (ah st) f fd.code A outer s H E).nox (cy st) t/\t { nx:=fun _ H'=>Q .non H',rt:=Q } (start N vs) H):ao P w K mg base CX0 (k+1) f fd ps sp:=by
 obtain⟨oc,od,kV,doc,pm,an,cdv,ct,osl,rfl,lk,hcd⟩:=F.ex;refine ql lk hcd S len fun A outer s H vs Q E hr hsp=>?_
 obtain⟨t,h,q⟩:=hbody A outer s H vs Q E hr hsp;exact⟨t,h.nox,q⟩
noncomputable def kA (C T:Addr):Sp:=fun vs H Q _=>∃(p c:Addr)(M:aj)(xs:List Int)(n:Int),vs=[.ref p,.ref c]/\aZ C H p M/\M.mv.length<=100/\RdL H c (xs.map V.int)/\n<=8/\(∀ r∈xs,okI n r)/\(∀ m∈M.mv,bz n m)/\TabAt (cm aK) lwQ T H ∧
 ∀ t H' rs,H t=none->H' t=some (.tup ((aB rs).map V.int))->(∀ r,r∈rs↔Rc (dN M) xs r)->ai T H H'->TabAt (cm aK) lwQ T H'->Q (.ref t) H'
noncomputable abbrev nWu:List Str:=["machine","rooms","unseen","found"]
theorem vL:aJ nWu ["machine","rooms"] (ah aK):=⟨rfl,rfl,rfl,by decide +kernel,rfl,by decide +kernel,by decide +kernel⟩
theorem zw{c0:Addr}(F:Fun K "with_unseen" "with_unseen" aK f fd) (hcd:fd.code=.ref c0) (LB:cC mg base c0 T) (TC:cO K mg C) (htu:mg "tuple" = none) (M2:cu P w K mg base 1 C "moves" ["self"] (iQ C)) (M3:cu P w K mg base 1 C "sign_of" ["self","deed"] (ik C)) (R:∀ base',K.In base'->base'.Ns mainGlobals mg->Known P w K mg base' 2 "reach" ["starts","steps_from"] (o9 P w K mg base' 1 "room")) (kb:K.In base) (nb:base.Ns mainGlobals mg):ao P w K mg base CX0 3 f fd ["machine","rooms"] (kA C T):=by
 refine Fun.okC F vL (fun vs H Q E h=>?_) (fun A outer s H vs Q E hr h=>?_)
 ·obtain⟨p,c,M,xs,n,rfl,_⟩:=h;rfl
 ·obtain⟨p,c,M,xs,n,rfl,mat,hml,hc,hn,hxs,hmo,tab,k⟩:=h;have hr1:aE 1 _:=hr.mono (by decide)
  refine⟨_,af (av nWu 2 (ij nWu (ah aK) ["move","machine"] [none,some 0] rfl (bg (jb (q_v 0) TC.cl M2 hr1)) (fun _ _ _ _=>q_g ["move","machine"] 0) (fun _ _ _ _=>aG pL (kU (q_v 1) TC.cl M3 hr1 (aa (aq aI (q_v 0) ae (fun _ _=>rfl)) ab)) et) (fun _ _ _ _=>q_v 0)))
   (af (av nWu 3 (pq R hr (fun _=>rfl) (aa (q_v 1) (aa (lW hcd LB (fun x kk hm=>pZ (x,kk) hm) rfl) ab))))
   (ag (aD (q_t yp htu (aa (q_b (vo rfl) TC.sorted (aa (q_v 3) ab)) ab))))),?_⟩
  have z0:∀{n:Nat},n<=1000->n<sizeLine:=fun h=>by rw[Fz];lia
  obtain⟨dx,l1,l2,dd,l3,ms,mi⟩:=mat;have mat:aZ C H p M:=⟨dx,l1,l2,dd,l3,ms,mi⟩;refine⟨_,_,mi.ob,rfl,p,M,rfl,mat,fun a1 H1 ps ha1 h1 t1 pm1 e1=>⟨_,.inl h1,?_⟩⟩
  have lps:ps.length<=100:=by rw[<-pm1,E3]at hml;exact hml
  refine eE (zs:=ps) (enc:=fun p:Mv×Addr=>V.ref p.2) (fun p=>if decide (aT M.sg p.1.2.1=none)=true then some (V.ref p.2) else none) (dM (.inl h1)) (z0 (by lia)) (fun i q H2 Kk hq ex kk=>?_) ?_
  ·have tp:=ex.up (t1 q (Fe hq));have mt:=mat.ext (e1.trans ex);obtain⟨dx',l1',l2',dd',l3',ms',mi'⟩:=mt;refine⟨bY rfl,_,_,mi'.ob,rfl,_,.inl tp,_,rfl,p,M,q.1.2.1,rfl,⟨dx',l1',l2',dd',l3',ms',mi'⟩,?_⟩
   have:=kk H2 Ext.refl
   cases e:aT M.sg q.1.2.1 with
   | none=>
    rw[if_pos (Fq e)]at this;exact this
   | some y=>
    rw[if_neg (by rw[FI (by rw[e];exact fun z=>nomatch z)];decide)]at this
    exact this
  intro u1 H2 hu1 h2 e2;have eu:ps.filterMap (fun p:Mv×Addr=>if decide (aT M.sg p.1.2.1=none)=true then some (V.ref p.2) else none)=refs (ps.filter fun p=>decide (aT M.sg p.1.2.1=none)):=by
   clear h2 lps pm1 t1 h1;induction ps with
   | nil=>rfl
   | cons a r ih=>
    by_cases e:decide (aT M.sg a.1.2.1=none)=true
    ·simp only[FN,List.filter_cons,e,if_true,ih];rfl
    ·simp only[FN,List.filter_cons,e,ih];rfl
  have h2:H2 u1=some (.lst (refs (ps.filter fun p=>decide (aT M.sg p.1.2.1=none)))):=by rw[<-eu];exact h2
  have hus:(ps.filter fun p=>decide (aT M.sg p.1.2.1=none)).map (·.1)=kC M:=by
   unfold kC;rw[<-pm1,List.filter_map];rfl
  have hul:(ps.filter fun p=>decide (aT M.sg p.1.2.1=none)).length<=100:=FL (List.length_filter_le _ _) lps
  have htu':cE H2 (ps.filter fun p=>decide (aT M.sg p.1.2.1=none)):=fun q hq=>e2.up (t1 q (FH.mp hq).1)
  generalize (ps.filter fun p=>decide (aT M.sg p.1.2.1=none))=us at h2 hus hul htu'
  have e12:=e1.trans e2;refine⟨tab.ext e12,fun g c' ctv oc H3 hg x3 tab3 hg3 hc3 co3 base' rb=>?_⟩
  refine⟨c,g,_,_,dN M,okI n,UI n,xs,rfl,dE (e12.rd hc) x3.toT,hxs,hg3,rfl,
   zH (rb.clos (fz aK) ["unseen"] [.ref u1] (fun x kk hm=>pZ (x,kk) hm) ?_) co3 hg3 hc3 (x3.up h2 fun _ z=>nomatch z) (fun q hq=>x3.up (htu' q hq) fun _ z=>nomatch z) hus hul,
   Binds.all (fun us hl=>match us,hl with | [_],_=>rfl),fun x _=>qo hmo,fun x hx=>mj hx,?_,fun d H4 ks r hx=>?_⟩
  ·intro i x v h1 h2
   match i with
   | 0=>
    cases h1;cases h2
    exact⟨rfl,2,rfl,rfl⟩
   | i+1=>simp at h1
  ·unfold UI;rw[E3,F2];lia
  have lks:ks.length<=8:=by
   have:=r.bd
   have hU:(UI n).length<=8:=by unfold UI;rw[E3,F2];lia
   lia
  refine⟨kvI ks,r.dd,true,⟨?_,fun k hk=>?_,?_⟩,fun sl H5 hsl h5 e5=>?_⟩
  ·rw[lA];exact List.Pairwise.map _ (fun a b h z=>h (Sum.inl.inj z)) r.nd
  ·rw[lA]at hk;exact iC _ k hk
  ·unfold kvI;rw[E3];lia
  rw[lA,m9]at h5;refine⟨_,.inl h5,fun t H6 ht h6 e6=>?_⟩
  have x34:ai T H H4:=ai.trans (ai.trans (Ext.toP e12) x3) (Ext.toP r.ext);have x6:ai T H H6:=ai.trans x34 (Ext.toP (e5.trans e6));refine k t H6 (ks.map (·.1)) (ai.none x34 (e5.free ht)) h6 hx x6 ((tab3.ext r.ext).ext (e5.trans e6))
end
end K
end
section
namespace SB
open PySem PySem.Spec PyProof.Rows L2
section
variable {X:Cx}{o e f:Expr}{apos cpos:Pos}{td ty tx:TE}
noncomputable def Cg (td ty tx:TE):TE:=fun σ H Q=>td σ H fun x H1=>match x with
 | .ref p=>∃ kvs,RdD H1 p kvs/\ty σ H1 fun y H2=>tx σ H2 fun z H3=>∃ kvs,H3 p=some (.dK kvs)/\bB (kvs.length<sizeLine)/\∃ k,keyOf y=some k/\(∀ v,aN kvs k=some v->Q v H3)/\(aN kvs k=none->dz H3 p (.dK (putK kvs k z)) (Q z))
 | _=>False
theorem xP(ho:PE X o td)(he:PE X e ty)(hf:PE X f tx)(m:M2 X o "setdefault" apos e f cpos):PE X (.Call (.Attribute o "setdefault" apos) [e,f] [] cpos) (Cg td ty tx):=by
 intro pins s σ H Q I h;refine wpAny_Call_method m.base m.few m.line PySem.F.plainAttrs_dict PySem.F.slot_dict_setdefault PySem.F.type_dict_setdefault (thn (ho pins s σ H _ I h) fun u s1 hZ=>?_)
 obtain⟨x,H1,I1,rx,q⟩:=hZ
 try dsimp only at q
 split at q
 ·rename_i a
  obtain rfl:u=Value.ref a:=rx;obtain⟨kvs1,d1,q1⟩:=q;obtain⟨t1,t2,hd⟩:=L2.iO I1 (.inl ⟨kvs1,d1⟩);refine⟨t1,t2,?_⟩;rw[m.trees];refine Calls.callWith_builtin rfl (Calls.evalArgs_plain (Calls.spliced_cons (thn (he pins s1 σ H1 _ I1 q1) fun iv s2 ⟨y,H2,I2,ry,q2⟩=>
   Calls.spliced_cons (thn (hf pins s2 σ H2 _ I2 q2) fun fv s3 ⟨z,H3,I3,rz,q3⟩=>Calls.spliced_nil ?_))))
  obtain⟨kvs,ha,hz,k,hk,qs,qn⟩:=q3;obtain rfl:=gT hk;obtain⟨_,hd3,vs,rel,dd⟩:=(show au X.prog X.w H3 s3.heap a (.dK kvs) from I3.hok a _ ha)
  have hz:kvs.length<sizeLine:=hz;have hl:kvs.length=vs.length:=Paired.length rel;refine call_meetsIn PySem.F.slot_dict_setdefault dd.typeIs PySem.F.entry_dict_setdefault (PySem.F.args_dict_setdefault_3 _ _ _) (PySem.kt_meets_setdefault (az X.prog X.w) a (fR ry) hd3 fv) ⟨vs,dd,by lia,fun v hv=>?_,fun hn h' dd' hs=>?_⟩
  ·have:=rel.val k
   rw[hv]at this;cases e:aN kvs k with
   | none=>rw[e]at this;exact this.elim
   | some v'=>
    rw[e]at this;exact⟨v',H3,I3.tok _,this,qs v' e⟩
  ·have:=rel.val k
   rw[hn]at this;cases e:aN kvs k with
   | some v'=>rw[e]at this;exact this.elim
   | none=>
    have he':∃ q,h'.get? a=some q:=let ⟨q,_,_,hq,_⟩:=dd';⟨q,hq⟩
    exact⟨z,_,kQ I3 (by rw[ha];exact True.intro) hs he' (nj (by have:=mP kvs k z;lia) hd3 (rel.put k rz) dd'),rz,(qn e).at⟩
 ·exact q.elim
noncomputable def sF (neg:Bool):R2:=fun x y H Q=>match y with
 | .ref p=>∃ xs,RdT H p xs/\bB (bP x=true/\xs.all bP=true)/\Q (.bl (if neg then !inV x xs else inV x xs)) H
 | _=>False
theorem wF:OpR X (compareOp .In) (sF false):=OpR.weak uw fun x y H Q h=>by
 unfold sF at h
 split at h
 ·obtain⟨xs,hx,⟨h1,h2⟩,q⟩:=h;exact⟨_,xs,rfl,.inr hx.sq,h1,h2,q⟩
 ·exact h.elim
end
end SB
end
section
set_option maxHeartbeats 4000000
namespace K
open PySem PySem.Spec PyProof.Rows L2 SB
noncomputable abbrev sSF:Stmt:=top 21
theorem AR{α:Type}{enc:α->V}{zs:List α}{Kf:PySem.W.Frag}{fr:List (Option Nat)}{g:TG}{Q:VK}{ps:Pos}{qn:Str}(R:α->Addr->Hp->Prop)(up:∀ x p H H',aQ H H'->R x p H->R x p H')(hr:RdL H1 a (zs.map enc))(tab:TabAt ps qn T H1)(hz:zs.length<sizeLine)(step:∀(i:Nat)(x:α)(H:Hp)(k:V->Hp->Prop),zs[i]? =some x->ai T H1 H->TabAt ps qn T H->(∀ p H',R x p H'->ai T H H'->TabAt ps qn T H'->k (.ref p) H')->g (enc x) (frV fr σ) H fun σ' H3=>cQ fr σ σ'/\te σ' H3 k)(fin:∀ D H' (qs:List (α×Addr)),H1 D=none->H' D=some (.lst (rfs qs))->(∀ q∈qs,R q.1 q.2 H')->qs.map (·.1)=zs->ai T H1 H'->TabAt ps qn T H'->Q (.ref D) H')(hg:fo g:=by intro x σ H Q Q' k q;exact k _ _ q):fe fr σ g (fun _ H Q=>Q true H) te (Itl Kf a) H1 Q:=by
 have rdT:∀{H:Hp},ai T H1 H->RdL H a (zs.map enc):=fun {H} x=>dE hr x.toT
 have tabU:∀{H:Hp} {D:Addr} {xs ys:List V},TabAt ps qn T H->H D=some (.lst xs)->TabAt ps qn T (upd H D (.lst ys)):=fun {H D xs ys} t hD=>by
  rcases t with t|⟨c',oc,h1,h2,h3⟩
  ·exact .inl (by rw[ar (aX t hD fun z=>nomatch z)];exact t)
  ·exact .inr ⟨c',oc,by rw[ar (aX h1 hD fun z=>nomatch z)];exact h1,by rw[ar (aX h2 hD fun z=>nomatch z)];exact h2,h3⟩
 refine⟨fun D hD=>?_⟩
 have xu:∀{H:Hp} {o:HO},ai T H1 H->ai T H1 (upd H D o):=fun {H o} x=>⟨⟨fun {b u} hb n=>by rw[ar (aA hb hD)];exact x.up hb n,fun {b p} hb=>by rw[ar (aA hb hD)];exact x.toT.tb hb⟩,fun {b u} n hb=>by rw[ar (aA hb hD)];exact x.ot n hb⟩
 refine⟨fun i m acc H=>m=zs.length-i/\i<=zs.length/\H D=some (.lst acc)/\ai T H1 H/\TabAt ps qn T H/\∃ qs:List (α×Addr),acc=rfs qs/\(∀ q∈qs,R q.1 q.2 H)/\qs.map (·.1)=zs.take i,⟨zs.length,by simp,FG _,aY,xu (Ext.toP Ext.refl),tab.ext (cY hD),[],rfl,(fun q hq=>nomatch hq),by simp⟩,?_⟩
 rintro i m acc H ⟨rfl,hi,hDa,ex,tb,qs,rfl,hR,hqs⟩;have hl:(rfs qs).length=i:=by
  unfold rfs;rw[E3,<-E3 (f:=fun x:α×Addr=>x.1),hqs,F3]
  lia
 refine⟨hDa,by lia,?_⟩
 by_cases hlt:i<zs.length
 ·have hx:(zs.map enc)[i]? =some (enc zs[i]):=by rw[E9,Fg hlt];rfl
  refine .inr ⟨⟨zs.map enc,enc zs[i],(rdT ex).sq,hx⟩,fun x H2 y=>?_⟩
  obtain⟨rfl,y2⟩:=y;have ex2:=y2 (zs.map enc) (rdT ex).sq;rw[hx]at ex2;cases ex2
  refine hg _ _ _ _ _ (fun σ' H3 q=>⟨q.1,?_⟩) (step i zs[i] _ (fun y H5=>H5 D=some (.lst (rfs qs))/\∃ m',m'<zs.length-i/\m'=zs.length-(i+1)/\i+1<=zs.length/\(upd H5 D (.lst (rfs qs++[y]))) D=some (.lst (rfs qs++[y]))/\ai T H1 (upd H5 D (.lst (rfs qs++[y])))/\TabAt ps qn T (upd H5 D (.lst (rfs qs++[y])))/\∃ qs':List (α×Addr),rfs qs++[y]=rfs qs'/\(∀ q∈qs',R q.1 q.2 (upd H5 D (.lst (rfs qs++[y]))))/\qs'.map (·.1)=zs.take (i+1)) (Fg hlt) ex tb fun p H5 r5 x5 t5=>?_)
  ·show if true=true then _ else _
   rw[if_pos rfl];exact q.2
  ·have hD5:=x5.up hDa fun _ z=>nomatch z
   have tu:aQ H5 (upd H5 D (.lst (rfs qs++[V.ref p]))):=fun b ys hb=>by rw[ar (aX hb hD5 fun z=>nomatch z)];exact hb
   have t0:aQ H2 H5:=fun b ys hb=>x5.up hb fun _ z=>nomatch z
   refine⟨hD5,_,(by lia:zs.length-(i+1)<zs.length-i),rfl,hlt,aY,xu (ai.trans ex x5),tabU t5 hD5,qs++[(zs[i],p)],?_,fun q hq=>?_,?_⟩
   ·unfold rfs;rw[Fc];rfl
   ·rcases Fs.mp hq with hq|hq
    ·exact up _ _ _ _ tu (up _ _ _ _ t0 (hR q hq))
    ·rw[Fb]at hq;subst hq;exact up _ _ _ _ tu r5
   ·rw[Fc,hqs,Gb,Fg hlt];rfl
 ·have e:i=zs.length:=by lia
  subst e;exact .inl ⟨⟨zs.map enc,(rdT ex).sq,by rw[E3];exact E7 _⟩,fin D H qs hD hDa hR (by rw[hqs,GD]) ex tb⟩
noncomputable def cn (M:aj)(rs:List Int)(z:Str)(m:Mv):Bool:=decide (aT M.sg m.2.1=some z)&&decide (m.1∈rs)
noncomputable def aM (M:aj)(rs:List Int)(ms:List Mv)(z:Str):List Int:=(ms.filter (cn M rs z)).map fun m=>m.2.2
noncomputable def kvS (es:List (Str×Addr)):List (L2.Key×V):=es.map fun p=>(Sum.inr p.1,V.ref p.2)
theorem mC(es:List (Str×Addr)):(kvS es).map (·.1)=(es.map (·.1)).map Sum.inr:=by
 unfold kvS;rw[Fm,Fm];rfl
theorem vI{es:List (Str×Addr)}(h:z∉es.map (·.1)):aN (kvS es) (Sum.inr z)=none:=by
 unfold aN;rw[List.find?_eq_none.mpr fun q hq=>?_]
 ·rfl
 ·obtain⟨p,hp,rfl⟩:=E5.mp hq
  have:¬ (Sum.inr p.1:L2.Key)=Sum.inr z:=fun e=>h (Sum.inr.inj e▸FK hp)
  simpa using this
theorem fX:∀{es:List (Str×Addr)}{p:Str×Addr},(es.map (·.1)).Nodup->p∈es->aN (kvS es) (Sum.inr p.1)=some (.ref p.2)
 | e::r,p,nd,hp=>by
  rw[Fi,Gg]at nd
  by_cases q:e.1=p.1
  ·have:p=e:=by
    rcases Fn.mp hp with h|h
    ·exact h
    ·exact absurd (q▸FK h) nd.1
   subst this;unfold aN kvS;rw[Fi,F9]
   simp
  ·have hr:p∈r:=(Fn.mp hp).resolve_left fun z=>q (z▸rfl)
   have:=fX nd.2 hr
   unfold aN kvS at this ⊢;rw[Fi,F9];simp only[Sum.inr.injEq,q,decide_false];exact this
theorem B3{es:List (Str×Addr)}(h:z∉es.map (·.1)):putK (kvS es) (Sum.inr z) (.ref a)=kvS (es++[(z,a)]):=by
 unfold putK;rw[if_neg fun q=>?_]
 ·unfold kvS;rw[Fc];rfl
 ·obtain⟨x,hx,e⟩:=List.any_eq_true.mp q;obtain⟨p,hp,rfl⟩:=E5.mp hx;exact h (Sum.inr.inj (FA e)▸FK hp)
structure LB (M:aj)(rs:List Int)(ms:List Mv)(Hm H1:Hp)(d:Addr)(es:List (Str×Addr)):Prop where
 ext:∀ x u,x≠d->Hm x=some u->H1 x=some u
 dd:H1 d=some (.dK (kvS es))
 ls:∀ p∈es,H1 p.2=some (.lst ((aM M rs ms p.1).map V.int))
 fresh:∀ p∈es,Hm p.2=none
 nd:(es.map (·.1)).Nodup
 na:es.Pairwise fun p q=>p.2≠q.2
 ks:∀ z,z∈es.map (·.1)↔aM M rs ms z≠[]
theorem i4(M:aj)(rs:List Int)(ms:List Mv)(m:Mv)(z:Str):aM M rs (ms++[m]) z=aM M rs ms z++(if cn M rs z m=true then [m.2.2] else []):=by
 unfold aM;rw[List.filter_append,Fc];congr 1
 by_cases h:cn M rs z m=true
 ·rw[if_pos h,List.filter_cons_of_pos h];rfl
 ·rw[if_neg h,List.filter_cons_of_neg h];rfl
theorem LB.skip{M:aj}{rs:List Int}{ms:List Mv}{Hm:Hp}{d:Addr}{es:List (Str×Addr)}{m:Mv}(l:LB M rs ms Hm H1 d es)(h:∀ z,cn M rs z m=false):LB M rs (ms++[m]) Hm H1 d es:=by
 have e:∀ z,aM M rs (ms++[m]) z=aM M rs ms z:=fun z=>by
  rw[i4,h z,if_neg (by decide),FR]
 exact⟨l.ext,l.dd,fun p hp=>by rw[e];exact l.ls p hp,l.fresh,l.nd,l.na,fun z=>by rw[e];exact l.ks z⟩
theorem LB.up{M:aj}{rs:List Int}{ms:List Mv}{Hm:Hp}{d:Addr}{es:List (Str×Addr)}(l:LB M rs ms Hm H1 d es)(e:Ext H1 H2):LB M rs ms Hm H2 d es:=
 ⟨fun x u n h=>e.up (l.ext x u n h),e.up l.dd,fun p hp=>e.up (l.ls p hp),l.fresh,l.nd,l.na,l.ks⟩
theorem lK{M:aj}{rs:List Int}{m:Mv}{y:Str}(hy:aT M.sg m.2.1=some y)(hm:m.1∈rs):cn M rs z m=true↔z=y:=by
 unfold cn;rw[hy,Fq hm,Bool.and_true,decide_eq_true_eq];exact⟨fun h=>(Fw h).symm,fun h=>by rw[h]⟩
theorem tw:∀{es:List (Str×Addr)}{p q:Str×Addr},es.Pairwise (fun p q=>p.2≠q.2)->p∈es->q∈es->p≠q->p.2≠q.2
 | e::r,p,q,h,hp,hq,n=>by
  rw[Gk]at h;rcases Fn.mp hp with e1|h1
  ·rcases Fn.mp hq with e2|h2
   ·exact absurd (e1.trans e2.symm) n
   ·rw[e1];exact h.1 q h2
  ·rcases Fn.mp hq with e2|h2
   ·rw[e2]
    exact(h.1 p h1).symm
   ·exact tw h.2 h1 h2 n
theorem LB.add{M:aj}{rs:List Int}{ms:List Mv}{Hm:Hp}{d:Addr}{es:List (Str×Addr)}{m:Mv}{p:Str×Addr}(l:LB M rs ms Hm H1 d es)(hy:aT M.sg m.2.1=some p.1)(hm:m.1∈rs)(hp:p∈es)(b:But p.2 H1 H2)(h:H2 p.2=some (.lst ((aM M rs ms p.1++[m.2.2]).map V.int))):LB M rs (ms++[m]) Hm H2 d es:=by
 have e0:aM M rs (ms++[m]) p.1=aM M rs ms p.1++[m.2.2]:=by rw[i4,if_pos ((lK hy hm).mpr rfl)]
 have e1:∀ z,z≠p.1->aM M rs (ms++[m]) z=aM M rs ms z:=fun z n=>by rw[i4,if_neg (fun w=>n ((lK hy hm).mp w)),FR]
 have nd:d≠p.2:=aX l.dd (l.ls p hp) fun z=>nomatch z
 refine⟨fun x u n hu=>b.up (aA hu (l.fresh p hp)) (l.ext x u n hu),b.up nd l.dd,fun q hq=>?_,l.fresh,l.nd,l.na,fun z=>?_⟩
 ·by_cases c:q=p
  ·subst c;rw[e0];exact h
  ·have nk:q.1≠p.1:=fun e=>by
    have h1:=fX l.nd hq;have h2:=fX l.nd hp;rw[e,h2]at h1;injection h1 with h1;injection h1 with h1;exact c (Prod.ext e h1.symm)
   rw[e1 _ nk];exact b.up (tw l.na hq hp c) (l.ls q hq)
 ·by_cases c:z=p.1
  ·subst c;rw[e0];exact⟨fun _ w=>by simp at w,fun _=>FK hp⟩
  ·rw[e1 z c];exact l.ks z
theorem LB.new{M:aj}{rs:List Int}{ms:List Mv}{Hm:Hp}{d:Addr}{es:List (Str×Addr)}{m:Mv}{y:Str}(l:LB M rs ms Hm H1 d es)(hy:aT M.sg m.2.1=some y)(hm:m.1∈rs)(hn:y∉es.map (·.1))(hdm:∀ x u,x≠d->x≠a->H1 x=some u->H2 x=some u)(ha:H1 a=none)(had:a≠d)(dd:H2 d=some (.dK (kvS (es++[(y,a)]))))(h:H2 a=some (.lst ([m.2.2].map V.int))):LB M rs (ms++[m]) Hm H2 d (es++[(y,a)]):=by
 have l0:aM M rs ms y=[]:=by
  cases e:aM M rs ms y with
  | nil=>rfl
  | cons _ _=>exact absurd ((l.ks y).mpr (by rw[e];exact fun z=>nomatch z)) hn
 have e0:aM M rs (ms++[m]) y=[m.2.2]:=by rw[i4,if_pos ((lK hy hm).mpr rfl),l0];rfl
 have e1:∀ z,z≠y->aM M rs (ms++[m]) z=aM M rs ms z:=fun z n=>by rw[i4,if_neg (fun w=>n ((lK hy hm).mp w)),FR]
 have am:∀{x u},H1 x=some u->x≠a:=fun hx=>aA hx ha
 have aHm:Hm a=none:=by
  cases q:Hm a with
  | none=>rfl
  | some u=>rw[l.ext a u had q]at ha;cases ha
 refine⟨fun x u n hu=>hdm x u n (am (l.ext x u n hu)) (l.ext x u n hu),dd,fun q hq=>?_,fun q hq=>?_,?_,?_,fun z=>?_⟩
 ·rcases Fs.mp hq with hq|hq
  ·have nk:q.1≠y:=fun e=>hn (e▸FK hq)
   rw[e1 _ nk];exact hdm _ _ (aX (l.ls q hq) l.dd fun z=>nomatch z) (am (l.ls q hq)) (l.ls q hq)
  ·rw[Fb.mp hq];show H2 a=some (.lst ((aM M rs (ms++[m]) y).map V.int))
   rw[e0];exact h
 ·rcases Fs.mp hq with hq|hq
  ·exact l.fresh q hq
  ·rw[Fb.mp hq];exact aHm
 ·rw[Fc];refine List.nodup_append.mpr ⟨l.nd,Gg.mpr ⟨(fun z=>nomatch z),GW⟩,fun b hb c hc e=>?_⟩
  rw[Fi,GN,Fb]at hc;have hby:b=y:=e.trans hc;exact hn (hby▸hb)
 ·refine Gi.mpr ⟨l.na,Gk.mpr ⟨(fun z hz=>nomatch hz),List.Pairwise.nil⟩,fun p hp q hq=>?_⟩
  rw[Fb.mp hq];exact am (l.ls p hp)
 ·rw[Fc,Fs]
  by_cases c:z=y
  ·subst c;rw[e0];exact⟨(fun _ w=>nomatch w),fun _=>.inr (Fb.mpr rfl)⟩
  ·rw[e1 z c];exact⟨fun w=>(l.ks z).mp (w.resolve_right fun w=>c (Fb.mp w)),fun w=>.inl ((l.ks z).mpr w)⟩
set_option maxHeartbeats 4000000
theorem qm{α:Type} [DecidableEq α] (lt:α->α->Bool)(x:α):∀ l:List α,(du lt x l).length<=l.length+1
 | []=>E7 _
 | y::r=>by
  unfold du
  split
  ·exact Nat.le_succ _
  ·split
   ·exact E7 _
   ·have:=qm lt x r
    rw[Fy,Fy];lia
theorem fw{α:Type} [DecidableEq α] (lt:α->α->Bool):∀ l:List α,(srt lt l).length<=l.length
 | []=>E7 _
 | x::r=>by
  have:=qm lt x (srt lt r)
  have:=fw lt r
  show(du lt x (srt lt r)).length<=r.length+1
  lia
theorem B5(l:List Str):(cF l).length<=l.length:=by
 unfold cF;rw[E3]
 have:=fw kLt (l.map Sum.inr)
 rw[E3]at this;exact this
noncomputable def aW (M:aj)(n:Int)(xs:List Int):List Int:=aB ((UI n).filter fun r=>@decide (Rc (dN M) xs r) (Classical.propDecidable _))
theorem ug{M:aj}{xs:List Int}(hx:∀ r∈xs,okI n r)(hm:∀ m∈M.mv,bz n m)(h:Rc (dN M) xs r):okI n r:=by
 induction h with
 | base h=>exact hx _ h
 | step _ hy _=>exact qo hm _ hy
theorem rP{M:aj}{xs rs:List Int}(hx:∀ r∈xs,okI n r)(hm:∀ m∈M.mv,bz n m)(h:∀ r,r∈rs↔Rc (dN M) xs r):aB rs=aW M n xs:=zJ fun r=>by
 rw[h,FH];constructor
 ·intro c;exact⟨mj (ug hx hm c),@decide_eq_true _ (Classical.propDecidable _) c⟩
 ·intro c;exact @of_decide_eq_true _ (Classical.propDecidable _) c.2
noncomputable def je (M:aj)(n:Int)(rs:List Int)(z:Str)(p:Addr)(H:Hp):Prop:=∃ t,H p=some (.tup [.str z,.ref t])/\H t=some (.tup ((aW M n (aM M rs M.mv z)).map V.int))
theorem xE{M:aj}{rs:List Int}(z:Str)(p:Addr)(H H':Hp)(x:aQ H H')(h:je M n rs z p H):je M n rs z p H':=by
 obtain⟨t,h1,h2⟩:=h;exact⟨t,x _ _ h1,x _ _ h2⟩
noncomputable def jB (C T:Addr):Sp:=fun vs H Q _=>∃(p c:Addr)(M:aj)(rs:List Int)(n:Int),vs=[.ref p,.ref c]/\aZ C H p M/\M.mv.length<=24/\H c=some (.tup (rs.map V.int))/\n<=8/\(∀ m∈M.mv,bz n m)/\TabAt (cm aK) lwQ T H ∧
 ∀ l H' (qs:List (Str×Addr)) (ks:List Str),H l=none->H' l=some (.lst (rfs qs))->(∀ q∈qs,je M n rs q.1 q.2 H')->(∀ z,z∈ks↔aM M rs M.mv z≠[])->qs.map (·.1)=cF ks->ai T H H'->TabAt (cm aK) lwQ T H'->Q (.ref l) H'
noncomputable abbrev nSF:List Str:=["machine","rooms","lasts_by_sign","first","deed","last","sign"]
noncomputable abbrev nSC:List Str:=["sign","lasts_by_sign","machine"]
section
variable {P:Program}{w:World}{K:PySem.W.Frag}{mg:Str->Option Value}{base:Heap}
theorem CG:aJ nSF ["machine","rooms"] (ah sSF):=⟨rfl,rfl,rfl,by decide +kernel,rfl,by decide +kernel,by decide +kernel⟩
theorem xb(F:Fun K "signs_from" "signs_from" sSF f fd) (TC:cO K mg C) (M2:cu P w K mg base 1 C "moves" ["self"] (iQ C)) (M3:cu P w K mg base 1 C "sign_of" ["self","deed"] (ik C)) (D:Known P w K mg base 3 "with_unseen" ["machine","rooms"] (kA C T)):ao P w K mg base CX0 4 f fd ["machine","rooms"] (jB C T):=by
 refine F.ok CG (fun vs H Q E h=>?_) (fun cdv A outer s H vs Q E hr h=>?_)
 ·obtain⟨p,c,M,rs,n,rfl,_⟩:=h;rfl
 ·obtain⟨p,c,M,rs,n,rfl,mat,hml,hc,hn,hmo,tab,k⟩:=h;have hu:=hr.units;have hr1:aE 1 _:=hr.mono (by decide)
  refine⟨_,af (av nSF 2 nN)
   (af (bC PassesOwn.never rfl (bg (jb (q_v 0) TC.cl M2 hr1)) (fq rfl (bJ (q_g nSF 3) (bJ (q_g nSF 4) (bJ (q_g nSF 5) eU))))
    (af (av nSF 6 (kU (q_v 0) TC.cl M3 hr1 (aa (q_v 4) ab)))
    (ag (bf (pw_and (aG mx (q_v 6) et) (pw_and1 (aG wF (q_v 3) (q_v 1)))).pt
     (ag (bQ (eZ (xP (q_v 2) (q_v 6) (bw ab) ⟨rfl,rfl,rfl,rfl⟩) (q_v 5)))) bj))))
   (ag (aD (eW nSF (ah sSF) nSC [none,some 2,some 0] rfl (bg (q_b (vo rfl) TC.sorted (aa (q_v 2) ab))) (fun _ _ _ _=>q_g nSC 0)
    (fun _ _ _ _=>cM (aa (q_v 0) (aa (aw D hr (aa (q_v 2) (aa (qS hu (q_v 1) (q_v 0)) ab))) ab))))))),?_⟩
  have z1:∀{n:Nat},n<=1000->n<=sizeLine:=fun h=>by rw[Fz];lia
  have z0:∀{n:Nat},n<=1000->n<sizeLine:=fun h=>by rw[Fz];lia
  refine fun d H1 hd h1 e1=>?_
  have mat1:=mat.ext e1;obtain⟨dx,l1,l2,dd,l3,ms,mi⟩:=mat1;have mat1:aZ C H1 p M:=⟨dx,l1,l2,dd,l3,ms,mi⟩;refine⟨_,_,mi.ob,rfl,p,M,rfl,mat1,fun a1 Hm ps ha1 hm1 t1 pm1 em=>⟨_,.inl hm1,?_⟩⟩
  have lps:ps.length<=24:=by rw[<-pm1,E3]at hml;exact hml
  have dm:Hm d=some (.dK []):=em.up h1;have na1:a1≠d:=aX hm1 dm fun z=>nomatch z
  have old:∀{H2:Hp} {ms':List Mv} {es:List (Str×Addr)},LB M rs ms' Hm H2 d es->Ext H H2:=fun {H2 ms' es} l x u hx=>l.ext x u (aA hx hd) (em.up (e1.up hx))
  refine bZ (xs:=refs ps) (fun i σ H2=>∃(v3 v4 v5 v6:Option V) (es:List (Str×Addr)),σ=[some (.ref p),some (.ref c),some (.ref d),v3,v4,v5,v6]/\LB M rs ((ps.map (·.1)).take i) Hm H2 d es/\es.length<=i)
   ⟨none,none,none,none,[],rfl,⟨fun x u _ h=>h,dm,(fun q hq=>nomatch hq),(fun q hq=>nomatch hq),GW,List.Pairwise.nil,fun z=>⟨(fun w=>nomatch w),fun w=>absurd rfl w⟩⟩,E7 _⟩ (fun i σ H2 _ ⟨_,_,_,_,_,_,l,_⟩=>.inl (l.ext a1 _ na1 hm1)) ?_ ?_
  ·rintro i x σ H2 hx ⟨v3,v4,v5,v6,es,rfl,l,le⟩;have hi:i<(refs ps).length:=(Fp.mp hx).1;have hi:i<ps.length:=by unfold refs at hi;rw[E3]at hi;exact hi
   unfold refs at hx;rw[E9,Fl]at hx;obtain⟨q,hq,rfl⟩:=hx;have hqm:=Fe hq;have tk:(ps.map (·.1)).take (i+1)=(ps.map (·.1)).take i++[q.1]:=by
    rw[Gb,E9,hq];rfl
   have tq:H2 q.2=some (.tup (fb q.1)):=l.ext _ _ (aX (t1 q hqm) dm fun z=>nomatch z) (t1 q hqm)
   have mt:=mat.ext (old l);obtain⟨dx',l1',l2',dd',l3',ms',mi'⟩:=mt;have c2:=(old l).up hc;refine⟨_,.inl tq,rfl,_,_,mi'.ob,rfl,p,M,q.1.2.1,rfl,⟨dx',l1',l2',dd',l3',ms',mi'⟩,?_⟩;have no:(∀ z,cn M rs z q.1=false)->LB M rs ((ps.map (·.1)).take (i+1)) Hm H2 d es/\es.length<=i+1:=fun h=>by
    rw[tk];exact⟨l.skip h,by lia⟩
   cases e:aT M.sg q.1.2.1 with
   | none=>
    obtain⟨l',le'⟩:=no fun z=>by unfold cn;rw[e,FI (fun w=>nomatch w)];rfl
    exact⟨_,_,_,_,es,rfl,l',le'⟩
   | some y=>
    refine⟨_,.inl c2,⟨rfl,dA _⟩,?_⟩;refine aV (fun hA=>?_) (fun hA=>?_)
    ·have hA:inV (.int q.1.1) (rs.map V.int)=true:=hA;rw[gH]at hA;have hm:q.1.1∈rs:=FA hA;refine⟨_,.inl l.dd,z1 (by show 0<=1000;decide),fun a3 H3 ha3 h3 e3=>?_⟩
     have l3':=l.up e3;refine⟨_,l3'.dd,z0 (by unfold kvS;rw[E3];lia),_,rfl,fun v hv=>?_,fun hv=>?_⟩
     ·by_cases hk:y∈es.map (·.1)
      ·obtain⟨r,hr',rfl⟩:=E5.mp hk;rw[fX l.nd hr']at hv;cases hv
       have hl:=l3'.ls r hr';refine⟨_,.inl hl,_,hl,z0 ?_,fun H4 h4 b4=>?_⟩
       ·rw[E3];unfold aM;rw[E3]
        have:=List.length_filter_le (cn M rs r.1) ((ps.map (·.1)).take i)
        have:((ps.map (·.1)).take i).length<=ps.length:=by rw[F3,E3];lia
        lia
       refine⟨_,_,_,_,es,rfl,?_,by lia⟩
       rw[tk];exact l3'.add e hm hr' b4 (by rw[h4,Fc];rfl)
      ·rw[vI hk]at hv;cases hv
     ·have hk:y∉es.map (·.1):=fun hk=>by
       obtain⟨r,hr',rfl⟩:=E5.mp hk;rw[fX l.nd hr']at hv;cases hv
      intro H4 h4 b4;have n3:a3≠d:=aX h3 l3'.dd fun z=>nomatch z
      have h43:=b4.up n3 h3;refine⟨_,.inl h43,_,h43,z0 (by show 0<=1000;decide),fun H5 h5 b5=>?_⟩
      refine⟨_,_,_,_,es++[(y,a3)],rfl,?_,by rw[Fh];show es.length+1<=i+1;lia⟩
      rw[tk];refine l.new e hm hk (fun x u nx na hx=>b5.up na (b4.up nx (e3.up hx))) ha3 n3 (b5.up n3.symm ?_) (by rw[h5];rfl)
      rw[<-B3 hk];exact h4
    ·have hA:¬ inV (.int q.1.1) (rs.map V.int)=true:=hA;rw[gH]at hA;have hm:q.1.1∉rs:=fun w=>hA (Fq w)
     obtain⟨l',le'⟩:=no fun z=>by unfold cn;rw[FI hm,Bool.and_false]
     exact⟨_,_,_,_,es,rfl,l',le'⟩
  rintro σ H2 ⟨v3,v4,v5,v6,es,rfl,l,le⟩;have lr:(refs ps).length=ps.length:=by unfold refs;rw[E3]
  rw[lr]at le l;have full:(ps.map (·.1)).take ps.length=M.mv:=by rw[<-pm1,FQ (by rw[E3];exact E7 _)]
  rw[full]at l;have x2:ai T H H2:=Ext.toP (old l);have tab2:TabAt (cm aK) lwQ T H2:=tab.ext (old l);refine⟨_,l.dd,false,⟨by rw[mC];exact List.Pairwise.map _ (fun a b h z=>h (Sum.inr.inj z)) l.nd,fun k hk=>by rw[mC]at hk;exact o6 _ k hk,by unfold kvS;rw[E3];lia⟩,fun sl H3 hsl h3 e3=>?_⟩
  rw[mC,qt]at h3;have l3':=l.up e3;have x3:ai T H H3:=ai.trans x2 (Ext.toP e3);have lsk:(cF (es.map (·.1))).length<=24:=by
   have:=B5 (es.map (·.1))
   rw[E3]at this;lia
  refine⟨_,.inl h3,AR (zs:=cF (es.map (·.1))) (enc:=V.str) (ps:=cm aK) (qn:=lwQ) (T:=T) (je M n rs) xE (.inl h3) (tab2.ext e3) (z0 (by lia)) (fun i z H4 kk hz x4 t4 kn=>?_) fun D H5 qs hD h5 hR eq x5 t5=>?_⟩
  ·have hzm:z∈es.map (·.1):=oe.mp (Fe hz);obtain⟨r,hr',rfl⟩:=E5.mp hzm;have hx0:∀ r'∈aM M rs M.mv r.1,okI n r':=fun r' hr2=>by
    obtain⟨m,hm,rfl⟩:=E5.mp hr2
    exact(hmo m (FH.mp hm).1).2.2
   refine⟨bY rfl,_,.inl (x4.up l3'.dd fun _ z=>nomatch z),_,rfl,_,fX l.nd hr',p,r.2,M,aM M rs M.mv r.1,n,rfl,fJ mat (ai.trans x3 x4).toT,by lia,.inl (x4.up (l3'.ls r hr') fun _ z=>nomatch z),hn,hx0,hmo,t4,fun t H6 rs' ht h6 hrs x6 t6=>?_⟩
   refine⟨z1 (by show 2<=1000;decide),fun q H7 hq h7 e7=>kn q H7 ⟨t,h7,?_⟩ (ai.trans x6 (Ext.toP e7)) (t6.ext e7)⟩
   rw[<-rP hx0 hmo hrs];exact e7.up h6
  ·exact k D H5 qs (es.map (·.1)) (ai.none x3 hD) h5 hR l.ks eq (ai.trans x3 x5) t5
end
set_option maxHeartbeats 4000000
noncomputable abbrev sFS:Stmt:=top 22
noncomputable def uTT (t:TE):TT:=fun σ H Q=>t σ H fun x H'=>match x with | .ref p=>∃ xs,RdT H' p xs/\Q (!xs.isEmpty) H'|_=>False
theorem CH{t:TE}(h:PE X e t)(he:∀ whole,isTrue e X.env whole=(do let v <-whole;standAt e.pos;holding [v] (truthy v)):=by intro _;rfl):PT X e (uTT t):=by
 intro pins s σ H Q I hw;refine isTrue_plain (thn (h pins s σ H _ I hw) fun v s1 ⟨x,H1,I1,r1,q1⟩=>?_) (he _)
 dsimp only at q1
 split at q1
 ·obtain⟨xs,hx,q⟩:=q1;exact su pins s1 σ H1 _ v Q I1 r1 ⟨_,.inr (.inl ⟨xs,hx.sq,rfl⟩),q⟩
 ·exact q1.elim
noncomputable def oE (C T:Addr):Sp:=fun vs H Q _=>∃(p:Addr)(M:aj)(n:Int),vs=[.ref p]/\aZ C H p M/\M.mv.length<=100/\n<=8/\(∀ r∈M.st,okI n r)/\(∀ m∈M.mv,bz n m)/\TabAt (cm aK) lwQ T H ∧
 ∀ l H',H l=none->((aW M n M.st=[]/\H' l=some (.lst []))\/(aW M n M.st≠[]/\∃ t,H t=none/\H' l=some (.lst [.ref t])/\H' t=some (.tup ((aW M n M.st).map V.int))))->ai T H H'->TabAt (cm aK) lwQ T H'->Q (.ref l) H'
section
variable {P:Program}{w:World}{K:PySem.W.Frag}{mg:Str->Option Value}{base:Heap}
noncomputable abbrev nFS:List Str:=["machine","rooms"]
theorem wN:aJ nFS ["machine"] (ah sFS):=⟨rfl,rfl,rfl,by decide +kernel,rfl,by decide +kernel,by decide +kernel⟩
theorem BE(F:Fun K "first_sets" "first_sets" sFS f fd) (TC:cO K mg C) (M1:cu P w K mg base 1 C "starts" ["self"] (jN C)) (D:Known P w K mg base 3 "with_unseen" ["machine","rooms"] (kA C T)):ao P w K mg base CX0 4 f fd ["machine"] (oE C T):=by
 refine F.ok wN (fun vs H Q E h=>?_) (fun cdv A outer s H vs Q E hr h=>?_)
 ·obtain⟨p,M,n,rfl,_⟩:=h;rfl
 ·obtain⟨p,M,n,rfl,mat,hml,hn,hst,hmo,tab,k⟩:=h;have hr1:aE 1 _:=hr.mono (by decide)
  refine⟨_,af (av nFS 1 (aw D hr (aa (q_v 0) (aa (jb (q_v 0) TC.cl M1 hr1) ab))))
   (ag (aD (zi (CH (q_v 1)) (bw (aa (q_v 1) ab)) (bw ab)))),?_⟩
  have z1:∀{n:Nat},n<=1000->n<=sizeLine:=fun h=>by rw[Fz];lia
  obtain⟨dx,l1,l2,dd,l3,ms,mi⟩:=mat;have mat:aZ C H p M:=⟨dx,l1,l2,dd,l3,ms,mi⟩;refine⟨_,_,mi.ob,rfl,p,M,rfl,mat,fun a1 H1 ha1 h1 e1=>?_⟩
  refine⟨p,a1,M,M.st,n,rfl,mat.ext e1,hml,.inl h1,hn,hst,hmo,tab.ext e1,fun t H2 rs ht h2 hrs x2 t2=>?_⟩
  rw[rP hst hmo hrs]at h2;have x:ai T H H2:=ai.trans (Ext.toP e1) x2;refine⟨_,.inl h2,aV (fun hA=>?_) (fun hA=>?_)⟩
  ·have hA:(!((aW M n M.st).map V.int).isEmpty)=true:=hA;have ne:aW M n M.st≠[]:=fun z=>by rw[z]at hA;cases hA
   exact⟨z1 (by show 1<=1000;decide),fun l H3 hl h3 e3=>k l H3 (ai.none x hl) (.inr ⟨ne,t,e1.free ht,h3,e3.up h2⟩) (ai.trans x (Ext.toP e3)) (t2.ext e3)⟩
  ·have hA:¬ (!((aW M n M.st).map V.int).isEmpty)=true:=hA;have ne:aW M n M.st=[]:=by
    cases e:aW M n M.st with
    | nil=>rfl
    | cons _ _=>rw[e]at hA;exact absurd rfl hA
   exact⟨z1 (by show 0<=1000;decide),fun l H3 hl h3 e3=>k l H3 (ai.none x hl) (.inl ⟨ne,h3⟩) (ai.trans x (Ext.toP e3)) (t2.ext e3)⟩
end
set_option maxHeartbeats 4000000
section
variable {α β:Type} [DecidableEq α]
noncomputable def pushS (p:List β):List (α×List β)->List (β×α)->List (α×List β)
 | es,[]=>es
 | es,(z,y)::ss=>if y∈es.map (·.1) then pushS p es ss else pushS p (es++[(y,p++[z])]) ss
noncomputable def bW:List (α×List β)->List α->List (α×List β)
 | es,[]=>es
 | es,x::xs=>if x∈es.map (·.1) then bW es xs else bW (es++[(x,[])]) xs
theorem jE(p:List β):∀(es:List (α×List β))(a b:List (β×α)),pushS p es (a++b)=pushS p (pushS p es a) b
 | es,[],b=>rfl
 | es,(z,y)::a,b=>by
  show(if y∈es.map (·.1) then pushS p es (a++b) else pushS p (es++[(y,p++[z])]) (a++b))=pushS p (if y∈es.map (·.1) then pushS p es a else pushS p (es++[(y,p++[z])]) a) b
  split
  ·exact jE p es a b
  ·exact jE p _ a b
theorem ly:∀(es:List (α×List β))(a b:List α),bW es (a++b)=bW (bW es a) b
 | es,[],b=>rfl
 | es,y::a,b=>by
  show(if y∈es.map (·.1) then bW es (a++b) else bW (es++[(y,[])]) (a++b))=bW (if y∈es.map (·.1) then bW es a else bW (es++[(y,[])]) a) b
  split
  ·exact ly es a b
  ·exact ly _ a b
inductive Run (steps:α->List (β×α))(st:List α):Nat->List (α×List β)->Prop
 | zero:Run steps st 0 (bW [] st)
 | next {k:Nat} {es:List (α×List β)} {x:α} {p:List β}:Run steps st k es->es[k]? =some (x,p)->Run steps st (k+1) (pushS p es (steps x))
end
structure En (α β:Type) where
 x:α
 a:Addr
 v:V
 p:List β
noncomputable def xpE {α β:Type}(e:En α β):α×List β:=(e.x,e.p)
structure SE (α β:Type) where
 z:β
 lv:V
 st:α
 as:Addr
 ap:Addr
structure eB (β:Type) where
 at':Hp->β->V->Prop
 up:∀{H H':Hp} {z v},aQ H H'->at' H z v->at' H' z v
section
variable {α β:Type} [DecidableEq α] (E:eF α)(L:eB β)(steps:α->List (β×α))(st:List α)
noncomputable def enB (e:En α β):bq:=(E.key e.x,e.a,e.v)
theorem jw{es:List (En α β)}{x:α}:(atB (es.map (enB E)) (E.key x)).isSome=decide (x∈es.map (·.x)):=by
 unfold atB;rw[GZ];apply FU.mpr;rw[List.find?_isSome,decide_eq_true_iff,E5];constructor
 ·rintro⟨q,hq,he⟩;obtain⟨e,hm,rfl⟩:=E5.mp hq;exact⟨e,hm,E.inj _ _ (FA he)⟩
 ·rintro⟨e,hm,rfl⟩;exact⟨enB E e,FK hm,Fq rfl⟩
theorem tX{es:List (En α β)}{x:α}{v:V}{p:List β}(h:x∉es.map (·.x)):dY (es.map (enB E)) (E.key x) b v=(es++[En.mk x b v p]).map (enB E):=by
 unfold dY;rw[jw,if_neg (by simpa using h),Fc]
 rfl
theorem Bd{es:List (En α β)}{x:α}(h:x∈es.map (·.x))(hv:∀ e∈es,e.v=.non):dY (es.map (enB E)) (E.key x) b .non=es.map (enB E):=by
 unfold dY;rw[jw,if_pos (by simpa using h),Fm]
 apply G2;intro e he
 show(if (enB E e).1=_ then _ else enB E e)=enB E e
 split
 ·show(E.key e.x,e.a,V.non)=(E.key e.x,e.a,e.v)
  rw[hv e he]
 ·rfl
noncomputable def gh (H:Hp)(es:List (En α β))(e:En α β):Prop:=
 (e.v=.non/\e.p=[]/\e.x∈st)\/∃(t ya:Addr) (z:β) (lv:V) (e':En α β),e'∈es/\e.v=.ref t/\H t=some (.tup [.ref ya,lv])/\H ya=some (.tup (E.enc e'.x))/\e.p=e'.p++[z]/\L.at' H z lv/\(z,e.x)∈steps e'.x
theorem gh.up{E:eF α}{L:eB β}{steps:α->List (β×α)}{st:List α}{es:List (En α β)}{e:En α β}(t:aQ H H')(c:gh E L steps st H es e):gh E L steps st H' es e:=by
 rcases c with c|⟨t',ya,z,lb,e',h1,h2,h3,h4,h5,h6,h7⟩
 ·exact .inl c
 ·exact .inr ⟨t',ya,z,lb,e',h1,h2,t _ _ h3,t _ _ h4,h5,L.up t h6,h7⟩
structure JOk (T:Addr)(J:Hp->Prop):Prop where
 ext:∀{H H'},J H->Ext H H'->J H'
 but:∀{H H'} {d:Addr} {u:HO},J H->H d=some u->(∀ ps,u≠.tbl ps)->(∀ o k,u≠.frz o k)->But d H H'->J H'
 tb:∀{H} {b:Addr} {u:HO},J H->H b=some u->(∀ ps,u≠.tbl ps)->b≠T
variable (P:Program)(w:World)
structure RS (T:Addr)(ok:α->Prop)(U:List α)(H H1:Hp)(d:Addr)(es:List (En α β)):Prop where
 ext:ai T H H1
 dn:H d=none
 dd:H1 d=some (DTB P w d (es.map (enB E)))
 ents:∀ e∈es,H1 e.a=some (.tup (E.enc e.x))
 okk:∀ e∈es,ok e.x
 bd:es.length+mis U (es.map (·.x))<=U.length
 came:∀(i:Nat) (e:En α β),es[i]? =some e->gh E L steps st H1 (es.take i) e
 nd:(es.map (·.x)).Nodup
variable {E L steps st P w}{T:Addr}{ok:α->Prop}{U:List α}{H H1 H2:Hp}{d:Addr}{es:List (En α β)}
theorem RS.move(r:RS E L steps st P w T ok U H H1 d es)(x:ai T H H2)(dd:H2 d=some (DTB P w d (es.map (enB E))))(t:aQ H1 H2):RS E L steps st P w T ok U H H2 d es:=
 ⟨x,r.dn,dd,fun e he=>t _ _ (r.ents e he),r.okk,r.bd,fun i e h=>(r.came i e h).up t,r.nd⟩
theorem ai.tup(x:ai T H H'):aQ H H':=fun b xs h=>x.up h fun ps z=>nomatch z
theorem RS.upP(r:RS E L steps st P w T ok U H H1 d es)(x:ai T H1 H2):RS E L steps st P w T ok U H H2 d es:=r.move (r.ext.trans x) (x.up r.dd fun ps z=>nomatch z) (ai.tup x)
theorem RS.up(r:RS E L steps st P w T ok U H H1 d es)(x:Ext H1 H2):RS E L steps st P w T ok U H H2 d es:=r.upP (Ext.toP x)
theorem RS.keys(r:RS E L steps st P w T ok U H H1 d es):fP H1 (es.map (enB E)):=fun q hq=>by
 obtain⟨e,he,rfl⟩:=E5.mp hq;exact⟨_,r.ents e he,E.ok e.x⟩
theorem ph{d:Addr}(x:ai T H H1)(dn:H d=none)(b:But d H1 H2):ai T H H2:=
 ⟨⟨fun {c u} h n=>b.up (fun z=>by rw[z,dn]at h;cases h) (x.up h n),fun {c ps} h=>by
  obtain⟨ps',h'⟩:=x.toT.tb h;exact⟨ps',b.up (fun z=>by rw[z,dn]at h;cases h) h'⟩⟩,fun {c u} n h=>b.up (fun z=>by rw[z,dn]at h;cases h) (x.ot n h)⟩
theorem RS.put(r:RS E L steps st P w T ok U H H1 d es)(hU:∀ x,ok x->x∈U){y:α}{v:V}{p:List β}(hb:H1 b=some (.tup (E.enc y)))(ny:y∉es.map (·.x))(oky:ok y)(cv:gh E L steps st H1 es ⟨y,b,v,p⟩)(dd:H2 d=some (DTB P w d ((es++[En.mk y b v p]).map (enB E))))(bb:But d H1 H2):RS E L steps st P w T ok U H H2 d (es++[En.mk y b v p]):=by
 have t:aQ H1 H2:=eM bb r.dd fun xs z=>nomatch z
 refine⟨ph r.ext r.dn bb,r.dn,dd,fun e he=>?_,fun e he=>?_,?_,fun i e he=>?_,?_⟩
 ·rcases Fs.mp he with he|he
  ·exact t _ _ (r.ents e he)
  ·rw[Fb]at he;subst he;exact t _ _ hb
 ·rcases Fs.mp he with he|he
  ·exact r.okk e he
  ·rw[Fb]at he;subst he;exact oky
 ·have:=gK ny U
  rw[if_pos (hU y oky)]at this
  have:=r.bd
  rw[Fh,Fc];show es.length+1+mis U (es.map (·.x)++[y])<=_
  lia
 ·by_cases hi:i<es.length
  ·rw[FX hi]at he;rw[List.take_append_of_le_length (GL hi)]
   exact(r.came i e he).up t
  ·have hi:es.length<=i:=Nat.not_lt.mp hi;rw[F6 hi]at he;have e0:i-es.length=0:=by
    have:=(Fp.mp he).1
    simp at this;lia
   rw[e0]at he;have he:=Fw he;subst he;have ei:i=es.length:=by lia
   rw[ei,List.take_left];exact cv.up t
 ·rw[Fc];refine List.nodup_append.mpr ⟨r.nd,Gg.mpr ⟨(fun z=>nomatch z),GW⟩,fun a ha b hb e=>?_⟩
  rw[Fi,GN,Fb]at hb;subst hb;subst e;exact ny ha
theorem RS.len(r:RS E L steps st P w T ok U H H1 d es)(hU:U.length<=1000):es.length<=1000:=by have:=r.bd;lia
end
section
variable {α β:Type} [DecidableEq α] (E:eF α)(L:eB β)
noncomputable def lX (T:Addr)(J:Hp->Prop)(steps:α->List (β×α))(ok:α->Prop)(H0:Hp):Sp:=fun vs H Q _=>∃(a:Addr)(x:α),vs=[.ref a]/\ai T H0 H/\J H/\H a=some (.tup (E.enc x))/\ok x ∧
 ∀ l H' (es:List (SE α β)),H l=none->H' l=some (.lst (es.map fun e=>V.ref e.ap))->(∀ e∈es,H' e.as=some (.tup (E.enc e.st))/\H' e.ap=some (.tup [e.lv,.ref e.as])/\L.at' H' e.z e.lv)->es.map (fun e=>(e.z,e.st))=steps x->ai T H H'->J H'->Q (.ref l) H'
variable (P:Program)(w:World)(K:PySem.W.Frag)(mg:Str->Option Value)(base:Heap)
noncomputable def iX (kk:Nat)(pn:Str):Sp:=fun vs H Q _=>∃(c f T:Addr)(J:Hp->Prop)(fd:FuncData)(o:Obj)(steps:α->List (β×α))(ok:α->Prop)(U:List α)(qs:List (α×Addr)),vs=[.ref c,.ref f]/\RdL H c (rfs qs)/\(∀ p∈qs,H p.2=some (.tup (E.enc p.1))/\ok p.1) ∧
 H f=some (.frz o (.own f))/\o.data=.func fd/\ao P w K mg base CX0 kk f fd [pn] (lX E L T J steps ok H)/\Binds K fd [pn] []/\(∀ x,ok x->∀ y∈steps x,ok y.2)/\(∀ x,ok x->x∈U)/\U.length<=1000/\JOk T J/\J H ∧
 ∀ d H' es,RS E L steps (qs.map (·.1)) P w T ok U H H' d es->Run steps (qs.map (·.1)) es.length (es.map xpE)->J H'->Q (.ref d) H'
end
section
variable {α β:Type} [DecidableEq α]
theorem eT(es:List (En α β)):(es.map xpE).map (·.1)=es.map (·.x):=by rw[Fm];rfl
variable {E:eF α}{L:eB β}{P:Program}{w:World}{K:PySem.W.Frag}{mg:Str->Option Value}{base:Heap}
theorem rX{kk:Nat}{pn:Str}(F:Fun K "reach" "reach" hV f fd) (hli:mg "list" = none):ao P w K mg base CX0 (kk+1) f fd ["starts","steps_from"] (iX E L P w K mg base kk pn):=by
 refine F.ok qu (fun vs H Q E h=>?_) (fun cdv A outer s H vs Q E1 hr h=>?_)
 ·obtain⟨c,g,T,J,fd,o,steps,ok,U,qs,rfl,_⟩:=h;rfl
 ·obtain⟨c,g,T,J,fd,o,steps,ok,U,qs,rfl,hc,hq,hg,ho,FF,BB,hnx,hU,hUl,jo,jh,k⟩:=h;have hu:=hr.units;refine⟨_,af (av nRe 2 yK)
   (af (bC PassesOwn.never rfl (bg (q_v 0)) (q_g nRe 3) (ag (qG hu (q_v 2) (q_v 3) et)))
   (af (av nRe 4 (q_t (D5 rfl) hli (aa (q_v 2) ab)))
   (af (pz PassesOwn.never (ua (q_v 4))
    (af (av nRe 5 (bw ab))
    (af (bC PassesOwn.never rfl (bg (q_v 4)) (q_g nRe 3)
     (ag (bC PassesOwn.never rfl (bg (sP (q_v 1) FF BB ho hr (aa (q_v 3) ab))) (fq rfl (bJ (q_g nRe 6) (bJ (q_g nRe 7) eU)))
      (ag (bf (aG (we hu) (q_v 7) (q_v 2))
       (af (qG hu (q_v 2) (q_v 7) (cM (aa (q_v 3) (aa (q_v 6) ab))))
       (ag (bQ (eZ (q_v 5) (q_v 7))))) bj)))))
    (ag (av nRe 4 (q_v 5))))))
   (ag (aD (q_v 2)))))),?_⟩
  have z1:∀{n:Nat},n<=1000->n<=sizeLine:=fun h=>by rw[Fz];lia
  have z2:∀{n:Nat},n<=1000->n<sizeLine:=fun h=>by rw[Fz];lia
  have gC:∀{H1:Hp},ai T H H1->RdL H1 c (rfs qs):=fun e=>dE hc e.toT
  refine fun d H1 hd h1 e1=>?_
  refine⟨_,gC (Ext.toP e1),bZ (xs:=rfs qs) (fun i σ H2=>∃(v3:Option V) (es:List (En α β)),σ=[some (.ref c),some (.ref g),some (.ref d),v3,none,none,none,none]/\RS E L steps (qs.map (·.1)) P w T ok U H H2 d es/\J H2/\(∀ e∈es,e.v=.non)/\es.map xpE=bW [] ((qs.map (·.1)).take i))
   ⟨_,[],rfl,⟨Ext.toP e1,hd,h1,(fun e he=>nomatch he),(fun e he=>nomatch he),?_,fun i e he=>by simp at he,GW⟩,jo.ext jh e1,(fun e he=>nomatch he),by simp [bW]⟩ (fun i σ H2 _ hp=>?_) ?_ ?_⟩
  ·show 0+mis U []<=U.length
   rw[Nat.zero_add];exact List.countP_le_length
  ·obtain⟨_,_,_,r,_⟩:=hp;exact gC r.ext
  ·rintro i x σ H2 hx ⟨v3,es,rfl,r,j2,hv,hrun⟩;unfold rfs at hx;rw[E9,Fl]at hx;obtain⟨p,hp,rfl⟩:=hx;have hpm:=Fe hp;have hb:=ai.tup r.ext _ _ (hq p hpm).1;have tk:(qs.map (·.1)).take (i+1)=(qs.map (·.1)).take i++[p.1]:=by
    rw[Gb,E9,hp];rfl
   refine⟨_,r.dd,r.keys,z2 (by rw[E3];exact r.len hUl),_,hb,_,E.ok p.1,fun H4 h4 b4=>?_⟩
   have j4:J H4:=jo.but j2 r.dd (fun ps z=>nomatch z) (fun o k z=>nomatch z) b4
   by_cases hin:p.1∈es.map (·.x)
   ·rw[Bd E hin hv]at h4;refine⟨_,es,rfl,r.move (ph r.ext hd b4) h4 (eM b4 r.dd fun xs z=>nomatch z),j4,hv,?_⟩
    rw[tk,ly,<-hrun];unfold bW;rw[eT,if_pos hin];rfl
   ·rw[tX E (p:=[]) hin]at h4;refine⟨_,_,rfl,r.put hU hb hin (hq p hpm).2 (.inl ⟨rfl,rfl,FK hpm⟩) h4 b4,j4,fun e he=>?_,?_⟩
    ·rcases Fs.mp he with he|he
     ·exact hv e he
     ·rw[Fb]at he;subst he;rfl
    ·rw[tk,ly,<-hrun];unfold bW;rw[eT,if_neg hin,Fc];rfl
  ·rintro σ H2 ⟨v3,es0,rfl,r0,j0,hv,hrun0⟩;have lr:(rfs qs).length=qs.length:=by unfold rfs;rw[E3]
   have hrun0:Run steps (qs.map (·.1)) 0 (es0.map xpE):=by
    rw[hrun0,lr,FQ (by rw[E3];exact E7 _)]
    exact .zero
   refine⟨_,r0.dd,fun l0 H3 hl0 h3 e3=>?_⟩
   have h3:H3 l0=some (.lst (rfs (es0.map fun e=>(e.x,e.a)))):=by
    rw[h3];unfold rfs;rw[Fm,Fm];rfl
   refine⟨(fun m σ H4=>∃(v3 v5 v6 v7:Option V) (l:Addr) (es:List (En α β)) (q:Nat),σ=[some (.ref c),some (.ref g),some (.ref d),v3,some (.ref l),v5,v6,v7]/\RS E L steps (qs.map (·.1)) P w T ok U H H4 d es/\J H4/\H l=none/\H4 l=some (.lst (rfs ((es.drop q).map fun e=>(e.x,e.a)))) ∧
     q<=es.length/\Run steps (qs.map (·.1)) q (es.map xpE)/\m=2*mis U (es.map (·.x))+(if es.drop q=[] then 0 else 1)),
    ⟨_,_,_,_,_,l0,es0,0,rfl,r0.up e3,jo.ext j0 e3,ai.none r0.ext hl0,h3,FG _,hrun0,rfl⟩,?_⟩
   rintro m σ H4 ⟨v3,v5,v6,v7,l,es,q,rfl,r,j4,hl,h4,hq1,hrun,rfl⟩;refine⟨_,.inl h4,aV (fun hA=>?_) (fun hA=>?_)⟩
   ·have hne:es.drop q≠[]:=fun z=>by
     rw[z]at hA;exact FC hA
    rw[if_neg hne];refine⟨_,fun _ _ z=>z,?_⟩
    refine⟨z1 (by show 0<=1000;decide),fun l2 H5 hl2 h5 e5=>?_⟩
    have hl2n:H l2=none:=ai.none r.ext hl2;have nl:l≠l2:=aA h4 hl2;have frl:((es.drop q).map fun e=>(e.x,e.a)).length=es.length-q:=by rw[E3,GJ]
    refine⟨_,.inl (e5.up h4),bZ (xs:=rfs ((es.drop q).map fun e=>(e.x,e.a))) (fun i σ H6=>∃(v3 v6 v7:Option V) (ne:List (En α β)),σ=[some (.ref c),some (.ref g),some (.ref d),v3,some (.ref l),some (.ref l2),v6,v7]/\RS E L steps (qs.map (·.1)) P w T ok U H H6 d (es++ne)/\J H6/\H6 l=some (.lst (rfs ((es.drop q).map fun e=>(e.x,e.a)))) ∧
      H6 l2=some (.lst (rfs (ne.map fun e=>(e.x,e.a))))/\ne.length+mis U ((es++ne).map (·.x))<=mis U (es.map (·.x))/\Run steps (qs.map (·.1)) (q+i) ((es++ne).map xpE))
     ⟨_,_,_,[],rfl,by rw[FR];exact r.up e5,jo.ext j4 e5,e5.up h4,h5,by rw[FR];show 0+_<=_;lia,by rw[FR];exact hrun⟩ (fun i σ H6 _ hp=>?_) ?_ ?_⟩
    ·obtain⟨_,_,_,_,_,_,_,h6,_⟩:=hp;exact .inl h6
    ·rintro i x σ H6 hx ⟨w3,w6,w7,ne,rfl,r6,j6,h6,h6l,hms,hrun6⟩;unfold rfs at hx;rw[Fm,E9,Fl]at hx;obtain⟨e0,he0,rfl⟩:=hx;rw[List.getElem?_drop]at he0;have he0m:=Fe he0;have he0':(es++ne)[q+i]? =some e0:=by
      rw[FX (Fp.mp he0).1];exact he0
     have e0m:e0∈es++ne:=Gd _ he0m;have hp6:=r6.ents e0 e0m;have okp:=r6.okk e0 e0m;refine⟨rfl,r6.ext.up hg (fun ps z=>nomatch z),r6.ext.up hg (fun ps z=>nomatch z),e0.a,e0.x,rfl,r6.ext,j6,hp6,okp,fun l3 H7 ss hl3 h7 s7 n7 e7 j7=>?_⟩
     have nl3:l3≠l2:=(aA h6l hl3).symm;have hstn:∀ e∈ss,(e.z,e.st)∈steps e0.x:=fun e he=>n7▸FK (f:=fun e:SE α β=>(e.z,e.st)) he
     have nT:∀{H:Hp} {b:Addr} {ys:List V},H b=some (.lst ys)->∀ ps,HO.lst ys≠.tbl ps:=fun _ ps z=>nomatch z
     refine⟨_,.inl h7,bZ (xs:=ss.map fun e=>V.ref e.ap) (fun j σ H8=>∃(v6 v7:Option V) (n2:List (En α β)),σ=[some (.ref c),some (.ref g),some (.ref d),some (.ref e0.a),some (.ref l),some (.ref l2),v6,v7]/\RS E L steps (qs.map (·.1)) P w T ok U H H8 d (es++n2)/\J H8/\H8 l=some (.lst (rfs ((es.drop q).map fun e=>(e.x,e.a)))) ∧
       H8 l2=some (.lst (rfs (n2.map fun e=>(e.x,e.a))))/\H8 l3=some (.lst (ss.map fun e=>V.ref e.ap))/\aQ H7 H8/\n2.length+mis U ((es++n2).map (·.x))<=mis U (es.map (·.x))/\(∃ n3,n2=ne++n3) ∧
       (es++n2).map xpE=pushS e0.p ((es++ne).map xpE) ((steps e0.x).take j))
      ⟨_,_,ne,rfl,r6.upP e7,j7,e7.up h6 (nT h6),e7.up h6l (nT h6l),h7,fun _ _ h=>h,hms,⟨[],by rw[FR]⟩,by rw[List.take_zero];rfl⟩ (fun j σ H8 _ hp=>?_) ?_ ?_⟩
     ·obtain⟨_,_,_,_,_,_,_,_,h8,_⟩:=hp;exact .inl h8
     ·rintro j x σ H8 hx ⟨u6,u7,n2,rfl,r8,j8,h8,h8l,h83,t8,hms2,⟨n3,hn3⟩,hrun8⟩;rw[E9,Fl]at hx;obtain⟨e,he,rfl⟩:=hx;have hem:=Fe he;obtain⟨s1,s2,s3⟩:=s7 e hem;have s1:=t8 _ _ s1;have s2:=t8 _ _ s2;have s3:=L.up t8 s3;have oke:ok e.st:=hnx _ okp _ (hstn e hem);have tk:(steps e0.x).take (j+1)=(steps e0.x).take j++[(e.z,e.st)]:=by
       rw[Gb,<-n7,E9,he];rfl
      refine⟨_,.inl s2,rfl,?_⟩;refine⟨_,r8.dd,r8.keys,_,s1,_,E.ok e.st,aV (fun hB=>?_) (fun hB=>?_)⟩
      ·have hB:e.st∉(es++n2).map (·.x):=by
        have hB:(!(atB ((es++n2).map (enB E)) (E.key e.st)).isSome)=true:=hB;rw[jw]at hB;simpa using hB
       refine⟨z1 (by show 2<=1000;decide),fun t H9 ht h9 e9=>?_⟩
       have r9:=r8.up e9;refine⟨_,r9.dd,r9.keys,z2 (by rw[E3];exact r9.len hUl),_,e9.up s1,_,E.ok e.st,fun H10 h10 b10=>?_⟩
       rw[tX E (p:=e0.p++[e.z]) hB]at h10;have e0m2:e0∈es++n2:=Gd _ he0m;have r10:=r9.put hU (e9.up s1) hB oke (.inr ⟨t,e0.a,e.z,e.lv,e0,e0m2,rfl,h9,r9.ents e0 e0m2,rfl,L.up (Ext.tup e9) s3,hstn e hem⟩) h10 b10;have j10:J H10:=jo.but (jo.ext j8 e9) r9.dd (fun ps z=>nomatch z) (fun o k z=>nomatch z) b10
       have nd:∀{b:Addr} {ys:List V},H9 b=some (.lst ys)->b≠d:=fun hb=>aX hb r9.dd fun w=>nomatch w
       have h10l:H10 l2=some (.lst (rfs (n2.map fun e=>(e.x,e.a)))):=b10.up (nd (e9.up h8l)) (e9.up h8l)
       have rl:n2.length<=1000:=by
        have:mis U (es.map (·.x))<=U.length:=List.countP_le_length
        lia
       refine⟨_,.inl h10l,_,h10l,by unfold rfs;rw[E3,E3];exact z2 rl,fun H11 h11 b11=>?_⟩
       have t9:aQ H8 H10:=aQ.trans (Ext.tup e9) (eM b10 r9.dd fun xs z=>nomatch z)
       have t11:aQ H10 H11:=eM b11 h10l fun xs z=>nomatch z
       have nd2:d≠l2:=aX r10.dd h10l fun w=>nomatch w
       have j11:J H11:=jo.but j10 h10l (fun ps z=>nomatch z) (fun o k z=>nomatch z) b11
       have ass:es++n2++[En.mk e.st e.as (V.ref t) (e0.p++[e.z])]=es++(n2++[En.mk e.st e.as (V.ref t) (e0.p++[e.z])]):=FW ..;have r11:=r10.move (ph r10.ext hl2n b11) (b11.up nd2 r10.dd) t11;rw[ass]at r11;refine⟨_,_,n2++[En.mk e.st e.as (V.ref t) (e0.p++[e.z])],rfl,r11,j11,b11.up nl (b10.up (nd (e9.up h8)) (e9.up h8)),?_,b11.up nl3 (b10.up (nd (e9.up h83)) (e9.up h83)),aQ.trans t8 (aQ.trans t9 t11),?_,⟨n3++[En.mk e.st e.as (V.ref t) (e0.p++[e.z])],by rw[hn3,FW]⟩,?_⟩
       ·rw[h11];unfold rfs;rw[Fc,Fc];rfl
       ·have:=gK hB U
        rw[if_pos (hU _ oke)]at this;rw[<-ass,Fh,Fc];show n2.length+1+mis U ((es++n2).map (·.x)++[e.st])<=_
        lia
       ·rw[tk,jE,<-hrun8];unfold pushS;rw[eT,if_neg hB,<-ass,Fc];rfl
      ·have hB:e.st∈(es++n2).map (·.x):=by
        have hB:¬ (!(atB ((es++n2).map (enB E)) (E.key e.st)).isSome)=true:=hB;rw[jw]at hB;exact Decidable.byContradiction fun z=>hB (by rw[FI z];rfl)
       refine⟨_,_,n2,rfl,r8,j8,h8,h8l,h83,t8,hms2,⟨n3,hn3⟩,?_⟩;rw[tk,jE,<-hrun8];unfold pushS;rw[eT,if_pos hB];rfl
     ·rintro σ H8 ⟨u6,u7,n2,rfl,r8,j8,h8,h8l,h83,t8,hms2,hn3,hrun8⟩;refine⟨_,_,_,n2,rfl,r8,j8,h8,h8l,hms2,?_⟩;have full:(steps e0.x).take (ss.map fun e=>V.ref e.ap).length=steps e0.x:=FQ (by rw[<-n7,E3,E3];exact E7 _)
      rw[full]at hrun8;rw[hrun8];refine Run.next (k:=q+i) hrun6 ?_;rw[E9,he0'];rfl
    ·rintro σ H6 ⟨w3,w6,w7,ne,rfl,r6,j6,h6,h6l,hms,hrun6⟩;have lq:q+(rfs ((es.drop q).map fun e=>(e.x,e.a))).length=es.length:=by
      unfold rfs;rw[E3,frl];lia
     rw[lq]at hrun6;have dr:(es++ne).drop es.length=ne:=by rw[List.drop_left]
     refine⟨_,?_,_,_,_,_,l2,es++ne,es.length,rfl,r6,j6,hl2n,by rw[dr];exact h6l,by rw[Fh];lia,hrun6,rfl⟩
     rw[dr];cases ne with
     | nil=>
      rw[if_pos rfl];simp only[GP]at hms;lia
     | cons p re=>
      rw[if_neg (by simp)]
      rw[Fy]at hms;lia
   ·have hnil:es.drop q=[]:=by
     cases h:es.drop q with
     | nil=>rfl
     | cons p r=>rw[h]at hA;exact absurd rfl hA
    have:q=es.length:=by
     have:=congrArg List.length hnil
     rw[GJ,GP]at this;lia
    rw[this]at hrun;exact k d H4 es r hrun j4
end
end K
end
section
namespace SB
open PySem PySem.Spec PyProof.Rows L2
section
variable {X:Cx}{o i:Expr}{td ty:TE}{pos:Pos}
noncomputable def Dv (X:Cx)(td ty:TE):TE:=fun σ H Q=>td σ H fun x H1=>ty σ H1 fun y H2=>match x,y with
 | .ref a,.ref b=>∃ xs,H2 a=some (DTB X.prog X.w a xs)/\fP H2 xs/\∃ ys,H2 b=some (.tup ys)/\∃ k,dH ys k/\∃ v,atB xs k=some v/\Q v H2
 | _,_=>False
theorem yL{xs:List bq}(I:Inv X pins σ H s)(e:H a=some (DTB X.prog X.w a xs)):s.TypeIs (.ref a) "dict":=by
 obtain⟨⟨vs,r,z,hs,o,es,ep,ho,ex,hd,h4,h5⟩,_⟩:=(show au X.prog X.w H s.heap a (DTB X.prog X.w a xs) from I.hok a _ e)
 exact⟨o,ho,ex.1⟩
theorem oK(hu:X.A.units+64<cLine)(ho:PE X o td)(hi:PE X i ty)(hs:jy i:=by intro _ _;rfl):PE X (.Subscript o i pos) (Dv X td ty):=by
 intro pins s σ H Q I h;refine rR PySem.F.slot_dict_getitem.lookup hs (thn (ho pins s σ H _ I h) fun u s1 ⟨x,H1,I1,rx,q1⟩=>thn (hi pins s1 σ H1 _ I1 q1) fun iv s2 hZ=>?_)
 obtain⟨y,H2,I2,ry,q2⟩:=hZ
 try dsimp only at q2
 split at q2
 ·rename_i a b
  obtain⟨xs,hx,kk,ys,hy,k,hk,v,hv,q⟩:=q2;cases rx
  cases ry
  obtain⟨z,hd,vs,r,dd⟩:=mn I2.hok hx kk;have ra:=r.at k;rw[hv]at ra;cases e:atKey vs k with
  | none=>rw[e]at ra;exact False.elim ra
  | some p=>
   rw[e]at ra;exact⟨yL I2 hx,wpAny_getItem_heap (tupleKind_room_in1 (by lia)) (kz I2.hok hy hk) dd e ⟨v,H2,I2.tok _,ra,q⟩⟩
 ·exact q2.elim
end
end SB
end
section
end
section
namespace SB
open PySem PySem.Spec PyProof.Rows L2
noncomputable def cj:List Int->List Int->Bool
 | [],[]=>false
 | [],_::_=>true
 | _::_,[]=>false
 | x::xs,y::ys=>if x=y then cj xs ys else decide (x<y)
theorem pK:∀ a b c:List Int,cj a b=true->cj b c=true->cj a c=true
 | [],[],_,h,_=>by cases h
 | [],_::_,[],_,h=>by cases h
 | [],_::_,_::_,_,_=>rfl
 | _::_,[],_,h,_=>by cases h
 | _::_,_::_,[],_,h=>by cases h
 | x::xs,y::ys,z::zs,h1,h2=>by
  unfold cj at h1 h2 ⊢
  by_cases e1:x=y
  ·subst e1;rw[if_pos rfl]at h1
   by_cases e2:x=z
   ·rw[if_pos e2]at h2 ⊢;exact pK xs ys zs h1 h2
   ·rw[if_neg e2]at h2 ⊢;exact h2
  ·rw[if_neg e1]at h1;have h1:=FA h1
   by_cases e2:y=z
   ·subst e2;rw[if_neg e1];exact Fq h1
   ·rw[if_neg e2]at h2;have h2:=FA h2;rw[if_neg (by lia)]
    exact Fq (by lia)
theorem qX:∀ a b:List Int,a≠b->cj a b=false->cj b a=true
 | [],[],h,_=>absurd rfl h
 | [],_::_,_,h=>by cases h
 | _::_,[],_,_=>rfl
 | x::xs,y::ys,h,h1=>by
  unfold cj at h1 ⊢
  by_cases e:x=y
  ·subst e;rw[if_pos rfl]at h1 ⊢;exact qX xs ys (fun z=>h (by rw[z])) h1
  ·rw[if_neg e]at h1;rw[if_neg (fun z=>e z.symm)]
   have:=of_decide_eq_false h1
   exact Fq (by lia)
theorem uV:∀ a b:List Int,cj a b=true->cj b a=false
 | [],[],h=>by cases h
 | [],_::_,_=>rfl
 | _::_,[],h=>by cases h
 | x::xs,y::ys,h=>by
  unfold cj at h ⊢
  by_cases e:x=y
  ·subst e;rw[if_pos rfl]at h ⊢;exact uV xs ys h
  ·rw[if_neg e]at h;rw[if_neg (fun z=>e z.symm)]
   have:=FA h
   exact FI (by lia)
theorem Co:cw (fun _:List Int=>True) cj:=⟨fun a b c _ _ _=>pK a b c,fun a b _ _=>qX a b,fun a b _ _=>uV a b⟩
noncomputable def Nums (xs:List Int)(vs:List Value):Prop:=Vals (xs.map V.int) vs
theorem Nums.cons_inv{x:Int}{xs:List Int}(h:Nums (x::xs) vs):∃ t r,vs=.int x t::r/\Nums xs r:=by
 unfold Nums at h;rw[Fi]at h;cases h with
 | cons r1 r2=>
  obtain⟨t,rfl⟩:=r1;exact⟨t,_,rfl,r2⟩
theorem Nums.nil_inv(h:Nums [] vs):vs=[]:=by
 unfold Nums at h;cases h
 rfl
section
variable {prog:Program}{w:World}{A:Around}{E:Value->Shared->Prop}{s:Shared}
theorem uS{b fin:Bool}{C:Bool->Shared->Prop}:∀(xs ys:List Int)(vs vs':List Value)(i:Nat),Nums xs vs->Nums ys vs'->fin=decide (xs.length<ys.length)->C (cj xs ys) s->PySem.W.KatLex prog w A b fin C (vs.zip vs') i s
 | [],[],vs,vs',i,h1,h2,hf,h=>by
  rw[h1.nil_inv,h2.nil_inv,hf];exact h
 | [],y::ys,vs,vs',i,h1,h2,hf,h=>by
  obtain⟨t,r,rfl,_⟩:=h2.cons_inv;rw[h1.nil_inv,hf];exact h
 | x::xs,[],vs,vs',i,h1,h2,hf,h=>by
  obtain⟨t,r,rfl,_⟩:=h1.cons_inv;rw[h2.nil_inv,hf];exact h
 | x::xs,y::ys,vs,vs',i,h1,h2,hf,h=>by
  obtain⟨t,r,rfl,n1⟩:=h1.cons_inv;obtain⟨t',r',rfl,n2⟩:=h2.cons_inv;rw[List.zip_cons_cons];unfold cj at h;refine PySem.W.kat_cons (wpAny_eqBool_int ?_)
  by_cases e:x=y
  ·subst e;rw[if_pos rfl]at h;rw[show(x==x)=true from by simp]
   exact PySem.W.kat_yes (uS xs ys r r' (i+1) n1 n2 (by rw[hf];simp) h)
  ·rw[if_neg e]at h;rw[show(x==y)=false from by simpa using e]
   refine PySem.W.kat_no ?_;cases hb:(b&&i==0) with
   | false=>exact PySem.W.kat_one _ _ (lt_int h)
   | true=>exact oneLt_int h
noncomputable def c6 (h:Heap)(xs:List Int)(a:Addr):Prop:=∃ o its n,h.get? a=some o/\o.cls=.type "tuple"/\o.data=.seq its n/\Nums xs its.toList
theorem c6.keep{xs:List Int}(n:c6 h xs a)(k:∀ b o,h.get? b=some o->h'.get? b=some o):c6 h' xs a:=by
 obtain⟨o,its,m,h1,h2,h3,h4⟩:=n;exact⟨o,its,m,k _ _ h1,h2,h3,h4⟩
theorem pJ:∀{xs ys:List Int}{vs:List Value},Nums xs vs->Nums ys vs->xs=ys
 | [],[],_,_,_=>rfl
 | [],y::ys,vs,h1,h2=>by
  obtain⟨t,r,rfl,_⟩:=h2.cons_inv
  have:=h1.nil_inv
  cases this
 | x::xs,[],vs,h1,h2=>by
  obtain⟨t,r,rfl,_⟩:=h1.cons_inv
  have:=h2.nil_inv
  cases this
 | x::xs,y::ys,vs,h1,h2=>by
  obtain⟨t,r,rfl,n1⟩:=h1.cons_inv;obtain⟨t',r',e,n2⟩:=h2.cons_inv;injection e with e1 e2;injection e1 with e3 _;subst e3;subst e2;rw[pJ n1 n2]
theorem c6.inj{xs ys:List Int}(n:c6 h xs a)(m:c6 h ys a):xs=ys:=by
 obtain⟨o,its,k,h1,h2,h3,h4⟩:=n;obtain⟨o',its',k',h1',h2',h3',h4'⟩:=m;rw[h1]at h1';cases h1'
 rw[h3]at h3';cases h3'
 exact pJ h4 h4'
theorem nC:∀{xs:List Int}{vs:List Value},Nums xs vs->vs.length=xs.length
 | [],_,h=>by rw[h.nil_inv];rfl
 | x::xs,_,h=>by
  obtain⟨t,r,rfl,n⟩:=h.cons_inv;rw[Fy,Fy,nC n]
theorem yl{xs ys:List Int}{a':Addr}(h1:c6 s.heap xs a)(h2:c6 s.heap ys a')(b:Bool){C:Bool->Shared->Prop}(h:C (cj xs ys) s):wpAny (model prog w) A (keyLt' (tuples' b) (.ref a) (.ref a')) C E s:=by
 obtain⟨o,its,n,ho,hc,hd,hi⟩:=h1;obtain⟨o',its',n',ho',hc',hd',hi'⟩:=h2;refine PySem.W.kat_lt ho hd ho' hd' (uS xs ys _ _ 0 hi hi' ?_ h);have e1:=nC hi;have e2:=nC hi';rw[Fx]at e1 e2;rw[e1,e2]
theorem wx{ys:List (List Int×Value)}(hk:∀ p∈ys,p.1≠[]/\∃ a,p.2=.ref a/\c6 s.heap p.1 a)(h2:2<=ys.length){Q:SortKind->Shared->Prop}(h:Q (tuples' true) s):wpAny (model prog w) A (keyKind' (ys.map (·.2)).toArray) Q E s:=by
 have hall:∀(zs:List (List Int×Value)),(∀ p∈zs,p.1≠[]/\∃ a,p.2=.ref a/\c6 s.heap p.1 a)->∃ fs:List Value,fs.length=zs.length/\PySem.W.KatTups s.heap (zs.map (·.2)) fs/\∀ f∈fs,∃ i t,f=Value.int i t:=by
  intro zs;induction zs with
  | nil=>intro _;exact⟨[],rfl,PySem.W.KatTups.nil,fun f hf=>by cases hf⟩
  | cons z zs ih=>
   intro hz;obtain⟨fs,l1,l2,l3⟩:=ih fun p hp=>hz p (Ff _ hp)
   obtain⟨zk,zv⟩:=z;obtain⟨hne,a,e,o,items,n,ho,hc,hd,hi⟩:=hz _ (Fd ..)
   simp only at e hi hne
   subst e;cases zk with
   | nil=>exact absurd rfl hne
   | cons k0 kr=>
    obtain⟨t,r,e,_⟩:=hi.cons_inv;refine⟨.int k0 t::fs,by rw[Fy,Fy,l1],PySem.W.KatTups.cons ho hc hd ?_ l2,fun f hf=>?_⟩
    ·rw[<-FE,e];rfl
    ·rcases Fn.mp hf with rfl|hf
     ·exact⟨k0,t,rfl⟩
     ·exact l3 f hf
 obtain⟨fs,l1,l2,l3⟩:=hall ys hk;refine PySem.W.kat_kind (T:=Value.type "int") l2 (by lia) (fun v hv=>?_) (by decide) h
 obtain⟨i,t,rfl⟩:=l3 v hv;exact .now
end
theorem xC{xs:List Int}(ok:HOk P w H h)(e:H a=some (.tup (xs.map V.int))):c6 h xs a:=by
 obtain⟨_,its,r,o,h1,h2,n,h3⟩:=(show au P w H h a (.tup (xs.map V.int)) from ok a _ e)
 exact⟨o,its.toArray,n,h1,h2,h3,r⟩
noncomputable abbrev jC:=List Int×Addr×V
noncomputable def fW (e:jC):bq:=(e.1.map Sum.inl,e.2.1,e.2.2)
theorem sO:∀{out:List (List Int×Value)}{f:List Int×Value->Addr},(∀ p∈out,p.2=Value.ref (f p))->Vals (out.map fun p=>V.ref (f p)) (out.map (·.2))
 | [],_,_=>.nil
 | p::out,f,h=>by
  rw[Fi,Fi,h p (Fd ..)];exact .cons rfl (sO fun q hq=>h q (Ff _ hq))
section
variable {X:Cx}
noncomputable def qQ (X:Cx):List V->Hp->VK->Prop:=fun xs H Q=>match xs with
 | [.ref a]=>∃ es:List jC,H a=some (DTB X.prog X.w a (es.map fW))/\(∀ e∈es,H e.2.1=some (.tup (e.1.map V.int))/\e.1≠[])/\bB ((es.map (·.1)).Nodup) ∧
   ∀ out:List (List Int×Addr),out.Perm (es.map fun e=>(e.1,e.2.1))->(out.map (·.1)).Pairwise (fun x y=>cj x y=true)->New H (.lst (out.map fun p=>V.ref p.2)) Q
 | _=>False
theorem Cz(hc:X.calm=true):aH X (.builtin "sorted") (qQ X):=by
 intro pins s σ H xs us Q I r h;unfold qQ at h
 split at h
 ·rename_i a
  obtain⟨xs,hx,hk,nd,q⟩:=h;have nd:(xs.map (·.1)).Nodup:=nd;obtain⟨u,rfl,rx⟩:=vals1 r;cases rx
  obtain⟨⟨vs,rel,z,hs,o,es,ep,ho,ex,hd,h4,h5⟩,_⟩:=(show au X.prog X.w H s.heap a (DTB X.prog X.w a (xs.map fW)) from I.hok a _ hx)
  have hlen:es.size=xs.length:=by
   have:=congrArg List.length h4
   rw[E3,<-Paired.length rel,E3]at this;simpa using this
  rw[E3]at z;have nt:∀ e∈xs,c6 s.heap e.1 e.2.1:=fun e he=>xC I.hok (hk e he).1
  refine uC (Rel:=fun k v=>∃ e∈xs,e.1=k/\v=.ref e.2.1) Co (ks:=xs.map (·.1)) (by rw[E3];exact z) nd (fun _ _=>trivial) ?_ (tuples' true) ?_ ?_ ?_ ?_
  ·rintro k _ k' _ v ⟨e,he,rfl,rfl⟩ ⟨e',he',rfl,e2⟩;injection e2 with e2;have n1:=nt e he;rw[e2]at n1;exact n1.inj (nt e' he')
  ·intro s1 ys hy kp h2 Q' q';refine wx (fun p hp=>?_) h2 q'
   obtain⟨_,e,he,e1,e2⟩:=hy p hp;exact⟨by rw[<-e1];exact(hk e he).2,e.2.1,e2,by rw[<-e1];exact(nt e he).keep kp⟩
  ·rintro s1 kp x ⟨_,e,he,e1,e2⟩ y ⟨_,e',he',e1',e2'⟩ C hC;rw[e2,e2'];rw[<-e1,<-e1']at hC;exact yl ((nt e he).keep kp) ((nt e' he').keep kp) true hC
  ·intro E' R hR;refine gather (A:=X.A.in1) (pP hs ex hd) (by simp [I.ok.hd hc]) ho (by rw[hlen];exact z) fun h' tk acc kp hsz hacc=>?_
   obtain⟨ys,e1,e2,e3⟩:=jk (Rel:=fun(k:List Int) v=>∃ e∈xs,e.1=k/\v=.ref e.2.1) (xs.map (·.1)) acc.toList (by rw[Fx,hacc.1,E3,hlen]) fun i k v hk hv=>by
    have hv':acc[i]? =some v:=by rw[<-FE];exact hv
    obtain⟨e',hkx,hkey⟩:=hacc.2 i v hv';rw[E9,Fl]at hk;obtain⟨e,he,rfl⟩:=hk;obtain⟨u,hu,_⟩:=mY rel (e:=fW e) (by rw[E9,he];rfl)
    have hx2:es[i]? =some (entryOfKey (tupleKind (dU X.prog X.w)) ((fW e).1,(fW e).2.1,u)):=by
     rw[<-FE,h4,E9,hu];rfl
    rw[hx2]at hkx;cases hkx
    exact⟨e,Fe he,rfl,hkey⟩
   rw[<-e2];exact hR h' tk ys e1 e3 kp hsz
  ·intro h' tk D c out hpo hup hrel keep hD hg;have pick:∀ p:List Int×Value,∃ b:Addr,p∈out->p.2=.ref b/\(p.1,b)∈xs.map fun e=>(e.1,e.2.1):=fun p=>by
    by_cases hp:p∈out
    ·obtain⟨e,he,e1,e2⟩:=hrel p hp;exact⟨e.2.1,fun _=>⟨e2,E5.mpr ⟨e,he,by rw[e1]⟩⟩⟩
    ·exact⟨0,fun z=>absurd z hp⟩
   let f:=fun p=>Classical.choose (pick p)
   have hf:∀ p∈out,p.2=.ref (f p)/\(p.1,f p)∈xs.map fun e=>(e.1,e.2.1):=fun p hp=>Classical.choose_spec (pick p) hp
   have hol:out.length=xs.length:=by
    have:=hpo.length_eq
    rw[E3,E3]at this;exact this
   have hperm:(out.map fun p=>(p.1,f p)).Perm (xs.map fun e=>(e.1,e.2.1)):=by
    have n1:(out.map (·.1)).Nodup:=hpo.nodup_iff.mpr nd;have n2:(out.map fun p=>(p.1,f p)).Nodup:=by
     have:((out.map fun p=>(p.1,f p)).map (·.1)).Nodup:=by rw[Fm];exact n1
     exact List.Pairwise.of_map (S:=fun a b=>a≠b) (·.1) (fun a b h z=>h (by rw[z])) this
    have n3:(xs.map fun e=>(e.1,e.2.1)).Nodup:=by
     have:((xs.map fun e=>(e.1,e.2.1)).map (·.1)).Nodup:=by rw[Fm];exact nd
     exact List.Pairwise.of_map (S:=fun a b=>a≠b) (·.1) (fun a b h z=>h (by rw[z])) this
    refine(List.perm_ext_iff_of_nodup n2 n3).mpr fun q=>⟨fun hq=>?_,fun hq=>?_⟩
    ·obtain⟨p,hp,rfl⟩:=E5.mp hq
     exact(hf p hp).2
    ·obtain⟨e,he,rfl⟩:=E5.mp hq
     have:e.1∈out.map (·.1):=hpo.mem_iff.mpr (FK he)
     obtain⟨p,hp,e1⟩:=E5.mp this;refine E5.mpr ⟨p,hp,?_⟩;obtain⟨e',he',e2⟩:=E5.mp (hf p hp).2;have e3:=(Prod.mk.inj e2)
     have:e'=e:=by
      have hh:∀{l:List jC},(l.map (·.1)).Nodup->e'∈l->e∈l->e'.1=e.1->e'=e:=by
       intro l hl;induction l with
       | nil=>intro h _ _;cases h
       | cons y l ih=>
        rw[Fi,Gg]at hl;intro m1 m2 ee;rcases Fn.mp m1 with z1|m1 <;> rcases Fn.mp m2 with z2|m2
        ·rw[z1,z2]
        ·rw[z1]at ee;exact absurd (ee▸FK (f:=(·.1)) m2) hl.1
        ·rw[z2]at ee;exact absurd (ee▸FK (f:=(·.1)) m1) hl.1
        ·exact ih hl.2 m1 m2 ee
      exact hh nd he' he (by rw[e3.1,e1])
     rw[<-e3.2,this,e1]
   have I2:Inv X pins σ (upd H D (.lst ((out.map fun p=>(p.1,f p)).map fun p=>V.ref p.2))) { s with heap:=h',toks:=tk }:=
    I.laid (t':=tk) keep hD (show au X.prog X.w _ h' D (.lst ((out.map fun p=>(p.1,f p)).map fun p=>V.ref p.2)) from⟨by rw[E3,E3,hol];exact z,out.map (·.2),c,by rw[Fm];exact sO fun p hp=>(hf p hp).1,hg⟩)
   exact⟨V.ref D,_,I2,rfl,(q _ hperm (by rw[Fm];exact hup)).at (I.hok.fresh hD)⟩
 ·exact h.elim
noncomputable def sf:List V->Hp->VK->Prop:=fun xs H Q=>match xs with
 | [.ref p]=>∃ ys,RdT H p ys/\New H (.lst ys) Q
 | _=>False
theorem wc:aH X (.type "list") sf:=aH.weak qY fun xs H Q h=>by
 unfold sf at h
 split at h
 ·obtain⟨ys,hy,q⟩:=h;exact⟨_,ys,rfl,.inr hy.sq,fun l hl=>q.at hl⟩
 ·exact h.elim
noncomputable def uIT (K:PySem.W.Frag)(tl:TE):TI:=fun σ H R=>tl σ H fun x H1=>match x with
 | .ref a=>∃ xs,RdT H1 a xs/\R (Itt K a) H1
 | _=>False
theorem Ex{l:Expr}{tl:TE}(hl:PE X l tl):PI X tg l (uIT X.K tl):=PI.weak (Bb (PE.cl hl)) fun σ H R h=>⟨_,h,fun x H1 q=>by
 split at q
 ·obtain⟨xs,hx,q⟩:=q;exact⟨_,rfl,⟨xs,hx.sq⟩,q⟩
 ·exact q.elim⟩
end
theorem pD(e:Ext H H')(h:RdT H a xs):RdT H' a xs:=by
 rcases h with h|⟨o,h⟩
 ·exact .inl (e.up h)
 ·exact .inr ⟨o,e.up h⟩
theorem BD{K:PySem.W.Frag}(h:RdT H a xs):Wk (Itt K a) H xs where
 go:=fun i H' e hi=>⟨xs,xs[i],(pD e h).sq,by simp [hi]⟩
 yld:=fun i H' x H2 e hi y=>⟨y.1,y.2 xs (pD e h).sq⟩
 stop:=fun H' e=>⟨xs,(pD e h).sq,E7 _⟩
theorem Ay{xs:List bq}{g:TG}{tb:TS}(Pv:Nat->L2.St->Hp->Prop)(h0:Pv 0 σ H)(hl:∀ i σ H,i<=xs.length->Pv i σ H->H a=some (.frz o (DTB P w a xs)))(hs:∀ i e σ H,xs[i]? =some e->Pv i σ H->g (.ref e.2.1) σ H fun σ2 H2=>tb { D with nx:=Pv (i+1),ct:=Pv (i+1),bk:=D.nx } σ2 H2)(hd:∀ σ H,Pv xs.length σ H->D.nx σ H):jc g tb D σ (iW P w o a xs) H:=by
 refine⟨fun i m σ H=>m=xs.length-i/\i<=xs.length/\Pv i σ H,⟨xs.length,by simp,FG _,h0⟩,?_⟩
 rintro i m σ H ⟨rfl,hi,p⟩;have q:=hl i σ H hi p
 by_cases hlt:i<xs.length
 ·refine .inr ⟨⟨q,hlt⟩,Pv (i+1),fun σ' H' p'=>⟨xs.length-(i+1),by lia,rfl,hlt,p'⟩,fun x H' y=>?_⟩
  obtain⟨rfl,e,he,rfl⟩:=y;exact hs i e σ _ he p
 ·have e:i=xs.length:=by lia
  subst e;exact .inl ⟨⟨q,E7 _⟩,hd σ H p⟩
end SB
end
section
set_option maxHeartbeats 4000000
namespace K
open PySem PySem.Spec PyProof.Rows L2 SB
noncomputable abbrev jl:Stmt:=top 18
section
variable {α β:Type} [DecidableEq α] (E:eF α)(L:eB β)(steps:α->List (β×α))(st:List α)(P:Program)(w:World)
theorem EU{es:List (En α β)}(nd:(es.map (·.x)).Nodup):∀{i:Nat}{e:En α β},es[i]? =some e->atB (es.map (enB E)) (E.key e.x)=some e.v:=by
 induction es with
 | nil=>intro i e h;simp at h
 | cons d r ih=>
  intro i e h;rw[Fi]at nd;obtain⟨n1,n2⟩:=Gg.mp nd;unfold atB;rw[Fi,F9];cases i with
  | zero=>
   have h:=Fw h;subst h;rw[Fq (show(enB E d).1=E.key d.x from rfl)]
   rfl
  | succ i=>
   have h:r[i]? =some e:=by simpa using h
   have hm:e.x∈r.map (·.x):=FK (Fe h);have ne:¬ (enB E d).1=E.key e.x:=fun z=>n1 (by
    have:=E.inj _ _ z
    rw[this];exact hm)
   rw[FI ne];exact ih n2 h
inductive Pth {α β:Type}(steps:α->List (β×α)):α->List β->α->Prop
 | nil (x:α):Pth steps x [] x
 | cons {x y z:α} {b:β} {ls:List β}:(b,y)∈steps x->Pth steps y ls z->Pth steps x (b::ls) z
structure DS (H:Hp)(d:Addr)(es:List (En α β)):Prop where
 dd:H d=some (DTB P w d (es.map (enB E)))
 ents:∀ e∈es,H e.a=some (.tup (E.enc e.x))
 came:∀(i:Nat) (e:En α β),es[i]? =some e->gh E L steps st H (es.take i) e
 nd:(es.map (·.x)).Nodup
 len:es.length<=1000
variable {E L steps st P w}{H H':Hp}{d:Addr}{es:List (En α β)}
theorem DS.keys(r:DS E L steps st P w H d es):fP H (es.map (enB E)):=fun q hq=>by
 obtain⟨e,he,rfl⟩:=E5.mp hq;exact⟨_,r.ents e he,E.ok e.x⟩
theorem DS.move(r:DS E L steps st P w H d es)(dd:H' d=some (DTB P w d (es.map (enB E))))(t:aQ H H'):DS E L steps st P w H' d es:=
 ⟨dd,fun e he=>t _ _ (r.ents e he),fun i e h=>(r.came i e h).up t,r.nd,r.len⟩
theorem DS.up(r:DS E L steps st P w H d es)(x:Ext H H'):DS E L steps st P w H' d es:=r.move (x.up r.dd) (Ext.tup x)
end
noncomputable def iF {α β:Type} [DecidableEq α] (E:eF α)(L:eB β)(P:Program)(w:World):Sp:=fun vs H Q _=>∃(d b:Addr)(steps:α->List (β×α))(st:List α)(e:En α β)(es:List (En α β)),vs=[.ref d,.ref b]/\DS E L steps st P w H d es/\H b=some (.tup (E.enc e.x))/\e∈es ∧
 ∀ t pl ll H' (ls:List (β×V)) (x0:α),H ll=none->H' t=some (.tup [.ref pl,.ref ll])->H' pl=some (.tup (E.enc x0))->x0∈st->Pth steps x0 e.p e.x->H' ll=some (.lst (ls.map (·.2)))->(∀ q∈ls,L.at' H' q.1 q.2)->ls.map (·.1)=e.p->Ext H H'->Q (.ref t) H'
noncomputable abbrev nWy:List Str:=["came_by","place","labels"]
theorem zK:aJ nWy ["came_by","place"] (ah jl):=⟨rfl,rfl,rfl,by decide +kernel,rfl,by decide +kernel,by decide +kernel⟩
section
variable {α β:Type} [DecidableEq α] {E:eF α}{L:eB β}{P:Program}{w:World}{K:PySem.W.Frag}{mg:Str->Option Value}{base:Heap}
theorem rk(F:Fun K "way_to" "way_to" jl f fd):ao P w K mg base CX0 1 f fd ["came_by","place"] (iF E L P w):=by
 refine F.ok zK (fun vs H Q E h=>?_) (fun cdv A outer s H vs Q E1 hr h=>?_)
 ·obtain⟨d,b,steps,st,e,es,rfl,_⟩:=h;rfl
 ·obtain⟨d,b,steps,st,e0,es,rfl,r,hb,he0,k⟩:=h;have hu:=hr.units;refine⟨_,af (av nWy 2 (bw ab))
   (af (pz PassesOwn.never (aG mx (oK hu (q_v 0) (q_v 1) (fun _ _=>rfl)) et)
    (af (bQ (eZ (q_v 2) (aq aI (oK hu (q_v 0) (q_v 1) (fun _ _=>rfl)) ae (fun _ _=>rfl))))
    (ag (av nWy 1 (aq aI (oK hu (q_v 0) (q_v 1) (fun _ _=>rfl)) ae (fun _ _=>rfl))))))
   (af (bQ (Em (q_v 2)))
   (ag (aD (cM (aa (q_v 1) (aa (q_v 2) ab))))))),?_⟩
  have z1:∀{n:Nat},n<=1000->n<=sizeLine:=fun h=>by rw[Fz];lia
  have z2:∀{n:Nat},n<=1000->n<sizeLine:=fun h=>by rw[Fz];lia
  refine⟨z1 (by show 0<=1000;decide),fun ll H1 hll h1 e1=>?_⟩
  obtain⟨i0,hi0,hie⟩:=GQ he0;refine⟨(fun m σ H2=>∃(b':Addr) (e:En α β) (ls:List (β×V)),σ=[some (.ref d),some (.ref b'),some (.ref ll)]/\DS E L steps st P w H2 d es/\es[m]? =some e/\H2 b'=some (.tup (E.enc e.x))/\H2 ll=some (.lst (ls.map (·.2)))/\ls.length+m<=1000/\e0.p=e.p++(ls.map (·.1)).reverse/\(∀ q∈ls,L.at' H2 q.1 q.2)/\Pth steps e.x (ls.map (·.1)).reverse e0.x/\Ext H H2),
   ⟨i0,b,e0,[],rfl,r.up e1,by rw[Fg hi0,hie],e1.up hb,h1,by have:=r.len;show 0+i0<=1000;lia,by simp,(fun q hq=>nomatch hq),.nil _,e1⟩,?_⟩
  rintro m σ H2 ⟨b',e,ls,rfl,r2,he,hb2,h2,hlen,pth,hla,hP,x2⟩;have hat:=EU E r2.nd he;refine⟨_,r2.dd,r2.keys,_,hb2,_,E.ok e.x,_,hat,aV (fun hA=>?_) (fun hA=>?_)⟩
  ·have hA:e.v≠.non:=by
    have hA:(!decide (e.v=.non))=true:=hA;simpa using hA
   rcases r2.came m e he with⟨hv,_⟩|⟨t,ya,z,lv,e',hm',hv,ht,hy,hl,hz,hst⟩
   ·exact absurd hv hA
   ·refine⟨_,fun _ _ z=>z,?_⟩
    rw[hv]at hat;refine⟨_,.inl h2,_,r2.dd,r2.keys,_,hb2,_,E.ok e.x,_,hat,?_⟩;refine⟨_,.inl ht,_,rfl,_,h2,z2 (by rw[E3];lia),fun H3 h3 b3=>?_⟩
    have t3:aQ H2 H3:=eM b3 h2 fun xs z=>nomatch z
    have dn:d≠ll:=aX r2.dd h2 fun z=>nomatch z
    have r3:DS E L steps st P w H3 d es:=r2.move (b3.up dn r2.dd) t3;refine⟨_,r3.dd,r3.keys,_,t3 _ _ hb2,_,E.ok e.x,_,hat,?_⟩;refine⟨_,.inl (t3 _ _ ht),_,rfl,?_⟩;obtain⟨j,hj,hje⟩:=GQ hm';have hjm:j<m:=by
     rw[F3]at hj;lia
    have hje':es[j]? =some e':=by
     rw[List.getElem_take]at hje;rw[F3]at hj;rw[Fg (by lia),hje]
    refine⟨j,hjm,ya,e',ls++[(z,lv)],rfl,r3,hje',t3 _ _ hy,by rw[Fc];exact h3,?_,?_,fun q hq=>?_,?_,fun c u hc=>b3.up (aA hc hll) (x2.up hc)⟩
    ·rw[Fh,FZ];lia
    ·rw[pth,hl,Fc,List.reverse_append]
     simp
    ·rcases Fs.mp hq with hq|hq
     ·exact L.up t3 (hla q hq)
     ·rw[Fb]at hq;subst hq;exact L.up t3 hz
    ·rw[Fc,List.reverse_append];exact .cons hst hP
  ·have hA:e.v=.non:=by
    have hA:¬ (!decide (e.v=.non))=true:=hA;simpa using hA
   have hst:e.p=[]/\e.x∈st:=by
    rcases r2.came m e he with⟨_,h⟩|⟨t,ya,z,lb,e',hm',hv,_⟩
    ·exact h
    ·rw[hA]at hv;cases hv
   refine⟨_,.inl h2,_,h2,fun H3 h3 b3=>?_⟩
   have t3:aQ H2 H3:=eM b3 h2 fun xs z=>nomatch z
   refine⟨z1 (by show 2<=1000;decide),fun t H4 ht h4 e4=>?_⟩
   have pe:e0.p=(ls.map (·.1)).reverse:=by rw[pth,hst.1,List.nil_append]
   refine k t b' ll H4 ls.reverse e.x hll h4 (e4.up (t3 _ _ hb2)) hst.2 (pe▸hP) (e4.up ?_) (fun q hq=>L.up (Ext.tup e4) (L.up t3 (hla q (GV.mp hq)))) (by rw[List.map_reverse,pe]) fun c u hc=>e4.up (b3.up (aA hc hll) (x2.up hc))
   rw[h3,List.map_reverse]
end
end K
end
section
namespace SB
open PySem PySem.Spec PyProof.Rows L2
theorem D4{α:Type}(f:α->List V){enc:α->V}{zs:List α}{J:It}{fr:List (Option Nat)}{g:TG}{Q:VK}(wk:Wk J H1 (zs.map enc))(hz:zs.length<sizeLine)(step:∀(i:Nat)(a:α)(H:Hp)(K:V->Hp->Prop),zs[i]? =some a->Ext H1 H->New H (.lst (f a)) K->g (enc a) (frV fr σ) H fun σ' H3=>cQ fr σ σ'/\te σ' H3 K)(fin:∀ D H' (qs:List (α×Addr)),H1 D=none->H' D=some (.lst (rfs qs))->(∀ q∈qs,H' q.2=some (.lst (f q.1))/\H1 q.2=none/\q.2≠D)->qs.map (·.1)=zs->Ext H1 H'->Q (.ref D) H')(hg:fo g:=by intro x σ H Q Q' k q;exact k _ _ q):fe fr σ g (fun _ H Q=>Q true H) te J H1 Q:=by
 refine⟨?_⟩;intro D hD;refine⟨fun i m acc H=>m=zs.length-i/\i<=zs.length/\H D=some (.lst acc)/\Ext H1 H/\∃ qs:List (α×Addr),acc=rfs qs/\(∀ q∈qs,H q.2=some (.lst (f q.1))/\H1 q.2=none/\q.2≠D)/\qs.map (·.1)=zs.take i,⟨zs.length,by simp,FG _,aY,cY hD,[],rfl,(fun p hp=>nomatch hp),by simp⟩,?_⟩
 rintro i m acc H ⟨rfl,hi,hDa,ex,qs,rfl,hat,hqs⟩;have hl:(rfs qs).length=i:=by
  unfold rfs;rw[E3,<-E3 (f:=fun x:α×Addr=>x.1),hqs,F3]
  lia
 refine⟨hDa,by lia,?_⟩
 by_cases hlt:i<zs.length
 ·refine .inr ⟨wk.go i H ex (by rw[E3];exact hlt),fun x H2 y=>?_⟩
  obtain⟨rfl,hx⟩:=wk.yld i H x H2 ex (by rw[E3];exact hlt) y
  rw[E9,Fl]at hx;obtain⟨a,ha,rfl⟩:=hx;refine hg _ _ _ _ _ (fun σ' H3 q=>⟨q.1,?_⟩) (step i a _ (fun y H5=>H5 D=some (.lst (rfs qs))/\∃ m',m'<zs.length-i/\m'=zs.length-(i+1)/\i+1<=zs.length/\(upd H5 D (.lst (rfs qs++[y]))) D=some (.lst (rfs qs++[y]))/\Ext H1 (upd H5 D (.lst (rfs qs++[y])))/\∃ qs':List (α×Addr),rfs qs++[y]=rfs qs'/\(∀ q∈qs',(upd H5 D (.lst (rfs qs++[y]))) q.2=some (.lst (f q.1))/\H1 q.2=none/\q.2≠D)/\qs'.map (·.1)=zs.take (i+1)) ha ex fun p H5 hp h5 e5=>?_)
  ·show if true=true then _ else _
   rw[if_pos rfl];exact q.2
  ·refine⟨e5.up hDa,_,(by lia:zs.length-(i+1)<zs.length-i),rfl,hlt,aY,fun b o hb=>?_,qs++[(a,p)],?_,?_,?_⟩
   ·rw[ar (aA hb hD)];exact e5.up (ex.up hb)
   ·unfold rfs;rw[Fc];rfl
   ·intro z hz';rcases Fs.mp hz' with h|h
    ·obtain⟨h1,h3,h2⟩:=hat z h;rw[ar h2];exact⟨e5.up h1,h3,h2⟩
    ·rw[Fb]at h;subst h;have nd:p≠D:=(aA hDa hp).symm
     show(upd H5 D (.lst (rfs qs++[V.ref p]))) p=some (.lst (f a))/\H1 p=none/\p≠D
     rw[ar nd];exact⟨h5,ex.free hp,nd⟩
   ·rw[Fc,hqs,Gb,ha];rfl
 ·have e:i=zs.length:=by lia
  subst e;refine .inl ⟨by have:=wk.stop H ex;rw[E3]at this;exact this,fin D H qs hD hDa hat (by rw[hqs,GD]) ex⟩
end SB
end
section
set_option maxHeartbeats 4000000
namespace K
open PySem PySem.Spec PyProof.Rows L2 SB
open PySem.W (CodeHd tabObj kla_obj kla_fn envX)
noncomputable abbrev bu:Stmt:=top 23
noncomputable def cH:eF (List Int) where
 enc:=fun x=>x.map V.int
 key:=fun x=>x.map Sum.inl
 ok:=fun x=>by
  unfold dH;rw[Fm,Fm];rfl
 inj:=fun a b h=>by
  induction a generalizing b with
  | nil=>
   cases b with
   | nil=>rfl
   | cons _ _=>cases h
  | cons x a ih=>
   cases b with
   | nil=>cases h
   | cons y b=>
    simp only[Fi,List.cons.injEq,Sum.inl.injEq]at h;rw[h.1,ih b h.2]
noncomputable def fg:eB Str:=⟨fun _ z v=>v=.str z,fun _ h=>h⟩
theorem C3{ls:List (Str×V)}(h:∀ q∈ls,fg.at' H q.1 q.2):ls.map (·.2)=(ls.map (·.1)).map V.str:=by
 rw[Fm];exact G2 fun q hq=>h q hq
noncomputable def subs:List Int->List (List Int)
 | []=>[[]]
 | x::xs=>subs xs++(subs xs).map (x::·)
theorem qw{a b:List Int}(h:a.Sublist b):a∈subs b:=by
 induction h with
 | slnil=>exact Fb.mpr rfl
 | cons x _ ih=>exact Gd _ ih
 | cons_cons x _ ih=>exact F0 _ (FK ih)
theorem tO:∀ b:List Int,(subs b).length=2^b.length
 | []=>rfl
 | x::b=>by
  show(subs b++(subs b).map (x::·)).length=2^(b.length+1)
  rw[Fh,E3,tO b,Nat.pow_succ];lia
noncomputable def okR (n:Int)(x:List Int):Prop:=x≠[]/\x.Sublist (UI n)
theorem ni(hn:n<=8):(subs (UI n)).length<=1000:=by
 rw[tO];have h:(UI n).length<=8:=by unfold UI;rw[E3,F2];lia
 exact FL (Nat.pow_le_pow_right (by decide) h) (by decide)
theorem nB(n:Int):(UI n).Pairwise (· < ·):=by
 unfold UI;rw[GH];exact List.pairwise_lt_range.imp fun {a b} h=>by lia
theorem qq{l:List Int}(h:l.Pairwise (· < ·)):aB l=l:=by
 unfold aB;have e:srt kLt (l.map Sum.inl)=l.map Sum.inl:=by
  refine(iP (dI true) (fun k hk=>iC _ k hk) (fun k=>Iff.rfl) ?_).symm
  rw[GH];exact h.imp fun {a b} h=>Fq h
 rw[e,Fm];exact List.map_id' _
theorem uD(M:aj)(n:Int)(xs:List Int):(aW M n xs).Sublist (UI n):=by
 unfold aW;rw[qq ((nB n).filter _)];exact List.filter_sublist
theorem oM{M:aj}{xs:List Int}(hx:∀ r∈xs,okI n r)(hm:∀ m∈M.mv,bz n m):r∈aW M n xs↔Rc (dN M) xs r:=by
 unfold aW;rw[qq ((nB n).filter _),FH];constructor
 ·intro h;exact @of_decide_eq_true _ (Classical.propDecidable _) h.2
 ·intro h;exact⟨mj (ug hx hm h),@decide_eq_true _ (Classical.propDecidable _) h⟩
noncomputable def jW (M:aj)(x:List Int):List Str:=M.mv.filterMap fun m=>if m.1∈x then aT M.sg m.2.1 else none
theorem tR{M:aj}{x:List Int}:z∈jW M x↔aM M x M.mv z≠[]:=by
 unfold jW aM;rw[G5];constructor
 ·rintro⟨m,hm,h⟩ e
  split at h
  ·rename_i hx
   have:m∈M.mv.filter (cn M x z):=FH.mpr ⟨hm,by unfold cn;rw[h,Fq rfl,Fq hx];rfl⟩
   rw[List.map_eq_nil_iff]at e;rw[e]at this;cases this
  ·cases h
 ·intro h;rcases hl:M.mv.filter (cn M x z) with _|⟨m,r⟩
  ·rw[hl]at h;exact absurd rfl h
  ·have hm:m∈M.mv.filter (cn M x z):=by rw[hl];exact Fd ..
   obtain⟨h1,h2⟩:=FH.mp hm;unfold cn at h2;rw[F1]at h2;have h3:=FA h2.1;have h4:=FA h2.2;exact⟨m,h1,by rw[if_pos h4];exact h3⟩
noncomputable def dk (M:aj)(n:Int)(x:List Int):List (Str×List Int):=(cF (jW M x)).map fun z=>(z,aW M n (aM M x M.mv z))
noncomputable def cS (M:aj)(n:Int):List (List Int):=if aW M n M.st=[] then [] else [aW M n M.st]
theorem tJ{M:aj}(hm:∀ m∈M.mv,bz n m){x:List Int}:∀ r∈aM M x M.mv z,okI n r:=fun r hr=>by
 obtain⟨m,h,rfl⟩:=E5.mp hr
 exact(hm m (FH.mp h).1).2.2
theorem xk{M:aj}(hm:∀ m∈M.mv,bz n m){x:List Int}:∀ y∈dk M n x,okR n y.2:=fun y hy=>by
 obtain⟨z,hz,rfl⟩:=E5.mp hy;refine⟨fun e=>?_,uD M n _⟩
 have h:=tR.mp (oe.mp hz);rcases hl:aM M x M.mv z with _|⟨r,l⟩
 ·exact h hl
 ·have:r∈aW M n (aM M x M.mv z):=(oM (tJ hm) hm).mpr (.base (by rw[hl];exact Fd ..))
  have e:aW M n (aM M x M.mv z)=[]:=e;rw[e]at this;cases this
noncomputable def jz (s:Stmt):Expr:=match cy s with
 | [_,.Assign _ (.Call _ [_,l] _ _) _,_,_]=>l
 | _=>.Name "" ⟨0,0,0,0⟩
noncomputable def pT (s:Stmt):Arguments:=match jz s with | .Lambda a _ _ _=>a|_=>cR (.Pass ⟨0,0,0,0⟩)
noncomputable def sR (s:Stmt):Expr:=match jz s with | .Lambda _ b _ _=>b|_=>.Name "" ⟨0,0,0,0⟩
noncomputable def gB (s:Stmt):Scope:=match jz s with | .Lambda _ _ c _=>c|_=>ah (.Pass ⟨0,0,0,0⟩)
noncomputable def fc (s:Stmt):Pos:=match jz s with | .Lambda _ _ _ p=>p|_=>⟨0,0,0,0⟩
noncomputable abbrev lvQ:Str:=(("secret":Str)++(".<locals>.":Str))++("<lambda>":Str)
theorem C7{l l':List Str}(h:∀ x,x∈l↔x∈l'):cF l=cF l':=by
 unfold cF;rw[kj (dI false) (o6 l) fun k=>?_]
 simp only[E5]
 constructor <;> rintro⟨a,ha,rfl⟩
 ·exact⟨a,(h a).mp ha,rfl⟩
 ·exact⟨a,(h a).mpr ha,rfl⟩
theorem rN{M:aj}{x:List Int}:∀ qs:List (Str×Addr),(∀ q∈qs,je M n x q.1 q.2 H)->∃ es:List (SE (List Int) Str),(es.map fun e=>V.ref e.ap)=rfs qs/\(∀ e∈es,H e.as=some (.tup (cH.enc e.st))/\H e.ap=some (.tup [e.lv,.ref e.as])/\fg.at' H e.z e.lv) ∧
  es.map (fun e=>(e.z,e.st))=(qs.map (·.1)).map fun z=>(z,aW M n (aM M x M.mv z))
 | [],_=>⟨[],rfl,(fun e he=>nomatch he),rfl⟩
 | q::qs,h=>by
  obtain⟨es,h1,h2,h3⟩:=rN qs fun q hq=>h q (Ff _ hq)
  obtain⟨t,t1,t2⟩:=h q (Fd ..);refine⟨⟨q.1,.str q.1,aW M n (aM M x M.mv q.1),t,q.2⟩::es,?_,fun e he=>?_,?_⟩
  ·rw[Fi,h1];rfl
  ·rcases Fn.mp he with rfl|he
   ·exact⟨t2,t1,rfl⟩
   ·exact h2 e he
  ·rw[Fi,h3];rfl
section
variable {P:Program}{w:World}{K:PySem.W.Frag}{mg:Str->Option Value}{base:Heap}
theorem BP:kG ["found"] ["machine"] (gB bu):=⟨rfl,rfl,rfl,by decide +kernel,by decide +kernel,by decide +kernel⟩
theorem DK{c':Addr}{oc:Obj}{cl:List (Str×Addr)}{ctv:Value}{H0:Hp}{M:aj}(D:Known P w K mg base 4 "signs_from" ["machine","rooms"] (jB C T)) (Cl:eR base cl (gB bu) ["machine"] [.ref p]) (co:fE oc lvQ) (hf:H0 f=some (.frz (kla_obj "<lambda>" lvQ (pT bu) (sR bu) (gB bu) cl pm c' ctv) (.own f))) (hc':H0 c'=some (.frz oc (.own c'))) (mat:aZ C H0 p M) (hml:M.mv.length<=24) (hn:n<=8) (hmo:∀ m∈M.mv,bz n m) :
  ao P w K mg base CX0 5 f (kla_fn "<lambda>" lvQ (pT bu) (sR bu) (gB bu) cl pm (.ref c') ctv) ["found"] (lX cH fg T (TabAt (cm aK) lwQ T) (dk M n) (okR n) H0):=by
 refine uH (k:=4) BP Cl rfl co (fun vs H Q E h=>?_) (fun vs H Q E h=>?_) (fun A outer s H vs Q E hr h=>?_)
 ·obtain⟨a,x,rfl,_⟩:=h;rfl
 ·obtain⟨a,x,rfl,ext,_⟩:=h;exact⟨ext.up hf (fun _ z=>nomatch z),ext.up hc' (fun _ z=>nomatch z)⟩
 ·obtain⟨a,x,rfl,ext,jh,ha,okx,k⟩:=h;refine⟨_,aw D hr (aa (q_v 1) (aa (q_v 0) ab)),?_⟩;refine⟨p,a,M,x,n,rfl,fJ mat ext.toT,hml,ha,hn,hmo,jh,fun l H' qs ks hl h' se hks eq e' j'=>?_⟩
  obtain⟨es,h1,h2,h3⟩:=rN qs se;refine k l H' es hl (by rw[h1];exact h') h2 ?_ e' j'
  rw[h3,eq];unfold dk;rw[C7 fun z=>(hks z).trans tR.symm]
theorem qU:∀ y∈(gB bu).names,y.2=.free->(ah bu).names.lookup y.1=some .cell\/(ah bu).names.lookup y.1=some .free:=by decide +kernel
noncomputable def jok {pos:Pos}{q:Str}(T:Addr):JOk T (TabAt pos q T) where
 ext:=fun t x=>t.ext x
 but:=fun {H H' d u} t h n1 n2 b=>by
  have nd:∀{c:Addr} {v:HO},H c=some v->v≠u->c≠d:=fun {c v} hc hv z=>by
   rw[z,h]at hc;exact hv (Fw hc).symm
  rcases t with t|⟨c',oc,h1,h2,h3⟩
  ·exact .inl (b.up (nd t fun z=>n1 _ z.symm) t)
  ·exact .inr ⟨c',oc,b.up (nd h1 fun z=>n1 _ z.symm) h1,b.up (nd h2 fun z=>n2 _ _ z.symm) h2,h3⟩
 tb:=fun t h n=>t.ER h n
noncomputable def eC (rooms:List Int)(e:List Int×List Str):Bool:=e.1.all fun r=>decide (r∈rooms)
structure bh (T T2:Addr)(H H':Hp):Prop where
 toT:c9 H H'
 ot:∀{b u},b≠T->b≠T2->H b=some u->H' b=some u
theorem bh.trans(a:bh T T2 H H1)(b:bh T T2 H1 H2):bh T T2 H H2:=⟨a.toT.trans b.toT,fun n m h=>b.ot n m (a.ot n m h)⟩
theorem bh.one(a:ai T H H1):bh T T2 H H1:=⟨a.toT,fun n _ h=>a.ot n h⟩
theorem bh.two(a:ai T2 H H1):bh T T2 H H1:=⟨a.toT,fun _ n h=>a.ot n h⟩
theorem bh.ext(a:Ext H H1):bh T T2 H H1:=bh.one (Ext.toP a)
theorem bh.but{d:Addr}(x:bh T T2 H H1)(dn:H d=none)(b:But d H1 H2):bh T T2 H H2:=
 ⟨⟨fun {c u} h n=>b.up (fun z=>by rw[z,dn]at h;cases h) (x.toT.up h n),fun {c ps} h=>by
  obtain⟨ps',h'⟩:=x.toT.tb h;exact⟨ps',b.up (fun z=>by rw[z,dn]at h;cases h) h'⟩⟩,fun {c u} n m h=>b.up (fun z=>by rw[z,dn]at h;cases h) (x.ot n m h)⟩
theorem TabAt.but{d:Addr}{u:HO}(t:TabAt pos qual T H)(h:H d=some u)(n1:∀ ps,u≠.tbl ps)(n2:∀ o k,u≠.frz o (.own k))(b:But d H H'):TabAt pos qual T H':=by
 have nd:∀{c:Addr} {v:HO},H c=some v->v≠u->c≠d:=fun {c v} hc hv z=>by
  rw[z,h]at hc;exact hv (Fw hc).symm
 rcases t with t|⟨c',oc,h1,h2,h3⟩
 ·exact .inl (b.up (nd t fun z=>n1 _ z.symm) t)
 ·exact .inr ⟨c',oc,b.up (nd h1 fun z=>n1 _ z.symm) h1,b.up (nd h2 fun z=>n2 _ _ z.symm) h2,h3⟩
noncomputable def pY (T T2:Addr)(rooms:List Int)(B:List (List Int×List Str))(H H':Hp)(t:Addr):Prop:=
 bh T T2 H H'/\TabAt (cm aK) lwQ T H'/\TabAt (fc bu) lvQ T2 H'/\H t=none ∧
 (
  (∃ e l,B.find? (eC rooms)=some e/\H' t=some (.tup [.str "given",.ref l])/\H l=none/\H' l=some (.lst (e.2.map V.str))) ∨
  (B.find? (eC rooms)=none/\∃ l qs,H' t=some (.tup [.str "kept",.ref l])/\H l=none/\H' l=some (.lst (rfs qs))/\(∀ q∈qs,H' q.2=some (.lst (q.1.map V.int))/\H q.2=none/\q.2≠l) ∧
   (qs.map (·.1)).Perm (B.map (·.1))/\(qs.map (·.1)).Pairwise (fun x y=>cj x y=true)))
noncomputable def nZ (C T T2:Addr):Sp:=fun vs H Q _=>∃(p c:Addr)(M:aj)(rooms:List Int),vs=[.ref p,.ref c]/\aZ C H p M/\M.mv.length<=24/\RdL H c (rooms.map V.int)/\rooms.length<=100/\M.size<=8/\(∀ r∈rooms,okI M.size r)/\(∀ r∈M.st,okI M.size r)/\(∀ m∈M.mv,bz M.size m) ∧
 TabAt (cm aK) lwQ T H/\TabAt (fc bu) lvQ T2 H ∧
 ∀ t H' B,Run (dk M M.size) (cS M M.size) B.length B->(∀ e∈B,okR M.size e.1)->(B.map (·.1)).Nodup->pY T T2 rooms B H H' t->Q (.ref t) H'
noncomputable abbrev gn:List Str:=["machine","rooms","room","came_by","found"]
theorem xG:aJ gn ["machine","rooms"] (ah bu):=⟨rfl,rfl,rfl,by decide +kernel,rfl,by decide +kernel,by decide +kernel⟩
theorem Eb{α:Type}{p:α->Bool}{l:List α}{x:α}(hi:l[i]? =some x)(hx:p x=true)(hn:∀ y∈l.take i,p y=false):l.find? p=some x:=by
 induction l generalizing i with
 | nil=>simp at hi
 | cons a l ih=>
  cases i with
  | zero=>
   have hi:=Fw hi;subst hi;rw[F9,hx]
  | succ i=>
   rw[F9,hn a (by rw[List.take_succ_cons];exact Fd ..)]
   exact ih (by simpa using hi) fun y hy=>hn y (by rw[List.take_succ_cons];exact Ff _ hy)
theorem yx{c0:Addr}(F:Fun K "secret" "secret" bu f fd) (hcd:fd.code=.ref c0) (LB:cC mg base c0 T2) (TC:cO K mg C) (hall:mg "all" = none) (nT:T≠T2) (DN:Known P w K mg base 1 "need_room" ["size","room"] ki) (DF:Known P w K mg base 4 "first_sets" ["machine"] (oE C T)) (DW:Known P w K mg base 1 "way_to" ["came_by","place"] (iF cH fg P w)) (R:∀ base',K.In base'->base'.Ns mainGlobals mg->Known P w K mg base' 6 "reach" ["starts","steps_from"] (iX cH fg P w K mg base' 5 "found")) (D:∀ base',K.In base'->base'.Ns mainGlobals mg->(∀ b o,base.get? b=some o->base'.get? b=some o)->Known P w K mg base' 4 "signs_from" ["machine","rooms"] (jB C T)) (kb:K.In base) (nb:base.Ns mainGlobals mg):ao P w K mg base CX0 7 f fd ["machine","rooms"] (nZ C T T2):=by
 refine Fun.okC F xG (fun vs H Q E h=>?_) (fun A outer s H vs Q E hr h=>?_)
 ·obtain⟨p,c,M,rooms,rfl,_⟩:=h;rfl
 ·obtain⟨p,c,M,rooms,rfl,mat,hml,hc,hrl,hn,hro,hst,hmo,tab,tab2,k⟩:=h;have hr1:aE 1 _:=hr.mono (by decide)
  have hr4:aE 4 _:=hr.mono (by decide)
  refine⟨_,af (bC PassesOwn.never rfl (bg (q_v 1)) (q_g gn 2) (ag (bQ (aw DN hr1 (aa (iw TC.cl TC.nS (q_v 0)) (aa (q_v 2) ab))))))
   (af (av gn 3 (pq R hr (fun _=>rfl) (aa (aw DF hr4 (aa (q_v 0) ab)) (aa (lW hcd LB (fun x kk hm=>qU (x,kk) hm) rfl) ab))))
   (af (bC PassesOwn.never rfl (qh (q_v 3)) (q_g gn 4)
    (ag (bf (eD (q_b (vB rfl) hall (aa (eW gn (ah bu) ["room","rooms"] [none,some 1] rfl (Ex (q_v 4)) (fun _ _ _ _=>q_g ["room","rooms"] 0) (fun _ _ _ _=>dD qJ (q_v 0) (q_v 1))) ab)))
     (ag (aD (cM (aa (lV gR) (aa (aq aI (aw DW hr1 (aa (q_v 3) (aa (q_v 4) ab))) ae (fun _ _=>rfl)) ab))))) bj)))
   (ag (aD (cM (aa (lV gR) (aa (eW gn (ah bu) ["found"] [none] rfl (bg (q_b (Cz rfl) TC.sorted (aa (q_v 3) ab))) (fun _ _ _ _=>q_g ["found"] 0) (fun _ _ _ _=>q_t wc TC.list (aa (q_v 0) ab))) ab))))))),?_⟩
  have z1:∀{n:Nat},n<=1000->n<=sizeLine:=fun h=>by rw[Fz];lia
  have z0:∀{n:Nat},n<=1000->n<sizeLine:=fun h=>by rw[Fz];lia
  refine⟨_,hc,bZ (xs:=rooms.map V.int) (fun i σ H2=>H2=H/\∃ v2:Option V,σ=[some (.ref p),some (.ref c),v2,none,none]) ⟨rfl,_,rfl⟩ (fun i σ H2 _ hp=>by rw[hp.1];exact hc) ?_ ?_⟩
  ·rintro i x σ H2 hx ⟨rfl,v2,rfl⟩;rw[E9,Fl]at hx;obtain⟨r,hr',rfl⟩:=hx;obtain⟨dx,l1,l2,dd,l3,ms,mi⟩:=mat;exact⟨_,_,mi.ob,_,rfl,M.size,r,rfl,(hro r (Fe hr')).1,(hro r (Fe hr')).2,rfl,_,rfl⟩
  rintro σ H2 ⟨rfl,v2,rfl⟩;refine⟨p,M,M.size,rfl,mat,by lia,hn,hst,hmo,tab,fun lf H1 hlf hf1 x1 tb1=>?_⟩
  have tab21:TabAt (fc bu) lvQ T2 H1:=tab2.keep x1 nT.symm;refine⟨tab21,fun g c' ctv oc H3 hg x3 tab3 hg3 hc3 co3 base' rb=>?_⟩
  have tb3:TabAt (cm aK) lwQ T H3:=tb1.keep x3 nT;have xx:bh T T2 H2 H3:=(bh.one x1).trans (bh.two x3);have mat3:aZ C H3 p M:=fJ mat xx.toT;have hc3':RdL H3 c (rooms.map V.int):=dE hc xx.toT;obtain⟨qs,hqs,hq1,hq2⟩:∃ qs:List (List Int×Addr),H3 lf=some (.lst (rfs qs))/\(∀ q∈qs,H3 q.2=some (.tup (cH.enc q.1))/\okR M.size q.1)/\qs.map (·.1)=cS M M.size:=by
   unfold cS;rcases hf1 with⟨e,h⟩|⟨e,t,_,h,ht⟩
   ·exact⟨[],x3.up h (fun _ z=>nomatch z),(fun q hq=>nomatch hq),by rw[if_pos e];rfl⟩
   ·refine⟨[(aW M M.size M.st,t)],x3.up h (fun _ z=>nomatch z),fun q hq=>?_,by rw[if_neg e];rfl⟩
    rw[Fb]at hq;subst hq;exact⟨x3.up ht (fun _ z=>nomatch z),e,uD _ _ _⟩
  refine⟨lf,g,T,TabAt (cm aK) lwQ T,_,_,dk M M.size,okR M.size,subs (UI M.size),qs,rfl,.inl hqs,hq1,hg3,rfl,
   DK (D base' (kb.keeps rb.keep) (nb.keeps rb.keep) rb.keep) (rb.clos (gB bu) ["machine"] [.ref p] (fun x kk hm=>qU (x,kk) hm) ?_) co3 hg3 hc3 mat3 hml hn hmo,
   Binds.all (fun us hl=>match us,hl with | [_],_=>rfl),fun x _=>xk hmo,fun x hx=>qw hx.2,ni hn,jok T,tb3,fun d H4 es r hrun tb4=>?_⟩
  ·intro i x v h1 h2
   match i with
   | 0=>
    cases h1;cases h2
    exact⟨rfl,0,rfl,rfl⟩
   | i+1=>simp at h1
  have esl:es.length<=1000:=r.len (ni hn);have t24:TabAt (fc bu) lvQ T2 H4:=tab3.keep r.ext nT.symm;have x24:bh T T2 H2 H4:=xx.trans (bh.one r.ext);have dn2:H2 d=none:=xx.toT.none r.dn;have hc4:RdL H4 c (rooms.map V.int):=dE hc3' r.ext.toT;rw[hq2]at hrun;have hB0:Run (dk M M.size) (cS M M.size) (es.map xpE).length (es.map xpE):=by rw[E3];exact hrun
  have hB1:∀ e∈es.map xpE,okR M.size e.1:=fun e he=>by
   obtain⟨q,hq,rfl⟩:=E5.mp he;exact r.okk q hq
  have hB2:((es.map xpE).map (·.1)).Nodup:=by rw[eT];exact r.nd
  have fin:∀ t H',pY T T2 rooms (es.map xpE) H2 H' t->Q (.ref t) H':=fun t H' z=>k t H' _ hB0 hB1 hB2 z
  refine⟨_,r.dd,fun o H5 h5 b5=>?_⟩
  have t5:aQ H4 H5:=eM b5 r.dd fun xs z=>nomatch z
  have x25:bh T T2 H2 H5:=x24.but dn2 b5;have tb5:TabAt (cm aK) lwQ T H5:=TabAt.but tb4 r.dd (fun _ z=>nomatch z) (fun _ _ z=>nomatch z) b5
  have t25:TabAt (fc bu) lvQ T2 H5:=TabAt.but t24 r.dd (fun _ z=>nomatch z) (fun _ _ z=>nomatch z) b5
  have hc5:RdL H5 c (rooms.map V.int):=by
   rcases hc4 with h|⟨o',h⟩
   ·exact .inl (b5.up (aX h r.dd fun z=>nomatch z) h)
   ·exact .inr ⟨o',b5.up (aX h r.dd fun z=>nomatch z) h⟩
  refine Ay (xs:=es.map (enB cH)) (fun i σ H6=>∃ v4:Option V,σ=[some (.ref p),some (.ref c),v2,some (.ref d),v4]/\Ext H5 H6/\∀ e∈es.take i,eC rooms (xpE e)=false)
   ⟨_,rfl,Ext.refl,fun e he=>nomatch he⟩ (fun i σ H6 _ hp=>by obtain⟨_,_,x6,_⟩:=hp;exact x6.up h5) ?_ ?_
  ·rintro i x σ H6 hx ⟨v4,rfl,x6,hbefore⟩;rw[E9,Fl]at hx;obtain⟨e,he,rfl⟩:=hx;have hem:=Fe he;have he6:H6 e.a=some (.tup (e.x.map V.int)):=x6.up (t5 _ _ (r.ents e hem));have xl:e.x.length<=8:=by
    have:=(r.okk e hem).2.length_le
    have hU:(UI M.size).length<=8:=by unfold UI;rw[E3,F2];lia
    lia
   refine⟨_,.inl he6,gx (zs:=e.x) (enc:=V.int) (fun r=>.bl (decide (r∈rooms))) (BD (.inl he6)) (z0 (by lia)) (fun j r' H7 Kk hr' x7 kk=>?_) fun lb H7 hlb h7 x7=>?_⟩
   ·refine⟨bY rfl,_,x7.rd (x6.rd hc5),⟨rfl,dA _⟩,?_⟩
    have:=kk H7 Ext.refl
    rw[<-gH]at this;exact this
   ·refine⟨e.x.map fun r'=>decide (r'∈rooms),.inl (by rw[h7,Fm];rfl),?_⟩
    have hall':((e.x.map fun r'=>decide (r'∈rooms)).all id)=eC rooms (xpE e):=by
     unfold eC;rw[List.all_map];rfl
    have x67:Ext H5 H7:=x6.trans x7;refine aV (fun hA=>?_) (fun hA=>?_)
    ·have hA:((e.x.map fun r'=>decide (r'∈rooms)).all id)=true:=hA
     rw[hall']at hA;refine⟨d,o,es.map (enB cH),x67.up h5,fun o' v z=>?_,fun H8 h8 b8=>?_⟩
     ·have z:H2 d=some (.frz o' v):=z;rw[dn2]at z;cases z
     have t8:aQ H4 H8:=fun b ys hb=>b8.up (aX hb r.dd fun z=>nomatch z) (x67.up (t5 b ys hb))
     have ds:DS cH fg (dk M M.size) (qs.map (·.1)) P w H8 d es:=⟨h8,fun e he=>t8 _ _ (r.ents e he),fun i e h=>(r.came i e h).up t8,r.nd,esl⟩
     refine⟨d,e.a,_,_,e,es,rfl,ds,t8 _ _ (r.ents e hem),hem,fun t pl ll H9 ls x0 hll h9 _ _ _ hl9 hls9 els x9=>?_⟩
     rw[C3 hls9,els]at hl9;refine⟨_,.inl h9,_,rfl,z1 (by show 2<=1000;decide),fun t' H10 ht' h10 x10=>?_⟩
     have x28:bh T T2 H2 H8:=((x25.trans (bh.ext x67))).but dn2 b8;have hfz:H7 d=some (.frz o (DTB P w d (es.map (enB cH)))):=x67.up h5;have tb8:TabAt (cm aK) lwQ T H8:=TabAt.but (tb5.ext x67) hfz (fun _ z=>nomatch z) (fun _ _ z=>nomatch z) b8
     have t28:TabAt (fc bu) lvQ T2 H8:=TabAt.but (t25.ext x67) hfz (fun _ z=>nomatch z) (fun _ _ z=>nomatch z) b8
     refine fin t' H10 ⟨x28.trans (bh.ext (x9.trans x10)),(tb8.ext x9).ext x10,(t28.ext x9).ext x10,x28.toT.none (x9.free ht'),.inl ⟨xpE e,ll,?_,h10,x28.toT.none hll,x10.up hl9⟩⟩;refine Eb (i:=i) (by rw[E9,he];rfl) hA fun y hy=>?_
     rw[<-List.map_take]at hy;obtain⟨e',he',rfl⟩:=E5.mp hy;exact hbefore e' he'
    ·have hA:¬ ((e.x.map fun r'=>decide (r'∈rooms)).all id)=true:=hA
     rw[hall']at hA;refine⟨_,rfl,x67,fun e' he'=>?_⟩
     rw[Gb,he]at he';rcases Fs.mp he' with he'|he'
     ·exact hbefore e' he'
     ·rw[Fb.mp he'];exact Bool.eq_false_iff.mpr hA
  ·rintro σ H6 ⟨v4,rfl,x6,hbefore⟩;refine⟨d,o,es.map (enB cH),x6.up h5,fun o' v z=>?_,fun H8 h8 b8=>?_⟩
   ·have z:H2 d=some (.frz o' v):=z;rw[dn2]at z;cases z
   have t8:aQ H4 H8:=fun b ys hb=>b8.up (aX hb r.dd fun z=>nomatch z) (x6.up (t5 b ys hb))
   have x28:bh T T2 H2 H8:=((x25.trans (bh.ext x6))).but dn2 b8;have hfz:H6 d=some (.frz o (DTB P w d (es.map (enB cH)))):=x6.up h5;have tb8:TabAt (cm aK) lwQ T H8:=TabAt.but (tb5.ext x6) hfz (fun _ z=>nomatch z) (fun _ _ z=>nomatch z) b8
   have t28:TabAt (fc bu) lvQ T2 H8:=TabAt.but (t25.ext x6) hfz (fun _ z=>nomatch z) (fun _ _ z=>nomatch z) b8
   have heE:(es.map fun e:En (List Int) Str=>((e.x,e.a,e.v):jC)).map fW=es.map (enB cH):=by rw[Fm];rfl
   refine⟨es.map fun e=>(e.x,e.a,e.v),by rw[heE];exact h8,fun e he=>?_,by rw[Fm];exact r.nd,fun out hout hup=>?_⟩
   ·obtain⟨e',he',rfl⟩:=E5.mp he;exact⟨t8 _ _ (r.ents e' he'),(r.okk e' he').1⟩
   intro ls H9 hls h9 x9;rw[Fm]at hout;have hol:out.length<=1000:=by
    have:=hout.length_eq
    rw[E3]at this;lia
   have hot:∀ q∈out,H8 q.2=some (.tup (q.1.map V.int)):=fun q hq=>by
    obtain⟨e,he,rfl⟩:=E5.mp (hout.mem_iff.mp hq);exact t8 _ _ (r.ents e he)
   refine⟨_,.inl h9,D4 (zs:=out) (enc:=fun q:List Int×Addr=>V.ref q.2) (fun q=>q.1.map V.int) (dM (.inl h9)) (z0 (by lia)) (fun j q H10 Kk hq x10 kn=>?_) fun L H10 qs' hL h10 hqs' eqs x10=>?_⟩
   ·exact⟨bY rfl,_,.inl (x10.up (x9.up (hot q (Fe hq)))),kn⟩
   ·refine⟨z1 (by show 2<=1000;decide),fun t' H11 ht' h11 x11=>?_⟩
    refine fin t' H11 ⟨x28.trans (bh.ext ((x9.trans x10).trans x11)),((tb8.ext x9).ext x10).ext x11,((t28.ext x9).ext x10).ext x11,x28.toT.none ((x9.trans x10).free ht'),.inr ⟨?_,L,qs'.map fun q=>(q.1.1,q.2),h11,x28.toT.none (x9.free hL),?_,fun q hq=>?_,?_,?_⟩⟩
    ·refine List.find?_eq_none.mpr fun y hy=>?_
     obtain⟨e,he,rfl⟩:=E5.mp hy;rw[hbefore e (by rw[E3,GD];exact he)]
     decide
    ·rw[x11.up h10];unfold rfs;rw[Fm];rfl
    ·obtain⟨q',hq',rfl⟩:=E5.mp hq;obtain⟨a1,a2,a3⟩:=hqs' q' hq';exact⟨x11.up a1,x28.toT.none (x9.free a2),a3⟩
    ·have e1:(qs'.map fun q=>(q.1.1,q.2)).map (·.1)=out.map (·.1):=by
      rw[<-eqs,Fm,Fm];rfl
     rw[e1]
     have:=hout.map (·.1)
     rw[Fm]at this;rw[Fm];exact this
    ·have e1:(qs'.map fun q=>(q.1.1,q.2)).map (·.1)=out.map (·.1):=by
      rw[<-eqs,Fm,Fm];rfl
     rw[e1];exact hup
end
end K
end
section
set_option maxHeartbeats 2000000
namespace K
open PySem PySem.Spec PyProof.Rows L2 SB
noncomputable abbrev Spot:=Int×Bool
noncomputable def okS (n:Int)(s:Spot):Prop:=0<=s.1/\s.1<n
noncomputable def U (n:Int):List Spot:=(List.range n.toNat).flatMap fun(k:Nat)=>[((k:Int),false),((k:Int),true)]
theorem pW{s:Spot}(h:okS n s):s∈U n:=by
 unfold U;rw[List.mem_flatMap];obtain⟨r,b⟩:=s;obtain⟨h1,h2⟩:=h;have h1:0<=r:=h1;have h2:r<n:=h2;refine⟨r.toNat,FT.mpr (by lia),?_⟩
 have e:((r.toNat:Nat):Int)=r:=by lia
 rw[e];cases b <;> simp
noncomputable abbrev kH:Stmt:=top 25
noncomputable def cJ (sg:List (Str×Str))(zs:List Str)(i:Nat)(z:Str):Option Nat:=match aT sg z with
 | none=>some i
 | some y=>if zs[i]? =some y then some (i+1) else none
noncomputable def AS:Option Nat->V
 | some i=>.int i
 | none=>.non
section
variable {P:Program}{w:World}{K:PySem.W.Frag}{mg:Str->Option Value}{base:Heap}
noncomputable def mE (C:Addr):Sp:=fun vs H Q _=>∃(p c:Addr)(i:Nat)(z:Str)(M:aj)(zs:List Str),vs=[.ref p,.ref c,.int i,.str z]/\aZ C H p M/\RdL H c (zs.map V.str)/\Q (AS (cJ M.sg zs i z)) H
noncomputable abbrev nSn:List Str:=["machine","sights","seen","deed","sign"]
theorem B7:aJ nSn ["machine","sights","seen","deed"] (ah kH):=⟨rfl,rfl,rfl,by decide +kernel,rfl,by decide +kernel,by decide +kernel⟩
theorem zL(F:Fun K "seen_after" "seen_after" kH f fd) (T:cO K mg C) (TL:di K mg) (M3:cu P w K mg base 1 C "sign_of" ["self","deed"] (ik C)):ao P w K mg base CX0 2 f fd ["machine","sights","seen","deed"] (mE C):=by
 refine F.ok B7 (fun vs H Q E h=>?_) (fun cdv A outer s H vs Q E hr h=>?_)
 ·obtain⟨p,c,i,z,M,zs,rfl,_⟩:=h;rfl
 ·obtain⟨p,c,i,z,M,zs,rfl,mat,hc,k⟩:=h;refine⟨_,af (av nSn 4 (kU (q_v 0) T.cl M3 hr (aa (q_v 3) ab)))
   (af (bf (aG pL (q_v 4) et) (ag (aD (q_v 2))) bj)
   (af (bf (pw_and (aG lY (q_v 2) (q_b cI TL.len (aa (q_v 1) ab))) (pw_and1 (aG cP (aq bD (q_v 1) (q_v 2) (fun _ _=>rfl)) (q_v 4)))).pt (ag (aD (ak bU (q_v 2) ae))) bj)
   (ag (aD et)))),?_⟩
  obtain⟨dx,l1,l2,d,l3,qs,mi⟩:=mat;refine⟨_,_,mi.ob,rfl,p,M,z,rfl,⟨dx,l1,l2,d,l3,qs,mi⟩,?_⟩;unfold cJ at k;cases ho:aT M.sg z with
  | none=>
   rw[ho]at k;exact k
  | some y=>
   rw[ho]at k;dsimp only at k;refine⟨_,hc,aV (fun h=>?_) (fun h=>?_)⟩
   ·have h:=FA h;rw[E3]at h;have hi:i<zs.length:=by lia
    refine⟨_,hc,.str zs[i],gJ (by rw[E9,Fg hi];rfl),rfl,aV (fun h'=>?_) (fun h'=>?_)⟩
    ·have h':decide (V.str zs[i]=V.str y)=true:=h';have h':zs[i]=y:=by simpa using h'
     rw[if_pos (by rw[Fg hi,h'])]at k
     exact k
    ·have h':¬ decide (V.str zs[i]=V.str y)=true:=h';have h':¬ zs[i]=y:=by simpa using h'
     rw[if_neg (fun e=>h' (by rw[Fg hi]at e;exact Fw e))]at k
     exact k
   ·have h:¬ i<zs.length:=fun q=>h (Fq (by rw[E3];lia))
    rw[if_neg (fun e=>h (Fp.mp e).1)]at k
    exact k
end
noncomputable abbrev jS:Stmt:=top 26
noncomputable abbrev Sta:=Nat×Spot
noncomputable def eG (x:Sta):List V:=[.int x.1,.int x.2.1,.bl x.2.2]
structure Stp where
 mv:Mv
 st:Sta
 am:Addr
 as:Addr
 ap:Addr
structure jd (H:Hp)(e:Stp):Prop where
 m:H e.am=some (.tup (fb e.mv))
 s:H e.as=some (.tup (eG e.st))
 p:H e.ap=some (.tup [.ref e.am,.ref e.as])
theorem jd.ext{e:Stp}(x:jd H e)(h:Ext H H'):jd H' e:=⟨h.up x.m,h.up x.s,h.up x.p⟩
noncomputable def eY (sg:List (Str×Str))(fl:List Str)(zs:List Str)(x:Sta)(mv:List Mv):List (Mv×Sta):=mv.filterMap fun m=>if m.1=x.2.1 then(cJ sg zs x.1 m.2.1).map fun i=>(m,(i,(m.2.2,x.2.2||decide (m.2.1∈fl)))) else none
theorem Dr{sg:List (Str×Str)}{x:Sta}{mv:List Mv}{m:Mv}(h:mv[j]? =some m) :
  eY sg fl zs x (mv.take (j+1))=eY sg fl zs x (mv.take j)++(if m.1=x.2.1 then(cJ sg zs x.1 m.2.1).map fun i=>(m,(i,(m.2.2,x.2.2||decide (m.2.1∈fl)))) else none).toList:=by
 unfold eY;rw[Gb,List.filterMap_append,h];congr 1
 try
  show [m].filterMap _=_
  rw[FN]
  split <;> rename_i e <;> rw[e] <;> rfl
section
variable {P:Program}{w:World}{K:PySem.W.Frag}{mg:Str->Option Value}{base:Heap}
noncomputable def lI (C:Addr):Sp:=fun vs H Q _=>∃(p c:Addr)(x:Sta)(M:aj)(zs:List Str),vs=[.ref p,.ref c,.int x.1,.int x.2.1,.bl x.2.2]/\aZ C H p M/\M.mv.length<=100/\RdL H c (zs.map V.str) ∧
 ∀ l H' (es:List Stp),H l=none->H' l=some (.lst (es.map fun e=>V.ref e.ap))->(∀ e∈es,jd H' e)->es.map (fun e=>(e.mv,e.st))=eY M.sg M.fl zs x M.mv->Ext H H'->Q (.ref l) H'
noncomputable abbrev nSf:List Str:=["machine","sights","seen","room","faulty","steps","move","after"]
theorem vC:aJ nSf ["machine","sights","seen","room","faulty"] (ah jS):=⟨rfl,rfl,rfl,by decide +kernel,rfl,by decide +kernel,by decide +kernel⟩
theorem z7(F:Fun K "steps_from" "steps_from" jS f fd) (T:cO K mg C) (M2:cu P w K mg base 1 C "moves" ["self"] (iQ C)) (M4:cu P w K mg base 1 C "is_fault" ["self","deed"] (lR C)) (D:Known P w K mg base 2 "seen_after" ["machine","sights","seen","deed"] (mE C)):ao P w K mg base CX0 3 f fd ["machine","sights","seen","room","faulty"] (lI C):=by
 refine F.ok vC (fun vs H Q E h=>?_) (fun cdv A outer s H vs Q E hr h=>?_)
 ·obtain⟨p,c,x,M,zs,rfl,_⟩:=h;rfl
 ·obtain⟨p,c,x,M,zs,rfl,mat,hml,hc,k⟩:=h;have hr1:aE 1 _:=hr.mono (by decide)
  refine⟨_,af (av nSf 5 (bw ab))
   (af (bC PassesOwn.never rfl (bg (jb (q_v 0) T.cl M2 hr1)) (q_g nSf 6)
    (ag (bf (aG cP (aq aI (q_v 6) ae (fun _ _=>rfl)) (q_v 3))
     (af (av nSf 7 (aw D hr (aa (q_v 0) (aa (q_v 1) (aa (q_v 2) (aa (aq aI (q_v 6) ae (fun _ _=>rfl)) ab))))))
     (ag (bf (aG mx (q_v 7) et)
      (ag (bQ (eZ (q_v 5) (cM (aa (q_v 6) (aa (cM (aa (q_v 7) (aa (aq aI (q_v 6) ae (fun _ _=>rfl)) (aa (CB (q_v 4) (kg (kU (q_v 0) T.cl M4 hr1 (aa (aq aI (q_v 6) ae (fun _ _=>rfl)) ab)))) ab)))) ab)))))) bj)))
     bj)))
   (ag (aD (q_v 5)))),?_⟩
  have z1:∀{n:Nat},n<=1000->n<=sizeLine:=fun h=>by rw[Fz];lia
  obtain⟨dx,l1,l2,d,l3,qs,mi⟩:=mat;have mat:∀{H1:Hp},Ext H H1->aZ C H1 p M:=fun e=>aZ.ext ⟨dx,l1,l2,d,l3,qs,mi⟩ e
  refine⟨z1 (by show 0<=1000;decide),fun l H1 hl h1 e1=>?_⟩
  refine⟨_,_,e1.up mi.ob,rfl,p,M,rfl,mat e1,fun a2 H2 ms ha2 h2 t2 hm2 e2=>?_⟩
  have nl:a2≠l:=(aA h1 ha2).symm;have lm:ms.length=M.mv.length:=by rw[<-hm2,E3]
  refine⟨_,.inl h2,bZ (xs:=refs ms) (fun j σ H3=>∃(v6 v7:Option V) (es:List Stp),σ=[some (.ref p),some (.ref c),some (.int x.1),some (.int x.2.1),some (.bl x.2.2),some (.ref l),v6,v7]/\Ext H H3/\H3 a2=some (.lst (refs ms))/\cE H3 ms/\H3 l=some (.lst (es.map fun e=>V.ref e.ap))/\(∀ e∈es,jd H3 e)/\es.map (fun e=>(e.mv,e.st))=eY M.sg M.fl zs x (M.mv.take j)/\es.length<=j)
   ⟨_,_,[],rfl,e1.trans e2,h2,t2,e2.up h1,(fun e he=>nomatch he),rfl,E7 _⟩ (fun j σ H3 _ ⟨_,_,_,_,_,e,_⟩=>.inl e) ?_ ?_⟩
  ·rintro j y σ H3 hy ⟨v6,v7,es,rfl,x3,h3,t3,h3l,se,ee,el⟩;unfold refs at hy;rw[E9,Fl]at hy;obtain⟨q,hq,rfl⟩:=hy;have hqm:=Fe hq;have hjl:j<ms.length:=(Fp.mp hq).1;have tq:=t3 q hqm;have hmj:M.mv[j]? =some q.1:=by rw[<-hm2,E9,hq];rfl
   have sn:=Dr (sg:=M.sg) (fl:=M.fl) (zs:=zs) (x:=x) hmj;refine⟨_,.inl tq,_,rfl,rfl,aV (fun hA=>?_) (fun hA=>?_)⟩
   ·have hA:q.1.1=x.2.1:=by
     have hA:decide (V.int q.1.1=V.int x.2.1)=true:=hA;simpa using hA
    rw[if_pos hA]at sn;refine⟨_,.inl tq,_,rfl,p,c,x.1,q.1.2.1,M,zs,rfl,mat x3,x3.rd hc,?_⟩;cases ho:cJ M.sg zs x.1 q.1.2.1 with
    | none=>
     rw[ho]at sn;refine⟨_,_,es,rfl,x3,h3,t3,h3l,se,?_,by lia⟩
     rw[sn,ee]
     exact(FR _).symm
    | some i=>
     rw[ho]at sn;refine⟨_,.inl h3l,_,.inl tq,_,rfl,decide (q.1.2.1∈M.fl),fun _=>⟨_,_,x3.up mi.ob,rfl,_,.inl tq,_,rfl,p,M,_,rfl,mat x3,rfl,rfl⟩,z1 (by show 3<=1000;decide),fun sa H4 hsa h4 e4=>⟨z1 (by show 2<=1000;decide),fun pa H5 hpa h5 e5=>?_⟩⟩
     have y5:Ext H3 H5:=e4.trans e5;refine⟨_,y5.up h3l,by show(es.map fun e=>V.ref e.ap).length<sizeLine;rw[E3,Fz];lia,fun H6 h6 b6=>?_⟩
     have nt:∀{b:Addr} {ys:List V},H5 b=some (.tup ys)->b≠l:=fun hb=>aX hb (y5.up h3l) (fun w=>nomatch w)
     have up:∀{b:Addr} {ys:List V},H5 b=some (.tup ys)->H6 b=some (.tup ys):=fun hb=>b6.up (nt hb) hb
     refine⟨_,_,es++[⟨q.1,(i,(q.1.2.2,x.2.2||decide (q.1.2.1∈M.fl))),q.2,sa,pa⟩],rfl,fun b u hb=>b6.up (aA hb hl) (y5.up (x3.up hb)),b6.up nl (y5.up h3),fun b hb=>up (y5.up (t3 b hb)),?_,?_,?_,?_⟩
     ·rw[h6,Fc];rfl
     ·intro e he;rcases Fs.mp he with he|he
      ·have:=(se e he).ext y5
       exact⟨up this.m,up this.s,up this.p⟩
      ·rw[Fb]at he;subst he;exact⟨up (y5.up tq),up (e5.up h4),up h5⟩
     ·rw[sn,Fc,ee];rfl
     ·rw[Fh];show es.length+1<=j+1
      lia
   ·have hA:¬ q.1.1=x.2.1:=by
     have hA:¬ decide (V.int q.1.1=V.int x.2.1)=true:=hA;simpa using hA
    rw[if_neg hA]at sn;refine⟨_,_,es,rfl,x3,h3,t3,h3l,se,?_,by lia⟩
    rw[sn,ee]
    exact(FR _).symm
  ·rintro σ H3 ⟨v6,v7,es,rfl,x3,h3,t3,h3l,se,ee,el⟩;refine k l H3 es hl h3l se ?_ x3;rw[ee,refs,E3,lm,GD]
end
end K
end
section
set_option maxHeartbeats 2000000
namespace K
open PySem PySem.Spec PyProof.Rows L2 SB
open PySem.W (kla_obj kla_fn)
noncomputable abbrev aU:Stmt:=top 27
noncomputable def jU (s:Stmt):Expr:=match cy s with
 | [_,.Return (some (.Call _ [_,l] _ _)) _]=>l
 | _=>.Name "" ⟨0,0,0,0⟩
noncomputable def uP (s:Stmt):Arguments:=match jU s with | .Lambda a _ _ _=>a|_=>cR (.Pass ⟨0,0,0,0⟩)
noncomputable def ue (s:Stmt):Expr:=match jU s with | .Lambda _ b _ _=>b|_=>.Name "" ⟨0,0,0,0⟩
noncomputable def fV (s:Stmt):Scope:=match jU s with | .Lambda _ _ c _=>c|_=>ah (.Pass ⟨0,0,0,0⟩)
noncomputable def cz (s:Stmt):Pos:=match jU s with | .Lambda _ _ _ p=>p|_=>⟨0,0,0,0⟩
noncomputable abbrev bX:Str:=(("search":Str)++(".<locals>.":Str))++("<lambda>":Str)
noncomputable def dh:eF Sta where
 enc:=eG
 key:=fun x=>[.inl x.1,.inl x.2.1,.inl (SB.b2i x.2.2)]
 ok:=fun x=>rfl
 inj:=fun a b h=>by
  obtain⟨i,r,f⟩:=a;obtain⟨i',r',f'⟩:=b;simp only[List.cons.injEq,Sum.inl.injEq,and_true]at h;obtain⟨h1,h2,h3⟩:=h;have h1:i=i':=by lia
  have h3:=A9 h3;subst h1;subst h2;subst h3
  rfl
noncomputable def Cq:Enc Sta where
 enc:=eG
 flat:=fun _=>rfl
 alike:=fun a b=>by
  show bx [_,_,_] [_,_,_]
  unfold bx;refine⟨by unfold Alike;rfl,?_⟩
  unfold bx;refine⟨by unfold Alike;rfl,?_⟩
  unfold bx;exact⟨by unfold Alike;rfl,by unfold bx;trivial⟩
 inj:=fun a b h=>by
  obtain⟨i,r,f⟩:=a;obtain⟨i',r',f'⟩:=b
  simp [eG]at h
  obtain⟨h1,h2,h3⟩:=h;subst h2;subst h3
  have h1:i=i':=by lia
  subst h1;rfl
noncomputable def mvL:eB Mv:=⟨fun H m v=>∃ a:Addr,v=.ref a/\H a=some (.tup (fb m)),fun t ⟨a,h1,h2⟩=>⟨a,h1,t _ _ h2⟩⟩
noncomputable def stF (M:aj)(zs:List Str)(x:Sta):List (Mv×Sta):=eY M.sg M.fl zs x M.mv
noncomputable def eK (n:Int)(zs:List Str)(x:Sta):Prop:=x.1<=zs.length/\okS n x.2
noncomputable def iA (n:Int)(zs:List Str):List Sta:=(List.range (zs.length+1)).flatMap fun i=>(U n).map fun s=>(i,s)
theorem yu{x:Sta}(h:eK n zs x):x∈iA n zs:=by
 unfold iA;rw[List.mem_flatMap];exact⟨x.1,FT.mpr (Nat.lt_succ_of_le h.1),E5.mpr ⟨x.2,pW h.2,rfl⟩⟩
theorem qA(n:Int):(U n).length=2*n.toNat:=by
 have h:∀ l:List Nat,(l.flatMap fun(k:Nat)=>[((k:Int),false),((k:Int),true)]).length=2*l.length:=by
  intro l;induction l with
  | nil=>rfl
  | cons a r ih=>
   rw[List.flatMap_cons,Fh,ih,Fy];show 2+2*r.length=2*(r.length+1)
   lia
 unfold U;rw[h,F2]
theorem qF(hn:n<=8)(hz:zs.length<=40):(iA n zs).length<=1000:=by
 have h:∀ l:List Nat,(l.flatMap fun i=>(U n).map fun s=>((i,s):Sta)).length=l.length*(U n).length:=by
  intro l;induction l with
  | nil=>simp
  | cons a r ih=>
   rw[List.flatMap_cons,Fh,ih,Fy,E3,Nat.succ_mul,Nat.add_comm]
 unfold iA;rw[h,qA,F2];have h1:n.toNat<=8:=by lia
 have h2:zs.length+1<=41:=by lia
 exact FL (Nat.mul_le_mul h2 (Nat.mul_le_mul_left 2 h1)) (by decide)
theorem eQ{sg:List (Str×Str)}{x y:Sta}{mv:List Mv}{m:Mv}:(m,y)∈eY sg fl zs x mv↔m∈mv/\m.1=x.2.1/\∃ i,cJ sg zs x.1 m.2.1=some i/\y=(i,(m.2.2,x.2.2||decide (m.2.1∈fl))):=by
 unfold eY;rw[G5];constructor
 ·rintro⟨m',hm,h⟩
  split at h
  ·rename_i hr
   rw[Fl]at h;obtain⟨i,hi,h⟩:=h;obtain⟨rfl,rfl⟩:=Prod.mk.inj h;exact⟨hm,hr,i,hi,rfl⟩
  ·cases h
 ·rintro⟨hm,hr,i,hi,rfl⟩;refine⟨m,hm,?_⟩;rw[if_pos hr,hi];rfl
theorem zp{sg:List (Str×Str)}(h:cJ sg zs i z=some j)(hi:i<=zs.length):j<=zs.length:=by
 unfold cJ at h
 split at h
 ·cases h;exact hi
 ·split at h
  ·rename_i e
   cases h
   have:=(Fp.mp e).1
   lia
  ·cases h
theorem B0{M:aj}(hm:∀ m∈M.mv,bz n m){x:Sta}(hx:eK n zs x):∀ y∈stF M zs x,eK n zs y.2:=fun⟨m,y⟩ hq=>by
 obtain⟨h1,h2,i,h3,h4⟩:=eQ.mp hq;dsimp only;subst h4;exact⟨zp h3 hx.1,(hm m h1).2.2.1,(hm m h1).2.2.2⟩
section
variable {P:Program}{w:World}{K:PySem.W.Frag}{mg:Str->Option Value}{base:Heap}
theorem AY:kG ["state"] ["machine","sights"] (fV aU):=⟨rfl,rfl,rfl,by decide +kernel,by decide +kernel,by decide +kernel⟩
theorem Be{c':Addr}{oc:Obj}{cl:List (Str×Addr)}{ctv:Value}{H0:Hp}{M:aj}(D:Known P w K mg base 3 "steps_from" ["machine","sights","seen","room","faulty"] (lI C)) (Cl:eR base cl (fV aU) ["machine","sights"] [.ref p,.ref c]) (co:fE oc bX) (hf:H0 f=some (.frz (kla_obj "<lambda>" bX (uP aU) (ue aU) (fV aU) cl pm c' ctv) (.own f))) (hc':H0 c'=some (.frz oc (.own c'))) (mat:aZ C H0 p M) (hml:M.mv.length<=100) (hc:RdL H0 c (zs.map V.str)) :
  ao P w K mg base CX0 4 f (kla_fn "<lambda>" bX (uP aU) (ue aU) (fV aU) cl pm (.ref c') ctv) ["state"] (lX dh mvL T (TabAt (cz aU) bX T) (stF M zs) (eK n zs) H0):=by
 refine uH (k:=3) AY Cl rfl co (fun vs H Q E h=>?_) (fun vs H Q E h=>?_) (fun A outer s H vs Q E hr h=>?_)
 ·obtain⟨a,x,rfl,_⟩:=h;rfl
 ·obtain⟨a,x,rfl,ext,_⟩:=h;exact⟨ext.up hf (fun _ z=>nomatch z),ext.up hc' (fun _ z=>nomatch z)⟩
 ·obtain⟨a,x,rfl,ext,jh,ha,okx,k⟩:=h;refine⟨_,aw D hr (aa (q_v 1) (aa (q_v 2) (aa (aq aI (q_v 0) ae (fun _ _=>rfl)) (aa (aq aI (q_v 0) ae (fun _ _=>rfl)) (aa (aq aI (q_v 0) ae (fun _ _=>rfl)) ab))))),?_⟩
  refine⟨_,.inl ha,_,rfl,_,.inl ha,_,rfl,_,.inl ha,_,rfl,p,c,x,M,zs,rfl,fJ mat ext.toT,hml,dE hc ext.toT,fun l H' es hl h' se ee e'=>?_⟩
  refine k l H' (es.map fun e=>⟨e.mv,.ref e.am,e.st,e.as,e.ap⟩) hl (by rw[h',Fm];rfl) (fun e he=>?_) ?_ (Ext.toP e') (jh.ext e')
  ·obtain⟨q,hq,rfl⟩:=E5.mp he
   have:=se q hq
   exact⟨this.s,this.p,q.am,rfl,this.m⟩
  ·unfold stF;rw[<-ee,Fm];rfl
noncomputable def stS (M:aj):List Sta:=M.st.map fun r=>(0,(r,false))
noncomputable def k8 (P:Program)(w:World)(C T:Addr):Sp:=fun vs H Q _=>∃(p c:Addr)(M:aj)(zs:List Str)(n:Int),vs=[.ref p,.ref c]/\aZ C H p M/\M.mv.length<=100/\RdL H c (zs.map V.str)/\zs.length<=40/\n<=8/\M.st.length<=100/\(∀ r∈M.st,0<=r/\r<n)/\(∀ m∈M.mv,bz n m)/\TabAt (cz aU) bX T H ∧
 ∀ d H' es,H d=none->ai T H H'->TabAt (cz aU) bX T H'->DS dh mvL (stF M zs) (stS M) P w H' d es->(∀ e∈es,eK n zs e.x)->Run (stF M zs) (stS M) es.length (es.map xpE)->Q (.ref d) H'
noncomputable abbrev nSe:List Str:=["machine","sights","starts"]
theorem yW:aJ nSe ["machine","sights"] (ah aU):=⟨rfl,rfl,rfl,by decide +kernel,rfl,by decide +kernel,by decide +kernel⟩
theorem uR:∀ y∈(fV aU).names,y.2=.free->(ah aU).names.lookup y.1=some .cell\/(ah aU).names.lookup y.1=some .free:=by decide +kernel
theorem y9{c0:Addr}(F:Fun K "search" "search" aU f fd) (hcd:fd.code=.ref c0) (LB:cC mg base c0 T) (TC:cO K mg C) (M1:cu P w K mg base 1 C "starts" ["self"] (jN C)) (R:∀ base',K.In base'->base'.Ns mainGlobals mg->Known P w K mg base' 5 "reach" ["starts","steps_from"] (iX dh mvL P w K mg base' 4 "state")) (D:∀ base',K.In base'->base'.Ns mainGlobals mg->Known P w K mg base' 3 "steps_from" ["machine","sights","seen","room","faulty"] (lI C)) (kb:K.In base) (nb:base.Ns mainGlobals mg):ao P w K mg base CX0 6 f fd ["machine","sights"] (k8 P w C T):=by
 refine Fun.okC F yW (fun vs H Q E h=>?_) (fun A outer s H vs Q E hr h=>?_)
 ·obtain⟨p,c,M,zs,n,rfl,_⟩:=h;rfl
 ·obtain⟨p,c,M,zs,n,rfl,mat,hml,hc,hz,hn,hsl,hso,hmo,tab,k⟩:=h;refine⟨_,af (EL nSe 2 (ah aU) ["room"] [none] rfl (bg (jb (q_v 0) TC.cl M1 (hr.mono (by decide)))) (fun _ _ _ _=>q_g ["room"] 0) (fun _ _ _ _=>cM (aa ae (aa (q_v 0) (aa cZ ab)))))
   (ag (aD (pq R hr (fun _=>rfl) (aa (q_v 2) (aa (lW hcd LB (fun x kk hm=>uR (x,kk) hm) rfl) ab))))),?_⟩
  have z1:∀{n:Nat},n<=1000->n<=sizeLine:=fun h=>by rw[Fz];lia
  obtain⟨dx,l1,l2,dd,l3,ms,mi⟩:=mat;have mat:aZ C H p M:=⟨dx,l1,l2,dd,l3,ms,mi⟩;refine⟨_,_,mi.ob,rfl,p,M,rfl,mat,fun s1 H1 hs1 h1 e1=>⟨_,.inl h1,Cw Cq (fun r=>(0,(r,false))) (zs:=M.st) (enc:=V.int) (dM (.inl h1)) (by rw[Fz];lia) (fun i r H1 Kk _ ex nw=>⟨bY rfl,z1 (by show 3<=1000;decide),nw⟩) fun D0 H2 qs hD0 h2 t2 eq2 e2=>?_⟩⟩
  have e12:=e1.trans e2;refine⟨tab.ext e12,fun g c' ctv oc H3 hg x3 tab3 hg3 hc3 co3 base' rb=>?_⟩
  have okq:∀ q∈qs,eK n zs q.1:=fun q hq=>by
   have hm:q.1∈M.st.map fun r=>((0,(r,false)):Sta):=eq2▸FK hq
   obtain⟨r,hr',e⟩:=E5.mp hm;rw[<-e];exact⟨FG _,hso r hr'⟩
  refine⟨D0,g,T,TabAt (cz aU) bX T,_,_,stF M zs,eK n zs,iA n zs,qs,rfl,.inl (x3.up h2 fun _ z=>nomatch z),fun q hq=>⟨x3.up (t2 q hq) (fun _ z=>nomatch z),okq q hq⟩,hg3,rfl,
   Be (D base' (kb.keeps rb.keep) (nb.keeps rb.keep)) (rb.clos (fV aU) ["machine","sights"] [.ref p,.ref c] (fun x kk hm=>uR (x,kk) hm) ?_) co3 hg3 hc3 (fJ (mat.ext e12) x3.toT) hml (dE (e12.rd hc) x3.toT),
   Binds.all (fun us hl=>match us,hl with | [_],_=>rfl),fun x hx=>B0 hmo hx,fun x hx=>yu hx,qF hn hz,jok T,tab3,fun d H' es r hrun tb'=>?_⟩
  ·intro i x v h1 h2
   match i with
   | 0=>
    cases h1;cases h2
    exact⟨rfl,0,rfl,rfl⟩
   | 1=>
    cases h1;cases h2
    exact⟨rfl,1,rfl,rfl⟩
   | i+2=>simp at h1
  ·have eq2:qs.map (·.1)=stS M:=eq2;have x13:ai T H H3:=(Ext.toP e12).trans x3;rw[eq2]at r hrun;exact k d H' es (x13.none r.dn) (x13.trans r.ext) tb' ⟨r.dd,r.ents,r.came,r.nd,r.len (qF hn hz)⟩ r.okk hrun
end
end K
end
section
set_option maxHeartbeats 2000000
namespace K
open PySem PySem.Spec PyProof.Rows L2 SB
section
variable {α β:Type} [DecidableEq α] {steps:α->List (β×α)}{st:List α}
theorem oU(p:List β):∀(es:List (α×List β))(ss:List (β×α)),∃ n,pushS p es ss=es++n/\(∀ e∈n,∃ z,(z,e.1)∈ss/\e.2=p++[z])/\∀ y∈ss,y.2∈(es++n).map (·.1)
 | es,[]=>⟨[],by simp [pushS],(fun e he=>nomatch he),(fun e he=>nomatch he)⟩
 | es,(z,y)::ss=>by
  unfold pushS
  split
  ·rename_i hy
   obtain⟨n,h1,h2,h3⟩:=oU p es ss;refine⟨n,h1,fun e he=>?_,fun q hq=>?_⟩
   ·obtain⟨z',hz,e'⟩:=h2 e he;exact⟨z',Ff _ hz,e'⟩
   ·rcases Fn.mp hq with rfl|hq
    ·rw[Fc];exact Gd _ hy
    ·exact h3 q hq
  ·obtain⟨n,h1,h2,h3⟩:=oU p (es++[(y,p++[z])]) ss;have ass:es++[(y,p++[z])]++n=es++(y,p++[z])::n:=by simp
   rw[ass]at h1 h3;refine⟨(y,p++[z])::n,h1,fun e he=>?_,fun q hq=>?_⟩
   ·rcases Fn.mp he with rfl|he
    ·exact⟨z,Fd ..,rfl⟩
    ·obtain⟨z',hz,e'⟩:=h2 e he;exact⟨z',Ff _ hz,e'⟩
   ·rcases Fn.mp hq with rfl|hq
    ·simp
    ·exact h3 q hq
theorem nh:∀(es:List (α×List β))(xs:List α),∃ n,bW es xs=es++n/\(∀ e∈n,e.1∈xs/\e.2=[])/\∀ y∈xs,y∈(es++n).map (·.1)
 | es,[]=>⟨[],by simp [bW],(fun e he=>nomatch he),(fun e he=>nomatch he)⟩
 | es,y::xs=>by
  unfold bW
  split
  ·rename_i hy
   obtain⟨n,h1,h2,h3⟩:=nh es xs;refine⟨n,h1,fun e he=>⟨Ff _ (h2 e he).1,(h2 e he).2⟩,fun q hq=>?_⟩
   rcases Fn.mp hq with rfl|hq
   ·rw[Fc];exact Gd _ hy
   ·exact h3 q hq
  ·obtain⟨n,h1,h2,h3⟩:=nh (es++[(y,[])]) xs;have ass:es++[(y,([]:List β))]++n=es++(y,[])::n:=by simp
   rw[ass]at h1 h3;refine⟨(y,[])::n,h1,fun e he=>?_,fun q hq=>?_⟩
   ·rcases Fn.mp he with rfl|he
    ·exact⟨Fd ..,rfl⟩
    ·exact⟨Ff _ (h2 e he).1,(h2 e he).2⟩
   ·rcases Fn.mp hq with rfl|hq
    ·simp
    ·exact h3 q hq
structure Tld (steps:α->List (β×α))(st:List α)(k:Nat)(es:List (α×List β)):Prop where
 ini:∀ x∈st,x∈es.map (·.1)
 cl:∀(j:Nat) (e:α×List β),j<k->es[j]? =some e->∀ y∈steps e.1,y.2∈es.map (·.1)
 le:k<=es.length
 came:∀(i:Nat) (e:α×List β),es[i]? =some e->(e.2=[]/\e.1∈st)\/∃(j:Nat) (e':α×List β) (z:β),j<i/\es[j]? =some e'/\(z,e.1)∈steps e'.1/\e.2=e'.2++[z]
theorem Run.told{k:Nat}{es:List (α×List β)}(r:Run steps st k es):Tld steps st k es:=by
 induction r with
 | zero=>
  obtain⟨n,h1,h2,h3⟩:=nh ([]:List (α×List β)) st;rw[List.nil_append]at h1 h3;rw[h1];exact⟨h3,(fun j e hj=>absurd hj (Gy _)),FG _,fun i e he=>.inl ⟨(h2 e (Fe he)).2,(h2 e (Fe he)).1⟩⟩
 | @next k es x p r hk ih=>
  obtain⟨n,h1,h2,h3⟩:=oU p es (steps x);rw[h1];have hkl:=(Fp.mp hk).1;refine⟨fun y hy=>?_,fun j e hj he y hy=>?_,?_,fun i e he=>?_⟩
  ·rw[Fc];exact Gd _ (ih.ini y hy)
  ·rw[FX (by lia)]at he
   by_cases q:j=k
   ·subst q;rw[hk]at he;cases he
    exact h3 y hy
   ·rw[Fc];exact Gd _ (ih.cl j e (by lia) he y hy)
  ·rw[Fh];lia
  ·by_cases hi:i<es.length
   ·rw[FX hi]at he;rcases ih.came i e he with h|⟨j,e',z,g1,g2,g3⟩
    ·exact .inl h
    ·exact .inr ⟨j,e',z,g1,by rw[FX (by lia)];exact g2,g3⟩
   ·rw[F6 (Nat.not_lt.mp hi)]at he;obtain⟨z,hz,e2⟩:=h2 e (Fe he);exact .inr ⟨k,(x,p),z,by lia,by rw[FX hkl];exact hk,hz,e2⟩
end
inductive Pos (M:aj):List Str->Int->Prop
 | start {r:Int}:r∈M.st->Pos M [] r
 | unseen {zs:List Str} {m:Mv}:Pos M zs m.1->m∈M.mv->aT M.sg m.2.1=none->Pos M zs m.2.2
 | seen {zs:List Str} {m:Mv} {z:Str}:Pos M zs m.1->m∈M.mv->aT M.sg m.2.1=some z->Pos M (zs++[z]) m.2.2
theorem yY{M:aj}{k:Nat}{B:List (Sta×List Mv)}(t:Tld (stF M zs) (stS M) k B):∀(i:Nat)(e:Sta×List Mv),B[i]? =some e->Pos M (zs.take e.1.1) e.1.2.1:=by
 intro i;induction i using Nat.strongRecOn with
 | _ i ih=>
  intro e he;rcases t.came i e he with⟨_,h⟩|⟨j,e',m,hj,he',hs,_⟩
  ·obtain⟨r,hr,e1⟩:=E5.mp h;rw[<-e1];exact .start hr
  ·have p:=ih j hj e' he';obtain⟨h1,h2,n,h3,h4⟩:=eQ.mp hs;rw[h4];rw[<-h2]at p;unfold cJ at h3;cases hg:aT M.sg m.2.1 with
   | none=>
    rw[hg]at h3;have h3:=Fw h3;subst h3;exact .unseen p h1 hg
   | some y=>
    rw[hg]at h3;dsimp only at h3
    split at h3
    ·rename_i hz
     have h3:=Fw h3;subst h3;show Pos M (zs.take (e'.1.1+1)) _
     rw[Gb,hz];exact .seen p h1 hg
    ·cases h3
theorem sE{M:aj}{ys:List Str}{B:List (Sta×List Mv)}(t:Tld (stF M zs) (stS M) B.length B)(p:Pos M ys r)(hp:ys <+: zs):∃ b,((ys.length,(r,b)):Sta)∈B.map (·.1):=by
 have go:∀{x:Sta} {y:Mv×Sta},x∈B.map (·.1)->y∈stF M zs x->y.2∈B.map (·.1):=fun {x y} hx hy=>by
  obtain⟨e,he,rfl⟩:=E5.mp hx;obtain⟨j,hj,hje⟩:=GQ he;exact t.cl j e hj (by rw[Fg hj,hje]) y hy
 induction p with
 | start hr=>exact⟨false,t.ini _ (E5.mpr ⟨_,hr,rfl⟩)⟩
 | unseen _ hm hg ih=>
  rename_i ys m _
  obtain⟨b,hb⟩:=ih hp;exact⟨_,go (y:=(m,_)) hb (eQ.mpr ⟨hm,rfl,ys.length,by unfold cJ;rw[hg],rfl⟩)⟩
 | seen _ hm hg ih=>
  rename_i ys m z _
  obtain⟨u,hu⟩:=hp;obtain⟨b,hb⟩:=ih ⟨z::u,by rw[<-hu];simp⟩
  have hz:zs[ys.length]? =some z:=by rw[<-hu];simp
  refine⟨b||decide (m.2.1∈M.fl),?_⟩;rw[Fh];exact go (y:=(m,_)) hb (eQ.mpr ⟨hm,rfl,ys.length+1,by unfold cJ;rw[hg];dsimp only;rw[if_pos hz],rfl⟩)
theorem qT{M:aj}{x:List Int}(hm:∀ m∈M.mv,bz n m)(hx:∀ r,r∈x↔Pos M zs r)(r:Int):r∈aW M n (aM M x M.mv z)↔Pos M (zs++[z]) r:=by
 rw[oM (tJ hm) hm];constructor
 ·intro c;induction c with
  | base h=>
   obtain⟨m,h1,rfl⟩:=E5.mp h;obtain⟨h2,h3⟩:=FH.mp h1;unfold cn at h3;rw[F1]at h3;exact .seen ((hx _).mp (FA h3.2)) h2 (FA h3.1)
  | step _ hy ih=>
   obtain⟨m,h1,rfl⟩:=E5.mp hy;obtain⟨h2,h3⟩:=FH.mp h1;have h3:=FA h3;obtain⟨h4,h5⟩:=FH.mp h2;rw[<-h3]at ih;exact .unseen ih h4 (FA h5)
 ·intro p;generalize hy:zs++[z]=ys at p;induction p with
  | start _=>simp at hy
  | unseen _ h1 h2 ih=>
   rename_i m _
   exact .step (ih hy) (E5.mpr ⟨m,FH.mpr ⟨FH.mpr ⟨h1,Fq h2⟩,Fq rfl⟩,rfl⟩)
  | @seen zs' m z' p h1 h2 _=>
   obtain⟨rfl,e2⟩:=List.append_inj' hy rfl;cases e2
   exact .base (E5.mpr ⟨m,FH.mpr ⟨h1,by unfold cn;rw[h2,Fq rfl,Fq ((hx _).mpr p)];rfl⟩,rfl⟩)
theorem kF{M:aj}(hs:∀ r∈M.st,okI n r)(hm:∀ m∈M.mv,bz n m)(r:Int):r∈aW M n M.st↔Pos M [] r:=by
 rw[oM hs hm];constructor
 ·intro c;induction c with
  | base h=>exact .start h
  | step _ hy ih=>
   obtain⟨m,h1,rfl⟩:=E5.mp hy;obtain⟨h2,h3⟩:=FH.mp h1;have h3:=FA h3;obtain⟨h4,h5⟩:=FH.mp h2;rw[<-h3]at ih;exact .unseen ih h4 (FA h5)
 ·intro p;generalize hy:([]:List Str)=ys at p;induction p with
  | start h=>exact .base h
  | unseen _ h1 h2 ih=>
   rename_i m _
   exact .step (ih hy) (E5.mpr ⟨m,FH.mpr ⟨FH.mpr ⟨h1,Fq h2⟩,Fq rfl⟩,rfl⟩)
  | seen _ _ _ _=>simp at hy
theorem rY{M:aj}{k:Nat}{B:List (List Int×List Str)}(hs:∀ r∈M.st,okI n r)(hm:∀ m∈M.mv,bz n m)(t:Tld (dk M n) (cS M n) k B):∀(i:Nat)(e:List Int×List Str),B[i]? =some e->∀ r,r∈e.1↔Pos M e.2 r:=by
 intro i;induction i using Nat.strongRecOn with
 | _ i ih=>
  intro e he;rcases t.came i e he with⟨h0,h⟩|⟨j,e',z,hj,he',hs',e2⟩
  ·unfold cS at h
   split at h
   ·cases h
   ·rw[Fb.mp h,h0];exact kF hs hm
  ·obtain⟨z',hz',h⟩:=E5.mp hs';obtain⟨h9,h8⟩:=Prod.mk.inj h;subst h9;rw[e2,<-h8];exact qT hm (ih j hj e' he')
theorem yz{M:aj}{B:List (List Int×List Str)}(hs:∀ r∈M.st,okI n r)(hm:∀ m∈M.mv,bz n m)(t:Tld (dk M n) (cS M n) B.length B)(p:Pos M zs r):∃ e∈B,∀ q,q∈e.1↔Pos M zs q:=by
 induction p with
 | start h=>
  rename_i r
  have hr:r∈aW M n M.st:=(kF hs hm r).mpr (.start h);have hf:aW M n M.st∈cS M n:=by
   unfold cS;rw[if_neg (fun z=>by rw[z]at hr;cases hr)]
   exact Fb.mpr rfl
  obtain⟨e,he,e1⟩:=E5.mp (t.ini _ hf);exact⟨e,he,fun q=>by rw[e1];exact kF hs hm q⟩
 | unseen _ _ _ ih=>exact ih
 | seen p h1 h2 ih=>
  rename_i zs m z
  obtain⟨e,he,hq⟩:=ih;obtain⟨j,hj,hje⟩:=GQ he;have hz:z∈jW M e.1:=G5.mpr ⟨m,h1,by rw[if_pos ((hq _).mpr p)];exact h2⟩
  have hst:(z,aW M n (aM M e.1 M.mv z))∈dk M n e.1:=E5.mpr ⟨z,oe.mpr hz,rfl⟩;obtain⟨e',he',e1⟩:=E5.mp (t.cl j e hj (by rw[Fg hj,hje]) _ hst)
  exact⟨e',he',fun q=>by rw[e1];exact qT hm hq q⟩
set_option maxHeartbeats 2000000
noncomputable abbrev ix:Stmt:=top 28
noncomputable abbrev iH:Stmt:=top 30
section
variable {P:Program}{w:World}{K:PySem.W.Frag}{mg:Str->Option Value}{base:Heap}
noncomputable def bE (n:Nat)(es:List (En Sta Mv)):List (Sta×Addr):=(es.filter fun e=>decide (e.x.1=n)).map fun e=>(e.x,e.a)
theorem tY(n:Nat):∀ es:List (En Sta Mv),(es.filterMap fun e=>if decide (V.int e.x.1=V.int n)=true then some (V.ref e.a) else none)=rfs (bE n es)
 | []=>rfl
 | e::es=>by
  have ih:=tY n es;unfold bE at ih ⊢;rw[FN,List.filter_cons,ih]
  by_cases h:e.x.1=n
  ·rw[Fq (by rw[h]:V.int e.x.1=V.int n),Fq h]
   rfl
  ·rw[FI (fun z=>h (by injection z with z;lia):¬ V.int e.x.1=V.int n),FI h]
   rfl
noncomputable def jF (P:Program)(w:World):Sp:=fun vs H Q _=>∃(d c:Addr)(es:List (En Sta Mv))(zs:List Str),vs=[.ref d,.ref c]/\H d=some (DTB P w d (es.map (enB dh)))/\(∀ e∈es,H e.a=some (.tup (eG e.x)))/\es.length<=1000/\RdL H c (zs.map V.str) ∧
 New H (.lst (rfs (bE zs.length es))) Q
noncomputable abbrev nEo:List Str:=["came_by","sights"]
theorem De:aJ nEo nEo (ah ix):=⟨rfl,rfl,rfl,by decide +kernel,rfl,by decide +kernel,by decide +kernel⟩
theorem yC(F:Fun K "ends_of" "ends_of" ix f fd) (T:di K mg):ao P w K mg base CX0 1 f fd nEo (jF P w):=by
 refine F.ok De (fun vs H Q E h=>?_) (fun cdv A outer s H vs Q E hr h=>?_)
 ·obtain⟨d,c,es,zs,rfl,_⟩:=h;rfl
 ·obtain⟨d,c,es,zs,rfl,hd,ha,hl,hc,k⟩:=h;refine⟨_,ag (aD (lV (ij nEo (ah ix) ["state","sights"] [none,some 1] rfl (qh (q_v 0)) (fun _ _ _ _=>q_g ["state","sights"] 0)
   (fun _ _ _ _=>aG cP (aq aI (q_v 0) ae (fun _ _=>rfl)) (q_b cI T.len (aa (q_v 1) ab))) (fun _ _ _ _=>q_v 0)))),?_⟩
  refine⟨_,hd,fun o H1 h1 b1=>?_⟩
  have nd:∀{b:Addr} {ys:List V},H b=some (.tup ys)->b≠d:=fun hb=>aX hb hd fun w=>nomatch w
  have hc1:RdL H1 c (zs.map V.str):=by
   rcases hc with hc|⟨o',hc⟩
   ·exact .inl (b1.up (aX hc hd fun w=>nomatch w) hc)
   ·exact .inr ⟨o',b1.up (aX hc hd fun w=>nomatch w) hc⟩
  have wk:Wk (iW P w o d (es.map (enB dh))) H1 (es.map fun e:En Sta Mv=>V.ref e.a):=by
   have wk:=zC (P:=P) (w:=w) h1;rw[Fm]at wk;exact wk
  refine eE (zs:=es) (enc:=fun e:En Sta Mv=>V.ref e.a) (fun e=>if decide (V.int e.x.1=V.int zs.length)=true then some (V.ref e.a) else none) wk (by rw[Fz];lia) (fun i e H2 Kk he ex kk=>?_) ?_
  ·have hem:=Fe he;refine⟨bY rfl,_,.inl (ex.up (b1.up (nd (ha e hem)) (ha e hem))),_,rfl,_,ex.rd hc1,?_⟩;rw[E3];have kk:=kk _ (fun _ _ h=>h)
   by_cases hB:decide (V.int e.x.1=V.int zs.length)=true
   ·rw[if_pos hB]at kk;refine⟨rfl,?_⟩;show if decide (V.int e.x.1=V.int zs.length)=true then _ else _
    rw[if_pos hB];exact kk
   ·rw[if_neg hB]at kk;refine⟨rfl,?_⟩;show if decide (V.int e.x.1=V.int zs.length)=true then _ else _
    rw[if_neg hB];exact kk
  ·rw[tY];refine fun l H2 hl2 h2 e2=>⟨d,o,es.map (enB dh),e2.up h1,fun o' v z=>?_,fun H3 h3 b3=>?_⟩
   ·have z:H d=some (.frz o' v):=z;rw[hd]at z;cases z
   ·have nl:l≠d:=(aA h1 hl2).symm;have hln:H l=none:=by rw[<-b1 l nl];exact hl2
    refine k l H3 hln (b3.up nl h2) fun b u hb=>?_
    by_cases z:b=d
    ·subst z
     exact(h3.trans hd.symm).trans hb
    ·exact b3.up z (e2.up (b1.up z hb))
theorem mH{α:Type} [DecidableEq α] (U:List α):∀(n:Nat)(l:List α),l.length=n->l.Nodup->(∀ x∈l,x∈U)->l.length+mis U l<=U.length
 | 0,l,hl,_,_=>by
  have:l=[]:=Gn.mp hl
  subst this
  have:mis U []<=U.length:=List.countP_le_length
  simpa using this
 | n+1,l,hl,nd,h=>by
  rcases List.eq_nil_or_concat l with e|⟨l',x,e⟩
  ·subst e;cases hl
  ·rw[List.concat_eq_append]at e;subst e;rw[Fh,FZ]at hl ⊢;obtain⟨n1,_,n3⟩:=List.nodup_append.mp nd;have nx:x∉l':=fun z=>n3 x z x (Fb.mpr rfl) rfl
   have ih:=mH U n l' (by lia) n1 fun y hy=>h y (Gd _ hy)
   have:=gK nx U
   rw[if_pos (h x (F0 _ (Fb.mpr rfl)))]at this;lia
theorem yf{es:List (En Sta Mv)}(nd:(es.map (·.x)).Nodup)(hok:∀ e∈es,eK n zs e.x)(hn:n<=8)(k:Nat):(bE k es).length<=60:=by
 have n1:((bE k es).map (·.1)).Nodup:=by
  unfold bE;rw[Fm]
  exact(nd.sublist (List.Sublist.map (f:=fun e:En Sta Mv=>e.x) List.filter_sublist))
 have hm:∀ q∈bE k es,∃ e∈es,e.x=q.1/\e.a=q.2/\e.x.1=k:=fun q hq=>by
  unfold bE at hq;obtain⟨e,he,rfl⟩:=E5.mp hq;obtain⟨h1,h2⟩:=FH.mp he;exact⟨e,h1,rfl,rfl,FA h2⟩
 have n2:((bE k es).map (·.1.2)).Nodup:=by
  have:(bE k es).map (·.1.2)=((bE k es).map (·.1)).map (·.2):=by rw[Fm];rfl
  rw[this];refine GH.mpr (List.Pairwise.imp_of_mem (fun {a b} ha hb hab z=>hab ?_) n1)
  obtain⟨q,hq,rfl⟩:=E5.mp ha;obtain⟨q',hq',rfl⟩:=E5.mp hb;obtain⟨e,_,h1,_,h2⟩:=hm q hq;obtain⟨e',_,h1',_,h2'⟩:=hm q' hq';refine Prod.ext ?_ z;rw[<-h1,<-h1',h2,h2']
 have:=mH (U n) _ _ rfl n2 fun s hs=>by
  obtain⟨q,hq,rfl⟩:=E5.mp hs;obtain⟨e,he,h1,_,h2⟩:=hm q hq;rw[<-h1];exact pW (hok e he).2
 rw[E3,qA]at this
 have:n.toNat<=8:=by lia
 lia
noncomputable def ju (C T:Addr):Sp:=fun vs H Q _=>∃(p c:Addr)(M:aj)(zs:List Str)(n:Int),vs=[.ref p,.ref c]/\aZ C H p M/\M.mv.length<=100/\RdL H c (zs.map V.str)/\zs.length<=40/\n<=8/\M.st.length<=100/\(∀ r∈M.st,0<=r/\r<n)/\(∀ m∈M.mv,bz n m)/\TabAt (cz aU) bX T H ∧
 ∀ l H' rs,H l=none->H' l=some (.lst ((aB rs).map V.int))->(∀ r,r∈rs↔Pos M zs r)->rs.length<=60->ai T H H'->TabAt (cz aU) bX T H'->Q (.ref l) H'
noncomputable abbrev nPo:List Str:=["machine","sights","ends"]
theorem Cn:aJ nPo ["machine","sights"] (ah iH):=⟨rfl,rfl,rfl,by decide +kernel,rfl,by decide +kernel,by decide +kernel⟩
theorem ES(F:Fun K "possible" "possible" iH f fd) (TC:cO K mg C) (Se:Known P w K mg base 6 "search" ["machine","sights"] (k8 P w C T)) (En:Known P w K mg base 1 "ends_of" nEo (jF P w)) :
  ao P w K mg base CX0 7 f fd ["machine","sights"] (ju C T):=by
 refine F.ok Cn (fun vs H Q E h=>?_) (fun cdv A outer s H vs Q E hr h=>?_)
 ·obtain⟨p,c,M,zs,n,rfl,_⟩:=h;rfl
 ·obtain⟨p,c,M,zs,n,rfl,mat,hml,hc,hz,hn,hsl,hso,hmo,tab,k⟩:=h;refine⟨_,af (av nPo 2 (aw En (hr.mono (by decide)) (aa (aw Se hr (aa (q_v 0) (aa (q_v 1) ab))) (aa (q_v 1) ab))))
   (ag (aD (nv rfl (eW nPo (ah iH) ["seen","room","faulty"] [none,none,none] rfl (bg (q_v 2)) (fun _ _ _ _=>fq (n:=3) rfl (bJ (q_g ["seen","room","faulty"] 0) (bJ (q_g ["seen","room","faulty"] 1) (bJ (q_g ["seen","room","faulty"] 2) eU)))) (fun _ _ _ _=>q_v 1)) TC.sorted TC.set))),?_⟩
  refine⟨p,c,M,zs,n,rfl,mat,hml,hc,hz,hn,hsl,hso,hmo,tab,fun d H2 es hdn x1 tab1 r hok hrun=>?_⟩
  refine⟨d,c,es,zs,rfl,r.dd,r.ents,r.len,dE hc x1.toT,fun l H3 hl h3 e3=>?_⟩
  have hel:=yf r.nd hok hn zs.length;have tld:Tld (stF M zs) (stS M) (es.map xpE).length (es.map xpE):=by rw[E3];exact hrun.told
  have hat:∀ q∈bE zs.length es,H3 q.2=some (.tup (eG q.1)):=fun q hq=>by
   unfold bE at hq;obtain⟨e,he,rfl⟩:=E5.mp hq;exact e3.up (r.ents e (FH.mp he).1)
  refine⟨_,.inl h3,gx (zs:=bE zs.length es) (enc:=fun q:Sta×Addr=>V.ref q.2) (fun q=>.int q.1.2.1) (dM (.inl h3)) (by rw[Fz];lia) (fun i q H4 Kk hq ex kk=>?_) ?_ (wR (ou mh (ou mh (ou mh vZ))))⟩
  ·exact⟨_,.inl (ex.up (hat q (Fe hq))),rfl,uJ rfl (uJ rfl (bY rfl)),kk _ fun _ _ h=>h⟩
  ·refine fun l2 H4 hl2 h4 e4=>⟨(bE zs.length es).map fun q=>Sum.inl q.1.2.1,.inl (by rw[h4,Fm];rfl),true,⟨fun kk hk=>?_,by rw[E3];exact hel⟩,fun l3 H5 hl3 h5 e5=>?_⟩
   ·obtain⟨q,_,rfl⟩:=E5.mp hk;rfl
   ·have y5:Ext H2 H5:=e3.trans (e4.trans e5);refine k l3 H5 ((bE zs.length es).map fun q=>q.1.2.1) (x1.none ((e3.trans e4).free hl3)) ?_ (fun rr=>?_) (by rw[E3];exact hel) (x1.trans (Ext.toP y5)) (tab1.ext y5)
    ·rw[h5,<-m9,Fm];rfl
    ·unfold bE;rw[Fm,E5];constructor
     ·rintro⟨e,he,rfl⟩;obtain⟨h1,h2⟩:=FH.mp he;have h2:=FA h2;obtain⟨j,hj,hje⟩:=GQ h1
      have:=yY tld j (xpE e) (by rw[E9,Fg hj,hje];rfl)
      have this:Pos M (zs.take e.x.1) e.x.2.1:=this;rw[h2,GD]at this;exact this
     ·intro hp;obtain⟨b,hb⟩:=sE tld hp (List.prefix_refl _);rw[eT]at hb;obtain⟨e,he,ee⟩:=E5.mp hb;refine⟨e,FH.mpr ⟨he,?_⟩,?_⟩
      ·apply Fq;rw[ee]
      ·show e.x.2.1=rr
       rw[ee]
end
noncomputable def bO (mv:List Mv):Int->List Mv->Bool
 | _,[]=>true
 | z,m::r=>decide (m.1=z)&&decide (m∈mv)&&bO mv m.2.2 r
structure eP (H:Hp)(r:Addr)(z:Int)(l:Addr)(ps:List (Mv×Addr)):Prop where
 tp:H r=some (.tup [.int z,.ref l])
 ls:H l=some (.lst (refs ps))
 mv:cE H ps
theorem eP.ext{r:Addr}{z:Int}{ps:List (Mv×Addr)}(h:eP H r z l ps)(e:Ext H H'):eP H' r z l ps:=⟨e.up h.tp,e.up h.ls,fun q hq=>e.up (h.mv q hq)⟩
noncomputable def cq (sg:List (Str×Str))(r:List Mv):List Str:=r.filterMap fun m=>aT sg m.2.1
theorem iL(ps:List (Mv×Addr)):(refs ps).length=ps.length:=by unfold refs;rw[E3]
theorem Br{M:aj}{x z:Sta}{ms:List Mv}(w:Pth (stF M zs) x ms z):bO M.mv x.2.1 ms=true:=by
 induction w with
 | nil x=>rfl
 | cons hs _ ih=>
  obtain⟨h1,h2,i,_,rfl⟩:=eQ.mp hs;unfold bO;rw[Fq h2,Fq h1];exact ih
noncomputable def c7 (r:Int):List Mv->Int
 | []=>r
 | m::ms=>c7 m.2.2 ms
theorem A8{M:aj}{x z:Sta}{ms:List Mv}(w:Pth (stF M zs) x ms z):c7 x.2.1 ms=z.2.1:=by
 induction w with
 | nil x=>rfl
 | cons hs _ ih=>
  obtain⟨_,_,i,_,rfl⟩:=eQ.mp hs;exact ih
theorem C1{M:aj}{x z:Sta}{ms:List Mv}(w:Pth (stF M zs) x ms z):x.1<=z.1/\(x.1<=zs.length->z.1<=zs.length)/\zs.take z.1=zs.take x.1++cq M.sg ms:=by
 induction w with
 | nil x=>exact⟨E7 _,id,by simp [cq]⟩
 | @cons x y z m ms hs _ ih=>
  obtain⟨_,_,i,ha,rfl⟩:=eQ.mp hs;obtain⟨h1,h2,h3⟩:=ih;have h1:i<=z.1:=h1;have h2:i<=zs.length->z.1<=zs.length:=h2;have h3:zs.take z.1=zs.take i++cq M.sg ms:=h3;unfold cJ at ha;cases e:aT M.sg m.2.1 with
  | none=>
   rw[e]at ha;have ha:=Fw ha;subst ha;refine⟨h1,h2,?_⟩;rw[h3];unfold cq;rw[FN,e]
  | some y0=>
   rw[e]at ha;dsimp only at ha
   split at ha
   ·rename_i hz
    have ha:=Fw ha;subst ha;have hl:=(Fp.mp hz).1;refine⟨by lia,fun _=>h2 (by lia),?_⟩
    rw[h3,Gb,hz];unfold cq;rw[FN,e,FW];rfl
   ·cases ha
noncomputable def phi (y:Sta):Nat×Int:=(y.1+(if y.2.2 then 1 else 0),y.2.1)
theorem D6{sg:List (Str×Str)}(h:cJ sg zs i z=some j):i<=j:=by
 unfold cJ at h
 split at h
 ·cases h;exact E7 _
 ·split at h
  ·cases h;exact Nat.le_succ _
  ·cases h
noncomputable def pC:List (Nat×Int):=(List.range 42).flatMap fun i=>(List.range 8).map fun(r:Nat)=>(i,(r:Int))
theorem EC:pC.length=336:=by decide +kernel
theorem wL{M:aj}{k:Nat}{B:List (Sta×List Mv)}(t:Tld (stF M zs) (stS M) k B)(nd:(B.map (·.1)).Nodup):∀(i:Nat)(e:Sta×List Mv),B[i]? =some e →
  ∃ vs:List Sta,vs.length=e.2.length+1/\(vs.map phi).Nodup/\∀ y∈vs,(∃(j:Nat) (e':Sta×List Mv),j<=i/\B[j]? =some e'/\e'.1=y)/\y.1<=e.1.1/\(y.2.2=true->e.1.2.2=true):=by
 intro i;induction i using Nat.strongRecOn with
 | _ i ih=>
  intro e he;rcases t.came i e he with⟨h0,_⟩|⟨j,e',m,hj,he',hs,e2⟩
  ·refine⟨[e.1],by rw[h0];rfl,by simp,fun y hy=>?_⟩
   rw[Fb]at hy;subst hy;exact⟨⟨i,e,E7 _,he,rfl⟩,E7 _,id⟩
  ·obtain⟨vs,h1,h2,h3⟩:=ih j hj e' he';obtain⟨_,_,n,ha,h4⟩:=eQ.mp hs;have g1:e'.1.1<=e.1.1:=by rw[h4];exact D6 ha
   have g2:e'.1.2.2=true->e.1.2.2=true:=fun z=>by rw[h4];show(_||_)=true;rw[z];rfl
   refine⟨e.1::vs,by rw[Fy,h1,e2,Fh];rfl,?_,fun y hy=>?_⟩
   ·rw[Fi];refine Gg.mpr ⟨fun hm=>?_,h2⟩
    obtain⟨u,hu,eu⟩:=E5.mp hm;obtain⟨⟨j',e3,hj',he3,e3u⟩,k1,k2⟩:=h3 u hu;have k1:=FL k1 g1;have k2:u.2.2=true->e.1.2.2=true:=fun z=>g2 (k2 z)
    have:u=e.1:=by
     generalize e.1=x at eu k1 k2;obtain⟨i,c,b⟩:=u;obtain⟨i',c',b'⟩:=x;unfold phi at eu;obtain⟨q1,q2⟩:=Prod.mk.inj eu;dsimp only at q1 q2 k1 k2;cases b <;> cases b' <;> simp at q1 k2 <;> (try subst q1) <;> (try subst q2) <;> (try rfl) <;> lia
    have w1:(B.map (·.1))[j']? =some e.1:=by rw[E9,he3,<-this,<-e3u];rfl
    have w2:(B.map (·.1))[i]? =some e.1:=by rw[E9,he];rfl
    obtain⟨a1,b1⟩:=Fp.mp w1;obtain⟨a2,b2⟩:=Fp.mp w2;exact GX.mp nd j' i a1 a2 (by lia) (b1.trans b2.symm)
   ·rcases Fn.mp hy with rfl|hy
    ·exact⟨⟨i,e,E7 _,he,rfl⟩,E7 _,id⟩
    ·obtain⟨⟨j',e3,hj',he3,e3u⟩,k1,k2⟩:=h3 y hy;exact⟨⟨j',e3,by lia,he3,e3u⟩,FL k1 g1,fun z=>g2 (k2 z)⟩
theorem Eo{M:aj}{k:Nat}{B:List (Sta×List Mv)}(t:Tld (stF M zs) (stS M) k B)(nd:(B.map (·.1)).Nodup)(hok:∀ e∈B,eK n zs e.1)(hn:n<=8)(hz:zs.length<=40){e:Sta×List Mv}(he:e∈B):e.2.length<=400:=by
 obtain⟨i,hi,hie⟩:=GQ he;obtain⟨vs,h1,h2,h3⟩:=wL t nd i e (by rw[Fg hi,hie])
 have h:=mH pC _ _ rfl h2 fun u hu=>by
  obtain⟨y,hy,rfl⟩:=E5.mp hu;obtain⟨⟨j,e',_,he',rfl⟩,_⟩:=h3 y hy;obtain⟨h1,h2⟩:=hok e' (Fe he');obtain⟨h2,h3⟩:=h2;unfold pC phi;rw[List.mem_flatMap];refine⟨e'.1.1+(if e'.1.2.2 then 1 else 0),FT.mpr ?_,E5.mpr ⟨e'.1.2.1.toNat,FT.mpr ?_,?_⟩⟩
  ·split <;> lia
  ·lia
  ·rw[Int.toNat_of_nonneg h2]
 rw[E3,h1,EC]at h;lia
theorem vp:∀{ls:List (Mv×V)},(∀ q∈ls,mvL.at' H q.1 q.2)->∃ qs:List (Mv×Addr),ls.map (·.2)=refs qs/\cE H qs/\qs.map (·.1)=ls.map (·.1)
 | [],_=>⟨[],rfl,(fun q hq=>nomatch hq),rfl⟩
 | q::ls,h=>by
  obtain⟨a,h1,h2⟩:=h q (Fd ..);obtain⟨qs,g1,g2,g3⟩:=vp fun q hq=>h q (Ff _ hq)
  refine⟨(q.1,a)::qs,?_,fun p hp=>?_,?_⟩
  ·rw[Fi,g1,h1];rfl
  ·rcases Fn.mp hp with rfl|hp
   ·exact h2
   ·exact g2 p hp
  ·rw[Fi,g3];rfl
noncomputable abbrev kR:Stmt:=top 29
noncomputable abbrev jO:Stmt:=top 31
section
variable {P:Program}{w:World}{K:PySem.W.Frag}{mg:Str->Option Value}{base:Heap}
noncomputable def mO (P:Program)(w:World):Sp:=fun vs H Q _=>∃(d b:Addr)(M:aj)(zs:List Str)(st:List Sta)(e:En Sta Mv)(es:List (En Sta Mv)),vs=[.ref d,.ref b]/\DS dh mvL (stF M zs) st P w H d es/\H b=some (.tup (eG e.x))/\e∈es ∧
 ∀ r l qs H' (x0:Sta),H l=none->eP H' r x0.2.1 l qs->x0∈st->Pth (stF M zs) x0 (qs.map (·.1)) e.x->qs.map (·.1)=e.p->Ext H H'->Q (.ref r) H'
noncomputable abbrev nBk:List Str:=["came_by","state","way"]
theorem Ew:aJ nBk ["came_by","state"] (ah kR):=⟨rfl,rfl,rfl,by decide +kernel,rfl,by decide +kernel,by decide +kernel⟩
theorem zQ(F:Fun K "run_back" "run_back" kR f fd) (D:Known P w K mg base 1 "way_to" ["came_by","place"] (iF dh mvL P w)):ao P w K mg base CX0 2 f fd ["came_by","state"] (mO P w):=by
 refine F.ok Ew (fun vs H Q E h=>?_) (fun cdv A outer s H vs Q E hr h=>?_)
 ·obtain⟨d,b,M,zs,st,e,es,rfl,_⟩:=h;rfl
 ·obtain⟨d,b,M,zs,st,e,es,rfl,ds,hb,hx,k⟩:=h;refine⟨_,af (av nBk 2 (aw D hr (aa (q_v 0) (aa (q_v 1) ab))))
   (ag (aD (cM (aa (aq aI (aq aI (q_v 2) ae (fun _ _=>rfl)) ae (fun _ _=>rfl)) (aa (aq aI (q_v 2) ae (fun _ _=>rfl)) ab))))),?_⟩
  have z1:∀{n:Nat},n<=1000->n<=sizeLine:=fun h=>by rw[Fz];lia
  refine⟨d,b,_,st,e,es,rfl,ds,hb,hx,fun t pl ll H1 ls x0 hll ht hpl hst pth hls hla hle e1=>?_⟩
  have hpl:H1 pl=some (.tup (eG x0)):=hpl;refine⟨_,.inl ht,_,rfl,_,.inl hpl,_,rfl,_,.inl ht,_,rfl,z1 (by show 2<=1000;decide),fun r H2 hr2 h2 e2=>?_⟩
  obtain⟨qs,g1,g2,g3⟩:=vp hla;rw[g1]at hls;rw[hle]at g3;exact k r ll qs H2 x0 hll ⟨h2,e2.up hls,fun q hq=>e2.up (g2 q hq)⟩ hst (g3▸pth) g3 (e1.trans e2)
noncomputable def nK (C T:Addr):Sp:=fun vs H Q _=>∃(p c:Addr)(rm:Int)(M:aj)(zs:List Str)(n:Int),vs=[.ref p,.ref c,.int rm]/\aZ C H p M/\M.mv.length<=100/\RdL H c (zs.map V.str)/\zs.length<=40/\n<=8/\M.st.length<=100/\(∀ r∈M.st,0<=r/\r<n)/\(∀ m∈M.mv,bz n m)/\TabAt (cz aU) bX T H/\Pos M zs rm ∧
 ∀ r z l qs H',H l=none->eP H' r z l qs->z∈M.st->bO M.mv z (qs.map (·.1))=true->c7 z (qs.map (·.1))=rm->cq M.sg (qs.map (·.1))=zs->qs.length<=400->ai T H H'->TabAt (cz aU) bX T H'->Q (.ref r) H'
noncomputable abbrev nRt:List Str:=["machine","sights","room","came_by","state"]
theorem Eh:aJ nRt ["machine","sights","room"] (ah jO):=⟨rfl,rfl,rfl,by decide +kernel,rfl,by decide +kernel,by decide +kernel⟩
theorem DD(F:Fun K "run_to" "run_to" jO f fd) (Se:Known P w K mg base 6 "search" ["machine","sights"] (k8 P w C T)) (En:Known P w K mg base 1 "ends_of" nEo (jF P w)) (Bk:Known P w K mg base 2 "run_back" ["came_by","state"] (mO P w)) :
  ao P w K mg base CX0 7 f fd ["machine","sights","room"] (nK C T):=by
 refine F.ok Eh (fun vs H Q E h=>?_) (fun cdv A outer s H vs Q E hr h=>?_)
 ·obtain⟨p,c,rm,M,zs,n,rfl,_⟩:=h;rfl
 ·obtain⟨p,c,rm,M,zs,n,rfl,mat,hml,hc,hz,hn,hsl,hso,hmo,tab,hpo,k2⟩:=h;refine⟨_,af (av nRt 3 (aw Se hr (aa (q_v 0) (aa (q_v 1) ab))))
   (af (bC PassesOwn.never rfl (bg (aw En (hr.mono (by decide)) (aa (q_v 3) (aa (q_v 1) ab)))) (q_g nRt 4)
    (ag (bf (aG cP (aq aI (q_v 4) ae (fun _ _=>rfl)) (q_v 2)) (ag (aD (aw Bk (hr.mono (by decide)) (aa (q_v 3) (aa (q_v 4) ab))))) bj)))
   (ag (aD et))),?_⟩
  refine⟨p,c,M,zs,n,rfl,mat,hml,hc,hz,hn,hsl,hso,hmo,tab,fun d H2 es hdn x1 tab1 r hok hrun=>?_⟩
  refine⟨d,c,es,zs,rfl,r.dd,r.ents,r.len,dE hc x1.toT,fun l H3 hl h3 e3=>?_⟩
  have x3:ai T H H3:=x1.trans (Ext.toP e3);have tab3:=tab1.ext e3;have ds:DS dh mvL (stF M zs) (stS M) P w H3 d es:=r.up e3;have tld:Tld (stF M zs) (stS M) (es.map xpE).length (es.map xpE):=by rw[E3];exact hrun.told
  have hin:∀ q∈bE zs.length es,∃ e∈es,e.x=q.1/\e.a=q.2/\e.x.1=zs.length:=fun q hq=>by
   unfold bE at hq;obtain⟨e,he,rfl⟩:=E5.mp hq;obtain⟨h1,h2⟩:=FH.mp he;exact⟨e,h1,rfl,rfl,FA h2⟩
  refine⟨_,.inl h3,bZ (xs:=rfs (bE zs.length es)) (fun i σ H4=>∃ v4:Option V,σ=[some (.ref p),some (.ref c),some (.int rm),some (.ref d),v4]/\H4=H3/\∀(j:Nat) (q:Sta×Addr),j<i->(bE zs.length es)[j]? =some q->¬ q.1.2.1=rm)
   ⟨_,rfl,rfl,fun j q hj=>absurd hj (Gy _)⟩ (fun i σ H4 _ hp=>?_) ?_ ?_⟩
  ·obtain⟨_,_,rfl,_⟩:=hp;exact .inl h3
  ·rintro i y σ H4 hy ⟨v4,rfl,rfl,hno⟩;unfold rfs at hy;rw[E9,Fl]at hy;obtain⟨q,hq,rfl⟩:=hy;obtain⟨e,he,ex,ea,el⟩:=hin q (Fe hq);have hqa:H4 q.2=some (.tup (eG q.1)):=by
    rw[<-ex,<-ea];exact ds.ents e he
   refine⟨_,.inl hqa,_,rfl,rfl,aV (fun hA=>?_) (fun hA=>?_)⟩
   ·have hA:q.1.2.1=rm:=by
     have hA:decide (V.int q.1.2.1=V.int rm)=true:=hA;simpa using hA
    refine⟨d,q.2,M,zs,stS M,e,es,rfl,ds,by rw[ex];exact hqa,he,fun rr ll qs H5 x0 hll ra hst wk hqp e5=>?_⟩
    obtain⟨r0,hr0,rfl⟩:=E5.mp hst;obtain⟨_,_,hs⟩:=C1 wk;rw[el,GD]at hs;have hs:zs=[]++cq M.sg (qs.map (·.1)):=by simpa using hs
    have hlen:qs.length<=400:=by
     rw[<-E3 (f:=fun q:Mv×Addr=>q.1),hqp]
     refine Eo (e:=xpE e) tld (by rw[eT];exact r.nd) (fun y hy=>?_) hn hz (FK he)
     obtain⟨y',hy',rfl⟩:=E5.mp hy;exact hok y' hy'
    exact k2 rr r0 ll qs H5 (x3.none hll) ra hr0 (Br wk) ((A8 wk).trans (by rw[ex];exact hA)) hs.symm hlen (x3.trans (Ext.toP e5)) (tab3.ext e5)
   ·have hA:¬ q.1.2.1=rm:=by
     have hA:¬ decide (V.int q.1.2.1=V.int rm)=true:=hA;simpa using hA
    refine⟨_,rfl,rfl,fun j q' hj hq'=>?_⟩
    by_cases e:j=i
    ·subst e;rw[hq]at hq';cases hq'
     exact hA
    ·exact hno j q' (by lia) hq'
  ·rintro σ H4 ⟨v4,rfl,rfl,hno⟩
   exfalso
   obtain⟨b,hb⟩:=sE tld hpo (List.prefix_refl _);rw[eT]at hb;obtain⟨e,he,ee⟩:=E5.mp hb;have hm:(e.x,e.a)∈bE zs.length es:=by
    unfold bE;exact E5.mpr ⟨e,FH.mpr ⟨he,Fq (by rw[ee])⟩,rfl⟩
   obtain⟨j,hj,hje⟩:=GQ hm;refine hno j (e.x,e.a) (by unfold rfs;rw[E3];exact hj) (by rw[Fg hj,hje]) ?_
   show e.x.2.1=rm
   rw[ee]
end
set_option maxHeartbeats 4000000
noncomputable def mvD (m:Mv):Dt:=.tup ((fb m).map Dt.sc)
noncomputable def dg (mv:List Mv):Dt:=.lst (mv.map mvD)
theorem Ci{a b:Mv}(h:mvD a=mvD b):a=b:=by
 unfold mvD at h;have h:=mT (gr.mp h);unfold fb at h;obtain⟨x,y,z⟩:=a;obtain⟨x',y',z'⟩:=b;simp at h;obtain⟨rfl,rfl,rfl⟩:=h;rfl
theorem qj{K:PySem.W.Frag}{m:Mv}(h:H a=some (.tup (fb m))):Is K H (mvD m) (.ref a):=by
 unfold mvD Is;exact⟨a,_,rfl,RdT.sq (.inl h),jH rfl⟩
theorem oQ{K:PySem.W.Frag}:∀{ps:List (Mv×Addr)},cE H ps->SB.IsL K H ((ps.map (·.1)).map mvD) (refs ps)
 | [],_=>by unfold refs SB.IsL;rfl
 | p::r,t=>by
  unfold refs;rw[Fi,Fi,Fi];unfold SB.IsL;exact⟨_,_,rfl,qj (t p (Fd ..)),oQ fun q hq=>t q (Ff _ hq)⟩
theorem qD{K:PySem.W.Frag}{ps:List (Mv×Addr)}(h:RdL H a (refs ps))(t:cE H ps):Is K H (dg (ps.map (·.1))) (.ref a):=by
 unfold dg Is;exact⟨a,_,rfl,h.sq,oQ t⟩
theorem qM(a b:Mv):Alike (mvD a) (mvD b):=by
 unfold mvD Alike;show bx [_,_,_] [_,_,_]
 unfold bx;refine⟨by unfold Alike;rfl,?_⟩
 unfold bx;refine⟨by unfold Alike;rfl,?_⟩
 unfold bx;exact⟨by unfold Alike;rfl,by unfold bx;trivial⟩
theorem pO:∀(a b:List Mv),bx (a.map mvD) (b.map mvD)
 | [],b=>by unfold bx;cases b <;> trivial
 | x::r,[]=>by unfold bx;trivial
 | x::r,y::s=>by
  rw[Fi,Fi];unfold bx;exact⟨qM x y,pO r s⟩
theorem vJ(a b:List Mv):Alike (dg a) (dg b):=by
 unfold dg Alike;exact pO a b
theorem u5(a:Mv):dep (mvD a)=1:=by unfold mvD dep;rw[jP]
theorem qV:∀ a:List Mv,bT (a.map mvD)<=1
 | []=>by rw[GN];unfold bT;lia
 | x::r=>by
  rw[Fi];unfold bT;rw[u5]
  have:=qV r
  lia
theorem wt(a:List Mv):dep (dg a)<=2:=by
 unfold dg dep
 have:=qV a
 lia
theorem vf(m:Mv):∀ l:List Mv,(l.map mvD).any (fun e=>eqD e (mvD m))=decide (m∈l)
 | []=>rfl
 | x::r=>by
  rw[Fi,GU,vf m r];apply FU.mpr;rw[Bool.or_eq_true,dB,decide_eq_true_eq,decide_eq_true_eq,Fn];exact⟨fun h=>h.elim (fun z=>.inl (Ci z).symm) .inr,fun h=>h.elim (fun z=>.inl (by rw[z])) .inr⟩
theorem EE{ps:List (Mv×Addr)}{i:Int}{v:V}(h:atI (refs ps) i=some v):∃ q,q∈ps/\v=.ref q.2:=by
 have:∃ j:Nat,(refs ps)[j]? =some v:=by
  unfold atI at h;cases e:ixN (refs ps).length i with
  | none=>rw[e]at h;cases h
  | some j=>rw[e]at h;exact⟨j,h⟩
 obtain⟨j,hj⟩:=this;unfold refs at hj;rw[E9,Fl]at hj;obtain⟨q,hq,rfl⟩:=hj;exact⟨q,Fe hq,rfl⟩
theorem EV(z:Int)(ps:List (Mv×Addr)):ps.filterMap (fun q=>if decide (V.int q.1.1=V.int z)=true then some (V.ref q.2) else none)=refs (ps.filter fun q=>decide (q.1.1=z)):=by
 unfold refs;induction ps with
 | nil=>rfl
 | cons p r ih=>
  rw[FN,List.filter_cons,ih]
  by_cases h:p.1.1=z
  ·simp [h]
  ·simp [h]
theorem sI(sg:List (Str×Str))(z:Str):aN (sgV sg) (Sum.inr z)=(aT sg z).map V.str:=by
 unfold aT aN sgV;rw[List.find?_map,Option.map_map];have e:((fun kv:L2.Key×V=>decide (kv.1=Sum.inr z))∘fun p:Str×Str=>((Sum.inr p.1:L2.Key),V.str p.2))=fun p:Str×Str=>decide (p.1=z):=by
  funext p;apply FU.mpr
  simp
 rw[e];cases sg.find? fun p=>decide (p.1=z) <;> rfl
theorem dZ{α:Type}{l:List α}{x:α}(h:l[i]? =some x):l.drop i=x::l.drop (i+1):=by
 obtain⟨hi,rfl⟩:=Fp.mp h;exact Gr hi
theorem u0{v:V}:atI (xs++[v]) (-1)=some v:=by
 unfold atI ixN;rw[if_neg (by decide),if_pos (by rw[Fh,FZ];lia)]
 have e:((-1:Int)+((xs++[v]).length:Int)).toNat=xs.length:=by rw[Fh,FZ];lia
 rw[e]
 show(xs++[v])[xs.length]? =some v
 simp
theorem nA(m:Mv):∀(z:Int)(r:List Mv),c7 z (r++[m])=m.2.2
 | _,[]=>rfl
 | _,x::r=>nA m x.2.2 r
noncomputable abbrev ke:Stmt:=top 36
noncomputable abbrev ja:Stmt:=top 37
noncomputable abbrev i5:Stmt:=top 39
noncomputable abbrev il:Stmt:=top 40
structure qd (mg:Str->Option Value):Prop where
 isi:mg "isinstance" = none
 list:mg "list" = none
 tuple:mg "tuple" = none
theorem uh(K:PySem.W.Frag):PySem.W.kitOne K (.type "tuple") (.type "tuple")=some true:=by kernel_rfl
theorem CZ(K:PySem.W.Frag):PySem.W.kitOne K (.type "list") (.type "list")=some true:=by kernel_rfl
theorem ifN{c:Bool}{A B:Prop}(h:c=false)(b:B):if c=true then A else B:=by
 rw[h,if_neg (by decide)]
 exact b
theorem ifY{c:Bool}{A B:Prop}(h:c=true)(a:A):if c=true then A else B:=by
 rw[if_pos h];exact a
theorem uO{mv:List Mv}{m:Mv}(hm:m∈mv):∀{z:Int}{r:List Mv},bO mv z r=true->m.1=c7 z r->bO mv z (r++[m])=true
 | z,[],_,h=>by
  have h:m.1=z:=h
  show(decide (m.1=z)&&decide (m∈mv)&&true)=true
  rw[Fq h,Fq hm];rfl
 | z,x::r,g,h=>by
  have g:(decide (x.1=z)&&decide (x∈mv)&&bO mv x.2.2 r)=true:=g
  show(decide (x.1=z)&&decide (x∈mv)&&bO mv x.2.2 (r++[m]))=true
  rw[F1]at g ⊢;exact⟨g.1,uO hm g.2 h⟩
section
variable {P:Program}{w:World}{K:PySem.W.Frag}{mg:Str->Option Value}{base:Heap}
noncomputable def mG:Sp:=fun vs H Q _=>∃(q r s m g f:Addr)(n:Int)(st:List Int)(ms:List (Mv×Addr))(sg:List (Str×Str))(fl:List Str)(z:Int)(l:Addr)(ps:List (Mv×Addr)),vs=[.ref q,.ref r]/\dv H q s m g f n st ms sg fl/\eP H r z l ps/\z∈st/\bO (ms.map (·.1)) z (ps.map (·.1))=true/\ps.length<=400/\Q (.bl true) H
noncomputable abbrev ka:List Str:=["_law_machine_here","_law_run","_law_here","_law_move"]
theorem yn:aJ ka ["_law_machine_here","_law_run"] (ah ke):=⟨rfl,rfl,rfl,by decide +kernel,rfl,by decide +kernel,by decide +kernel⟩
theorem yQ(F:Fun K "_law_is_run" "_law_is_run" ke f fd) (T:di K mg) (TI:qd mg):ao P w K mg base CX0 1 f fd ["_law_machine_here","_law_run"] mG:=by
 refine F.ok yn (fun vs H Q E h=>?_) (fun cdv A outer s H vs Q E hr h=>?_)
 ·obtain⟨q,r,s,m,g,f,n,st,ms,sg,fl,z,l,ps,rfl,_⟩:=h;rfl
 ·obtain⟨q,r,s,m,g,f,n,st,ms,sg,fl,z,l,ps,rfl,la,ra,hz,hgo,hl,k⟩:=h;have hu:=hr.units;refine⟨_,af (bf (pw_or (fH (eD (q_b oO TI.isi (aa (q_v 1) (aa (oC TI.tuple) ab))))) (pw_or (aG kO (q_b vW T.len (aa (q_v 1) ab)) ae) (pw_or (aG mR (aq aI (q_v 1) ae (fun _ _=>rfl)) (aq bD (q_v 0) ae (fun _ _=>rfl))) (pw_or1 (fH (eD (q_b oO TI.isi (aa (aq aI (q_v 1) ae (fun _ _=>rfl)) (aa (oC TI.list) ab))))))))).pt (ag (aD cZ)) bj)
   (af (av ka 2 (aq aI (q_v 1) ae (fun _ _=>rfl)))
   (af (bC PassesOwn.never rfl (bg (aq aI (q_v 1) ae (fun _ _=>rfl))) (q_g ka 3)
    (af (bf (pw_or (aG (sS hu) (q_v 3) (aq bD (q_v 0) ae (fun _ _=>rfl))) (pw_or (fH (eD (q_b oO TI.isi (aa (q_v 3) (aa (oC TI.tuple) ab))))) (pw_or1 (aG kO (aq aI (q_v 3) ae (fun _ _=>rfl)) (q_v 2))))).pt (ag (aD cZ)) bj)
    (ag (av ka 2 (aq aI (q_v 3) ae (fun _ _=>rfl))))))
   (ag (aD (dD jX (q_b cI T.len (aa (aq aI (q_v 1) ae (fun _ _=>rfl)) ab)) ae))))),?_⟩
  refine⟨_,.tup ra.tp,_,uh K,fK ⟨_,.inl ra.tp,rfl,fK ⟨_,.inl ra.tp,_,rfl,_,.inl la.q,_,rfl,_,.inl la.s,⟨rfl,dA _⟩,ifN (by rw[gH,Fq hz];rfl) ⟨_,.inl ra.tp,_,rfl,_,.lst ra.ls,_,CZ K,fK ?_⟩⟩⟩⟩
  refine⟨_,.inl ra.tp,_,rfl,_,.inl ra.tp,_,rfl,?_⟩;refine⟨_,.inl ra.ls,bZ (xs:=refs ps) (fun i σ H3=>∃ zz v,σ=[some (.ref q),some (.ref r),some (.int zz),v]/\H3=H/\bO (ms.map (·.1)) zz ((ps.map (·.1)).drop i)=true) ⟨_,_,rfl,rfl,hgo⟩ (fun i σ H3 _ ⟨_,_,_,e,_⟩=>by rw[e];exact .inl ra.ls) ?_ ?_⟩
  ·rintro i x σ H3 hx ⟨zz,v,rfl,rfl,hg⟩;unfold refs at hx;rw[E9,Fl]at hx;obtain⟨p,hp,rfl⟩:=hx;have tq:=ra.mv p (Fe hp);have hd:(ps.map (·.1)).drop i=p.1::(ps.map (·.1)).drop (i+1):=dZ (by rw[E9,hp];rfl)
   rw[hd]at hg;have hg:(decide (p.1.1=zz)&&decide (p.1∈ms.map (·.1))&&bO (ms.map (·.1)) p.1.2.2 ((ps.map (·.1)).drop (i+1)))=true:=hg;rw[F1,F1]at hg;obtain⟨⟨g1,g2⟩,g3⟩:=hg;have g1:=FA g1;refine⟨_,.inl la.q,_,rfl,mvD p.1,m,refs ms,(ms.map (·.1)).map mvD,rfl,RdL.sq (.inl la.m),oQ la.t,qj tq,fun e he=>?_,?_⟩
   ·obtain⟨y,_,rfl⟩:=E5.mp he;exact⟨qM _ _,by rw[u5];decide⟩
   rw[vf,g2];refine fK ⟨_,.tup tq,_,uh K,fK ⟨_,.inl tq,_,rfl,rfl,ifN ?_ ?_⟩⟩
   ·show(!decide (V.int p.1.1=V.int zz))=false
    rw[g1,Fq rfl];rfl
   ·exact⟨_,.inl tq,_,rfl,_,_,rfl,rfl,g3⟩
  ·rintro σ H3 ⟨zz,v,rfl,rfl,hg⟩;refine⟨_,.inl ra.tp,_,rfl,_,.inl ra.ls,?_⟩;have e:decide (((refs ps).length:Int)<=400)=true:=Fq (by rw[iL];lia)
   show Q (.bl (decide (((refs ps).length:Int)<=400))) _
   rw[e];exact k
noncomputable def jD:Sp:=fun vs H Q _=>∃(q a s m g f:Addr)(n:Int)(st:List Int)(ms:List (Mv×Addr))(sg:List (Str×Str))(fl:List Str)(ps:List (Mv×Addr)),vs=[.ref q,.ref a]/\dv H q s m g f n st ms sg fl/\RdL H a (refs ps)/\cE H ps/\ps.length<=1000/\New H (.lst ((cq sg (ps.map (·.1))).map V.str)) Q
noncomputable abbrev gE:List Str:=["_law_machine_here","_law_moves"]
theorem DE:aJ gE gE (ah ja):=⟨rfl,rfl,rfl,by decide +kernel,rfl,by decide +kernel,by decide +kernel⟩
theorem yR(F:Fun K "_law_signs" "_law_signs" ja f fd):ao P w K mg base CX0 1 f fd gE jD:=by
 refine F.ok DE (fun vs H Q E h=>?_) (fun cdv A outer s H vs Q E hr h=>?_)
 ·obtain⟨q,a,s,m,g,f,n,st,ms,sg,fl,ps,rfl,_⟩:=h;rfl
 ·obtain⟨q,a,s,m,g,f,n,st,ms,sg,fl,ps,rfl,la,ha,ht,hl,k⟩:=h;have hu:=hr.units;refine⟨_,ag (aD (ij gE (ah ja) ["_law_move","_law_machine_here"] [none,some 0] rfl (bg (q_v 1)) (fun _ _ _ _=>q_g ["_law_move","_law_machine_here"] 0)
   (fun _ _ _ _=>aG (Bs hu) (aq aI (q_v 0) ae (fun _ _=>rfl)) (aq bD (q_v 1) ae (fun _ _=>rfl))) (fun _ _ _ _=>qS hu (aq bD (q_v 1) ae (fun _ _=>rfl)) (aq aI (q_v 0) ae (fun _ _=>rfl)) (fun _ _=>rfl)))),?_⟩
  have z0:∀{n:Nat},n<=1000->n<sizeLine:=fun h=>by rw[Fz];lia
  refine⟨_,ha,?_⟩;refine eE (zs:=ps) (enc:=fun q:Mv×Addr=>V.ref q.2) (fun q=>(aT sg q.1.2.1).map V.str) (dM ha) (z0 hl) ?_ ?_
  ·intro i p H1 Kk hp ex kk;have tq:=ex.up (ht p (Fe hp));have la1:=la.ext ex;refine⟨bY rfl,_,.inl tq,_,rfl,_,.inl la1.q,_,rfl,_,.inl la1.g,_,rfl,?_⟩;rw[sI]
   have:=kk H1 Ext.refl
   cases h:aT sg p.1.2.1 with
   | none=>
    rw[h]at this;exact this
   | some y=>
    rw[h]at this;exact⟨_,.inl la1.q,_,rfl,_,.inl tq,_,rfl,_,.inl la1.g,_,rfl,V.str y,by rw[sI,h];rfl,this⟩
  ·intro a2 H2 ha2 h2 e2;refine k a2 H2 ha2 ?_ e2;rw[h2];unfold cq;rw[List.filterMap_map,List.map_filterMap];rfl
noncomputable def lB:Sp:=fun vs H Q _=>∃(a c:Addr)(xs rooms:List Int),vs=[.ref a,.ref c]/\RdL H a (xs.map V.int)/\RdL H c (rooms.map V.int)/\xs.length<=1000/\∀ H',Ext H H'->Q (.bl (xs.all fun r=>decide (r∈rooms))) H'
noncomputable abbrev nLA:List Str:=["_law_here","_law_rooms"]
theorem Ba:aJ nLA nLA (ah il):=⟨rfl,rfl,rfl,by decide +kernel,rfl,by decide +kernel,by decide +kernel⟩
theorem rp(rooms:List Int):∀ xs:List Int,decide ((((xs.filterMap fun r=>if (!decide (r∈rooms))=true then some (V.int r) else none).length:Nat):Int)=0)=xs.all fun r=>decide (r∈rooms)
 | []=>rfl
 | x::xs=>by
  have ih:=rp rooms xs;rw[FN,List.all_cons]
  by_cases h:x∈rooms
  ·rw[Fq h];exact ih
  ·rw[FI h];apply FI;show ¬ (((List.length _+1:Nat):Int)=0)
   lia
theorem EY(F:Fun K "_law_all" "_law_all" il f fd) (T:di K mg):ao P w K mg base CX0 1 f fd nLA lB:=by
 refine F.ok Ba (fun vs H Q E h=>?_) (fun cdv A outer s H vs Q E hr h=>?_)
 ·obtain⟨a,c,xs,rooms,rfl,_⟩:=h;rfl
 ·obtain⟨a,c,xs,rooms,rfl,ha,hc,hl,k⟩:=h;refine⟨_,ag (aD (dD cP (q_b cI T.len (aa (ij nLA (ah il) ["_law_room","_law_rooms"] [none,some 1] rfl (bg (q_v 0)) (fun _ _ _ _=>q_g ["_law_room","_law_rooms"] 0)
   (fun _ _ _ _=>aG mR (q_v 0) (q_v 1)) (fun _ _ _ _=>q_v 0)) ab)) ae)),?_⟩
  have z0:∀{n:Nat},n<=1000->n<sizeLine:=fun h=>by rw[Fz];lia
  refine⟨_,ha,?_⟩;refine eE (zs:=xs) (enc:=V.int) (fun r=>if (!decide (r∈rooms))=true then some (V.int r) else none) (dM ha) (z0 hl) ?_ ?_
  ·intro i r H1 Kk hr' ex kk;refine⟨bY rfl,_,ex.rd hc,⟨rfl,dA _⟩,?_⟩
   have:=kk H1 Ext.refl
   show if (!inV (.int r) (rooms.map V.int))=true then _ else _
   rw[gH];refine aV (fun h=>?_) (fun h=>?_)
   ·rw[if_pos h]at this;exact this
   ·rw[if_neg h]at this;exact this
  ·intro a2 H2 ha2 h2 e2;refine⟨_,.inl h2,rfl,?_⟩
   have:=k H2 e2
   rw[<-rp]at this;have e:∀ n:Nat,decide (V.int (n:Int)=V.int 0)=decide ((n:Int)=0):=fun n=>by
    apply FU.mpr
    simp
   show Q (.bl (decide (V.int _=V.int 0))) H2
   rw[e];exact this
noncomputable def oY:Sp:=fun vs H Q _=>∃(q c s m g f:Addr)(n:Int)(st:List Int)(ms:List (Mv×Addr))(sg:List (Str×Str))(fl:List Str)(ns:List Int),vs=[.ref q,.ref c]/\dv H q s m g f n st ms sg fl/\RdL H c (ns.map V.int)/\(1<=ns.length/\ns.length<=200)/\1<=st.length/\ms.length<=100 ∧
 ∀ r l z qs H',H r=none->H l=none->eP H' r z l qs->z∈st->bO (ms.map (·.1)) z (qs.map (·.1))=true->qs.length<=30->Ext H H'->Q (.ref r) H'
noncomputable abbrev nWl:List Str:=["_law_machine_here","_law_cells","_law_here","_law_run","_law_cell_here","_law_on"]
theorem vK:aJ nWl ["_law_machine_here","_law_cells"] (ah i5):=⟨rfl,rfl,rfl,by decide +kernel,rfl,by decide +kernel,by decide +kernel⟩
theorem mQ{ns:List Int}{i:Int}(h0:0<=i)(h1:i<ns.length):∃ c,atI (ns.map V.int) i=some (.int c)/\c∈ns:=by
 obtain⟨v,hv,hm⟩:=iz (xs:=ns.map V.int) h0 (by rw[E3];exact h1)
 obtain⟨c,hc,rfl⟩:=E5.mp hm;exact⟨c,hv,hc⟩
theorem CN(F:Fun K "_law_walk" "_law_walk" i5 f fd) (T:di K mg):ao P w K mg base CX0 1 f fd ["_law_machine_here","_law_cells"] oY:=by
 refine F.ok vK (fun vs H Q E h=>?_) (fun cdv A outer s H vs Q E hr h=>?_)
 ·obtain⟨q,c,s,m,g,f,n,st,ms,sg,fl,ns,rfl,_⟩:=h;rfl
 ·obtain⟨q,c,s,m,g,f,n,st,ms,sg,fl,ns,rfl,la,hc,hnl,hst,hml,k⟩:=h;have hu:=hr.units;refine⟨_,af (av nWl 2 (aq bD (aq bD (q_v 0) ae (fun _ _=>rfl)) ae (fun _ _=>rfl)))
   (af (av nWl 3 (cM (aa (q_v 2) (aa (bw ab) ab))))
   (af (bf (aG (lT hu) (q_v 1) (bw ab))
    (af (av nWl 2 (aq bD (aq bD (q_v 0) ae (fun _ _=>rfl)) (ak bM (aq bD (q_v 1) ae (fun _ _=>rfl)) (q_b cI T.len (aa (aq bD (q_v 0) ae (fun _ _=>rfl)) ab))) (fun _ _=>rfl)))
    (ag (av nWl 3 (cM (aa (q_v 2) (aa (bw ab) ab)))))) bj)
   (af (bC PassesOwn.never rfl (bg (fh fk (q_v 1) (df ae) (df ae))) (q_g nWl 4)
    (af (jK nWl 5 (ah i5) ["_law_move","_law_here"] [none,some 2] rfl (bg (aq bD (q_v 0) ae (fun _ _=>rfl))) (fun _ _ _ _=>q_g ["_law_move","_law_here"] 0) (fun _ _ _ _=>aG cP (aq aI (q_v 0) ae (fun _ _=>rfl)) (q_v 1)) (fun _ _ _ _=>q_v 0))
    (af (bf (aG (gA hu) (q_v 5) (bw ab)) (ag (aD (q_v 3))) bj)
    (af (bQ (eZ (aq aI (q_v 3) ae (fun _ _=>rfl)) (aq bD (q_v 5) (ak bM (q_v 4) (q_b cI T.len (aa (q_v 5) ab))) (fun _ _=>rfl))))
    (ag (av nWl 2 (aq aI (aq bD (aq aI (q_v 3) ae (fun _ _=>rfl)) (k6 lx ae) (fun _ _=>rfl)) ae (fun _ _=>rfl))))))))
   (ag (aD (q_v 3)))))),?_⟩
  have z0:∀{n:Nat},n<=1000->n<sizeLine:=fun h=>by rw[Fz];lia
  have z1:∀{n:Nat},n<=1000->n<=sizeLine:=fun h=>by rw[Fz];lia
  obtain⟨r0,hr0,_⟩:=mQ (ns:=st) (i:=0) (by decide) (by lia)
  refine⟨_,.inl la.q,_,rfl,_,.inl la.s,_,hr0,?_⟩;refine⟨z1 (FG _),fun l0 H1 hl0 h1 e1=>⟨z1 (by show 2<=1000;decide),fun t0 H2 ht0 h2 e2=>?_⟩⟩
  refine⟨z1 (FG _),fun l1 H3 hl1 h3 e3=>?_⟩
  have x3:Ext H H3:=e1.trans (e2.trans e3);have la3:=la.ext x3;refine⟨flD (ns.map V.int),flD [],bV (x3.rd hc) (dA _),bV (.inl h3) rfl,ez (fun x _ y hy=>nomatch hy),rfl,by rw[eL];decide,ifY ?_ ?_⟩
  ·cases ns with
   | nil=>exact absurd hnl.1 (by decide)
   | cons c0 ns=>
    show(!eqD _ _)=true
    cases e:eqD (flD ((c0::ns).map V.int)) (flD []) with
    | false=>rfl
    | true=>
     rw[dB]at e;cases e
  obtain⟨c0,hc0,_⟩:=mQ (ns:=ns) (i:=0) (by decide) (by lia)
  obtain⟨zz,hzz,hzm⟩:=mQ (ns:=st) (i:=c0%(((st.map V.int).length:Nat):Int)) (Gq _ (by rw[E3];lia)) (by rw[E3];exact Ge _ (by lia))
  refine⟨_,.inl la3.q,_,rfl,_,x3.rd hc,_,hc0,_,.inl la3.q,_,rfl,_,.inl la3.s,by show(0:Int)<((st.map V.int).length:Int);rw[E3];lia,_,.inl la3.s,_,hzz,?_⟩
  refine⟨z1 (FG _),fun l H4 hl4 h4 e4=>⟨z1 (by show 2<=1000;decide),fun r H5 hr5 h5 e5=>?_⟩⟩
  have x4:Ext H H4:=x3.trans e4;have x5:Ext H H5:=x4.trans e5;have fl':H l=none:=x3.free hl4;have fr:H r=none:=x4.free hr5;have nrl:r≠l:=(aA h4 hr5).symm;obtain⟨cs,ecs,hcs,lcs⟩:∃ cs:List Int,cN (ns.map V.int) (some 1) (some 31)=cs.map V.int/\cs.length<=30/\cs.length<=1000:=by
   rw[fS];refine⟨_,rfl,?_,?_⟩ <;>
   ·rw[F3,GJ]
    have:HT.sIx ns.length ns.length (some 31)-HT.sIx ns.length 0 (some 1)<=30:=by
     rw[show(some 31:Option Int)=some ((31:Nat):Int) from rfl,show(some 1:Option Int)=some ((1:Nat):Int) from rfl,HT.ft,HT.ft]
     lia
    lia
  refine⟨_,x5.rd hc,fun l6 H6 hl6 h6 e6=>?_⟩
  rw[ecs]at h6;have x6:Ext H H6:=x5.trans e6;have n6:l6≠l:=(aA (e5.up h4) hl6).symm;refine⟨_,.inl h6,bZ (xs:=cs.map V.int) (fun i σ H7=>∃ z v4 v5 qs,σ=[some (.ref q),some (.ref c),some (.int z),some (.ref r),v4,v5]/\Ext H H7/\H7 l6=some (.lst (cs.map V.int))/\H7 r=some (.tup [.int zz,.ref l])/\H7 l=some (.lst (refs qs))/\cE H7 qs/\bO (ms.map (·.1)) zz (qs.map (·.1))=true/\c7 zz (qs.map (·.1))=z/\qs.length<=i)
   ⟨zz,_,_,[],rfl,x6,h6,e6.up h5,e6.up (e5.up h4),(fun q hq=>nomatch hq),rfl,rfl,E7 _⟩ (fun i σ H7 _ ⟨_,_,_,_,_,_,h,_⟩=>.inl h) ?_ ?_⟩
  ·rintro i x σ H7 hx ⟨z,v4,v5,qs,rfl,x7,h7c,hr7,hl7,ht7,hgo,hla,hql⟩;rw[E9,Fl]at hx;obtain⟨cc,hcc,rfl⟩:=hx;have hil:i<cs.length:=(Fp.mp hcc).1;have la7:=la.ext x7;have fin:∀ H9,Ext H7 H9->Q (.ref r) H9:=fun H9 x9=>k r l zz qs H9 fr fl' ⟨x9.up hr7,x9.up hl7,fun q hq=>x9.up (ht7 q hq)⟩ hzm hgo (by lia) (x7.trans x9)
   refine⟨_,.inl la7.q,_,rfl,_,.inl la7.m,?_⟩;refine eE (zs:=ms) (enc:=fun q:Mv×Addr=>V.ref q.2) (fun q=>if decide (V.int q.1.1=V.int z)=true then some (V.ref q.2) else none) (dM (.inl la7.m)) (z0 (by lia)) ?_ ?_
   ·intro j p H8 Kk hp ex kk;refine⟨bY rfl,_,.inl (ex.up (la7.t p (Fe hp))),_,rfl,rfl,?_⟩
    have:=kk H8 Ext.refl
    refine aV (fun h=>?_) (fun h=>?_)
    ·rw[if_pos h]at this;exact this
    ·rw[if_neg h]at this;exact this
   intro a8 H8 ha8 h8 e8;rw[EV]at h8;generalize hfs:(ms.filter fun q=>decide (q.1.1=z))=fs at h8
   have hfin:∀ p∈fs,p∈ms/\p.1.1=z:=fun p hp=>by
    rw[<-hfs]at hp;exact⟨(FH.mp hp).1,FA (FH.mp hp).2⟩
   refine⟨z1 (FG _),fun a9 H9 ha9 h9 e9=>?_⟩
   have x89:Ext H7 H9:=e8.trans e9;have x9:Ext H H9:=x7.trans x89;have la9:=la7.ext x89;refine⟨dg (fs.map (·.1)),dg [],qD (.inl (e9.up h8)) (fun p hp=>la9.t p (hfin p hp).1),qD (ps:=[]) (.inl h9) (fun q hq=>nomatch hq),vJ _ _,rfl,FL (wt _) (by decide),?_⟩
   refine aV (fun h=>fin H9 x89) (fun h=>?_)
   have hfl:1<=fs.length:=by
    have h:¬ eqD (dg (fs.map (·.1))) (dg [])=true:=h;cases fs with
    | nil=>exact absurd (dj rfl) h
    | cons=>rw[Fy];lia
   obtain⟨v,hv,hvm⟩:=iz (xs:=refs fs) (i:=cc%(((refs fs).length:Nat):Int)) (Gq _ (by rw[iL];lia)) (Ge _ (by rw[iL];lia))
   obtain⟨p,hp,rfl⟩:=EE hv;obtain⟨hpm,hpz⟩:=hfin p hp;have g8:=e9.up h8;have gl:=x89.up hl7;refine⟨_,.inl (x89.up hr7),_,rfl,_,.inl gl,_,.inl g8,by show(0:Int)<((refs fs).length:Int);rw[iL];lia,_,.inl g8,_,hv,_,gl,z0 (by rw[iL];lia),fun H10 h10 b10=>?_⟩
   have nt:∀{b:Addr} {ys:List V},H9 b=some (.tup ys)->H10 b=some (.tup ys):=fun hb=>b10.up (aX hb gl fun z=>nomatch z) hb
   have tq:=nt (la9.t p hpm);have h10:H10 l=some (.lst (refs (qs++[p]))):=by
    rw[h10];unfold refs;rw[Fc];rfl
   have hlast:atI (refs (qs++[p])) (-1)=some (.ref p.2):=by
    unfold refs;rw[Fc];exact u0
   refine⟨_,.inl (nt (x89.up hr7)),_,rfl,1,rfl,_,.inl h10,_,hlast,_,.inl tq,_,rfl,p.1.2.2,_,_,qs++[p],rfl,fun y u hy=>b10.up (aA hy fl') (x9.up hy),b10.up n6 (x89.up h7c),nt (x89.up hr7),h10,fun y hy=>?_,?_,?_,?_⟩
   ·rcases Fs.mp hy with hy|hy
    ·exact nt (x89.up (ht7 y hy))
    ·rw[Fb.mp hy];exact tq
   ·rw[Fc];exact uO (FK hpm) hgo (by rw[hla];exact hpz)
   ·rw[Fc];exact nA p.1 _ _
   ·rw[Fh,FZ];lia
  ·rintro σ H7 ⟨z,v4,v5,qs,rfl,x7,h7c,hr7,hl7,ht7,hgo,hla,hql⟩;rw[E3]at hql;exact k r l zz qs H7 fr fl' ⟨hr7,hl7,ht7⟩ hzm hgo (by lia) x7
end
set_option maxHeartbeats 8000000
noncomputable abbrev iU:Stmt:=top 41
noncomputable abbrev mOf (n:Int)(st:List Int)(ms:List (Mv×Addr))(sg:List (Str×Str))(fl:List Str):aj:=mkM n st (ms.map (·.1)) sg fl
theorem om{M:aj}:∀{ps:List Mv}{zs:List Str}{z:Int},Pos M zs z->bO M.mv z ps=true->Pos M (zs++cq M.sg ps) (c7 z ps)
 | [],zs,z,p,_=>by
  show Pos M (zs++[]) z
  rw[FR];exact p
 | m::ps,zs,z,p,g=>by
  have g:(decide (m.1=z)&&decide (m∈M.mv)&&bO M.mv m.2.2 ps)=true:=g;rw[F1,F1]at g;obtain⟨⟨g1,g2⟩,g3⟩:=g;have g1:=FA g1;have g2:=FA g2;rw[<-g1]at p;unfold cq;rw[FN];cases h:aT M.sg m.2.1 with
  | none=>exact om (.unseen p g2 h) g3
  | some y=>
   have:=om (.seen p g2 h) g3
   rw[FW]at this;exact this
theorem nq{a b:List Mv}(h:∀ m,m∈a↔m∈b):∀(z:Int)(r:List Mv),bO a z r=bO b z r
 | _,[]=>rfl
 | z,m::r=>by
  show(decide (m.1=z)&&decide (m∈a)&&bO a m.2.2 r)=(decide (m.1=z)&&decide (m∈b)&&bO b m.2.2 r)
  rw[nq h m.2.2 r,decide_eq_decide.mpr (h m)]
theorem up_eq:∀{a b:List Int},a.Pairwise (· < ·)->b.Pairwise (· < ·)->(∀ r,r∈a↔r∈b)->a=b
 | [],[],_,_,_=>rfl
 | [],y::b,_,_,h=>nomatch (h y).mpr (Fd ..)
 | x::a,[],_,_,h=>nomatch (h x).mp (Fd ..)
 | x::a,y::b,ha,hb,h=>by
  obtain⟨a1,a2⟩:=Gk.mp ha;obtain⟨b1,b2⟩:=Gk.mp hb;have e:x=y:=by
   rcases Fn.mp ((h x).mp (Fd ..)) with e|e
   ·exact e
   ·rcases Fn.mp ((h y).mpr (Fd ..)) with e'|e'
    ·exact e'.symm
    ·have:=a1 y e'
     have:=b1 x e
     lia
  subst e;congr 1;refine up_eq a2 b2 fun r=>?_
  constructor
  ·intro hr;rcases Fn.mp ((h r).mp (Ff _ hr)) with e|e
   ·have:=a1 r hr
    lia
   ·exact e
  ·intro hr;rcases Fn.mp ((h r).mpr (Ff _ hr)) with e|e
   ·have:=b1 r hr
    lia
   ·exact e
theorem Dx(l:List Int):(aB l).Pairwise (· < ·):=by
 unfold aB;have h:=iB (dI true) (xs:=l.map Sum.inl) (iC l);rw[GH];refine List.Pairwise.imp_of_mem (fun {a b} ha hb hab=>?_) h
 obtain⟨x,_,rfl⟩:=E5.mp (cx.mp ha);obtain⟨y,_,rfl⟩:=E5.mp (cx.mp hb);exact FA hab
theorem Dj{M:aj}{rs x:List Int}(hx:x.Sublist (UI n))(h1:∀ r,r∈rs↔Pos M zs r)(h2:∀ r,r∈x↔Pos M zs r):aB rs=x:=
 up_eq (Dx rs) ((nB n).sublist hx) fun r=>by rw[eI,h1,h2]
theorem ve(z:Int)(ps:List (Mv×Addr)):atI ([V.int z]++ps.map fun p=>V.int p.1.2.2) (-1)=some (.int (c7 z (ps.map (·.1)))):=by
 rcases List.eq_nil_or_concat ps with rfl|⟨qs,q,rfl⟩
 ·rfl
 ·rw[List.concat_eq_append,Fc,Fc,<-FW,List.map_singleton,List.map_singleton,nA q.1];exact u0
theorem wb(ys:List Str)(z:Str):cN ((ys++[z]).map V.str) none (some (-1))=ys.map V.str:=by
 rw[fS];have e:HT.sIx (ys++[z]).length (ys++[z]).length (some (-1))-HT.sIx (ys++[z]).length 0 none=ys.length:=by
  show(if (-1:Int)<0 then((-1:Int)+((ys++[z]).length:Int)).toNat else min (-1:Int).toNat (ys++[z]).length)-0=_
  rw[if_pos (by decide),Fh,FZ]
  lia
 rw[e]
 show((((ys++[z]).drop 0).take ys.length).map V.str)=_
 rw[List.drop_zero,List.take_left]
theorem wH{a b:TS}{r:VK}{u v:L2.St->Hp->Prop}(h:a { D with nx:=b D } σ H):ek ⟨mI a b D,r,u,v⟩ σ H:=h
theorem zd{t:TT}{a:TS}(Cnd:Hp->Prop)(rest:∀ H5,Cnd H5->D.nx σ H5)(h:(∀ H5,Cnd H5->D.nx σ H5)->nG t a ek D σ H):nG t a ek D σ H:=h rest
section
variable {P:Program}{w:World}{K:PySem.W.Frag}{mg:Str->Option Value}{base:Heap}
theorem dv.uc{q s m g:Addr}{st:List Int}{ms:List (Mv×Addr)}{sg:List (Str×Str)}(a:dv H q s m g f n st ms sg fl)(e:c9 H H'):dv H' q s m g f n st ms sg fl:=
 ⟨e.up a.q (fun _ z=>nomatch z),e.up a.s (fun _ z=>nomatch z),e.up a.m (fun _ z=>nomatch z),fun y hy=>e.up (a.t y hy) (fun _ z=>nomatch z),e.up a.g (fun _ z=>nomatch z),e.up a.f (fun _ z=>nomatch z)⟩
structure All (C T:Addr)(H:Hp)(q x c:Addr)(s m g f:Addr)(n:Int)(st:List Int)(ms:List (Mv×Addr))(sg:List (Str×Str))(fl:List Str)(rooms:List Int):Prop where
 la:dv H q s m g f n st ms sg fl
 ma:aZ C H x (mOf n st ms sg fl)
 rm:RdL H c (rooms.map V.int)
 tb:TabAt (cz aU) bX T H
theorem All.up{q x s m g:Addr}{st:List Int}{ms:List (Mv×Addr)}{sg:List (Str×Str)}{rooms:List Int}(a:All C T H q x c s m g f n st ms sg fl rooms)(e:ai T H H')(t:TabAt (cz aU) bX T H'):All C T H' q x c s m g f n st ms sg fl rooms:=
 ⟨a.la.uc e.toT,fJ a.ma e.toT,dE a.rm e.toT,t⟩
theorem All.ext{q x s m g:Addr}{st:List Int}{ms:List (Mv×Addr)}{sg:List (Str×Str)}{rooms:List Int}(a:All C T H q x c s m g f n st ms sg fl rooms)(e:Ext H H'):All C T H' q x c s m g f n st ms sg fl rooms:=a.up (Ext.toP e) (a.tb.ext e)
structure Good (n:Int)(st:List Int)(ms:List (Mv×Addr)):Prop where
 n8:n<=8
 sl:st.length<=9
 ml:ms.length<=18
 st:∀ r∈st,okI n r
 mv:∀ q∈ms,bz n q.1
theorem uY{st:List Int}{ms:List (Mv×Addr)}(o:Good n st ms){sg:List (Str×Str)}:(mOf n st ms sg fl).mv.length<=18/\(mOf n st ms sg fl).st.length<=9/\(∀ r∈(mOf n st ms sg fl).st,okI n r)/\∀ y∈(mOf n st ms sg fl).mv,bz n y:=by
 refine⟨?_,?_,fun r hr=>o.st r (eI.mp hr),fun y hy=>?_⟩
 ·show(fB (ms.map (·.1))).length<=18
  unfold fB
  have:=fw cT ((ms.map (·.1)).map mk)
  rw[E3]at this ⊢;rw[E3]at this
  have:=o.ml
  lia
 ·show(aB st).length<=9
  unfold aB
  have:=fw kLt (st.map Sum.inl)
  rw[E3]at this ⊢
  have:=o.sl
  lia
 ·obtain⟨q,hq,rfl⟩:=E5.mp (oy.mp hy);exact o.mv q hq
noncomputable def oA (C T:Addr):Sp:=fun vs H Q _=>∃(q x c d s m g f:Addr)(n:Int)(st:List Int)(ms:List (Mv×Addr))(sg:List (Str×Str))(fl:List Str)(rooms:List Int)(zs:List Str),vs=[.ref q,.ref x,.ref c,.ref d]/\All C T H q x c s m g f n st ms sg fl rooms/\Good n st ms/\H d=some (.lst (zs.map V.str))/\zs.length<=1000 ∧
 (∃ r,Pos (mOf n st ms sg fl) zs r)/\(∀ r,Pos (mOf n st ms sg fl) zs r->r∈rooms)/\(∀ ys z,zs=ys++[z]->∃ r,Pos (mOf n st ms sg fl) ys r/\r∉rooms)/\∀ H',Q (.bl true) H'
noncomputable abbrev nGv:List Str:=["_law_machine_here","_law_asked","_law_rooms","_law_sights","_law_here","_law_room","_law_run"]
theorem B1:aJ nGv ["_law_machine_here","_law_asked","_law_rooms","_law_sights"] (ah iU):=⟨rfl,rfl,rfl,by decide +kernel,rfl,by decide +kernel,by decide +kernel⟩
theorem AK(F:Fun K "_law_given" "_law_given" iU f fd) (TL:di K mg) (DP:Known P w K mg base 7 "possible" ["machine","sights"] (ju C T)) (DR:Known P w K mg base 7 "run_to" ["machine","sights","room"] (nK C T)) (DA:Known P w K mg base 1 "_law_all" nLA lB) (DI:Known P w K mg base 1 "_law_is_run" ["_law_machine_here","_law_run"] mG) (DS:Known P w K mg base 1 "_law_signs" gE jD):ao P w K mg base CX0 8 f fd ["_law_machine_here","_law_asked","_law_rooms","_law_sights"] (oA C T):=by
 refine F.ok B1 (fun vs H Q E h=>?_) (fun cdv A outer s H vs Q E hr h=>?_)
 ·obtain⟨q,x,c,d,s,m,g,f,n,st,ms,sg,fl,rooms,zs,rfl,_⟩:=h;rfl
 ·obtain⟨q,x,c,d,s,m,g,f,n,st,ms,sg,fl,rooms,zs,rfl,al,go,hd,hzl,hne,hin,hpr,k⟩:=h;have hu:=hr.units;have hr1:aE 1 _:=hr.mono (by decide)
  refine⟨_,af (bf (aG jR (q_b cI TL.len (aa (q_v 3) ab)) ae) (ag (aD cZ)) bj)
   (af (av nGv 4 (aw DP hr (aa (q_v 1) (aa (q_v 3) ab))))
   (af (bf (pw_or (aG (gA hu) (q_v 4) (bw ab)) (pw_or1 (fH (eD (aw DA hr1 (aa (q_v 4) (aa (q_v 2) ab))))))).pt (ag (aD cZ)) bj)
   (af (bf (pw_and (aG (lT hu) (q_v 3) (bw ab)) (pw_and1 (eD (aw DA hr1 (aa (aw DP hr (aa (q_v 1) (aa (fh fk (q_v 3) iI (df (k6 lx ae))) ab))) (aa (q_v 2) ab)))))).pt (ag (aD cZ)) bj)
   (af (bC PassesOwn.never rfl (bg (q_v 4)) (q_g nGv 5)
    (af (av nGv 6 (aw DR hr (aa (q_v 1) (aa (q_v 3) (aa (q_v 5) ab)))))
    (af (bf (pw_or (fH (eD (aw DI hr1 (aa (q_v 0) (aa (q_v 6) ab))))) (pw_or1 (aG (lT hu) (aw DS hr1 (aa (q_v 0) (aa (aq aI (q_v 6) ae (fun _ _=>rfl)) ab))) (q_v 3)))).pt (ag (aD cZ)) bj)
    (ag (bf (aG kO (aq bD (ak bU (bw (aa (aq aI (q_v 6) ae (fun _ _=>rfl)) ab)) (eW nGv (ah iU) ["_law_move"] [none] rfl (bg (aq aI (q_v 6) ae (fun _ _=>rfl))) (fun _ _ _ _=>q_g ["_law_move"] 0) (fun _ _ _ _=>aq aI (q_v 0) ae (fun _ _=>rfl)))) (k6 lx ae) (fun _ _=>rfl)) (q_v 5)) (ag (aD cZ)) bj)))))
   (ag (aD cZ)))))),?_⟩
  have z0:∀{n:Nat},n<=1000->n<sizeLine:=fun h=>by rw[Fz];lia
  have z1:∀{n:Nat},n<=1000->n<=sizeLine:=fun h=>by rw[Fz];lia
  obtain⟨gm,gs,gst,gmv⟩:=uY go (sg:=sg) (fl:=fl);have nL:∀{ys:List V},∀ ps,HO.lst ys≠.tbl ps:=fun ps z=>nomatch z
  refine⟨_,.inl hd,aV (fun h=>k _) (fun h=>?_)⟩
  have h40:zs.length<=40:=by
   have h:¬ decide ((((zs.map V.str).length:Nat):Int) > 40)=true:=h;rw[E3,decide_eq_true_eq]at h;lia
  refine⟨x,d,mOf n st ms sg fl,zs,n,rfl,al.ma,by lia,.inl hd,h40,go.n8,by lia,gst,gmv,al.tb,fun l H1 rs hl h1 hrs hrl x1 tb1=>?_⟩
  have al1:=al.up x1 tb1;show bG 4 (.ref l) [some (.ref q),some (.ref x),some (.ref c),some (.ref d),none,none,none] H1 _
  have hsl:(aB rs).length<=1000:=by
   unfold aB
   have:=fw kLt (rs.map Sum.inl)
   rw[E3]at this ⊢;lia
  refine⟨z1 (FG _),fun l2 H2 hl2 h2 e2=>?_⟩
  refine⟨flD ((aB rs).map V.int),flD [],bV (.inl (e2.up h1)) (dA _),bV (.inl h2) rfl,ez (fun x _ y hy=>nomatch hy),rfl,by rw[eL];decide,ifN ?_ ?_⟩
  ·obtain⟨r,hr'⟩:=hne;cases e:eqD (flD ((aB rs).map V.int)) (flD []) with
   | false=>rfl
   | true=>
    rw[dB]at e
    have:r∈aB rs:=eI.mpr ((hrs r).mpr hr')
    cases e':aB rs with
    | nil=>rw[e']at this;cases this
    | cons y ys=>rw[e']at e;cases e
  have al2:=al1.ext e2;refine⟨l,c,aB rs,rooms,rfl,.inl (e2.up h1),al2.rm,hsl,fun H3 e3=>?_⟩
  have hall:((aB rs).all fun r=>decide (r∈rooms))=true:=GA.mpr fun r hr'=>Fq (hin r ((hrs r).mp (eI.mp hr')))
  rw[hall];refine ifN rfl ?_;show ek _ [some (.ref q),some (.ref x),some (.ref c),some (.ref d),some (.ref l),none,none] H3
  have x3:ai T H H3:=x1.trans (Ext.toP (e2.trans e3));have al3:=al2.ext e3;have h1':H3 l=some (.lst ((aB rs).map V.int)):=e3.up (e2.up h1);have hd3:H3 d=some (.lst (zs.map V.str)):=x3.up hd nL;refine wH ?_;refine zd (fun H5=>ai T H3 H5/\TabAt (cz aU) bX T H5) (fun H5 ⟨x5,tb5⟩=>?_) (fun rest=>?_)
  rotate_left
  ·refine⟨z1 (FG _),fun l4 H4 hl4 h4 e4=>?_⟩
   refine⟨flD (zs.map V.str),flD [],bV (.inl (e4.up hd3)) (kf _),bV (.inl h4) rfl,ez (fun x _ y hy=>nomatch hy),rfl,by rw[eL];decide,?_⟩
   have al4:=al3.ext e4;refine aV (fun hnz=>?_) (fun hnz=>fK (rest H4 ⟨Ext.toP e4,al4.tb⟩))
   obtain⟨ys,z,rfl⟩:∃ ys z,zs=ys++[z]:=by
    rcases List.eq_nil_or_concat zs with rfl|⟨ys,z,e⟩
    ·have hnz:(!eqD (flD ((([]:List Str)).map V.str)) (flD []))=true:=hnz;rw[show eqD (flD ((([]:List Str)).map V.str)) (flD [])=true from dj rfl]at hnz
     cases hnz
    ·exact⟨ys,z,by rw[e,List.concat_eq_append]⟩
   refine⟨1,rfl,_,.inl (e4.up hd3),fun l5 H5 hl5 h5 e5=>?_⟩
   have h5:H5 l5=some (.lst (ys.map V.str)):=by
    rw[h5,<-wb ys z]
   have al5:=al4.ext e5;have hyl:ys.length<=40:=by
    rw[Fh]at h40;lia
   refine⟨x,l5,mOf n st ms sg fl,ys,n,rfl,al5.ma,by lia,.inl h5,hyl,go.n8,by lia,gst,gmv,al5.tb,fun l6 H6 rs6 hl6 h6 hrs6 hrl6 x6 tb6=>?_⟩
   have al6:=al5.up x6 tb6;have hsl6:(aB rs6).length<=1000:=by
    unfold aB
    have:=fw kLt (rs6.map Sum.inl)
    rw[E3]at this ⊢;lia
   refine⟨l6,c,aB rs6,rooms,rfl,.inl h6,al6.rm,hsl6,fun H7 e7=>?_⟩
   have hno:((aB rs6).all fun r=>decide (r∈rooms))=false:=by
    obtain⟨r,p1,p2⟩:=hpr ys z rfl;refine List.all_eq_false.mpr ⟨r,eI.mpr ((hrs6 r).mpr p1),?_⟩;rw[FI p2];decide
   rw[hno];exact fK (rest H7 ⟨(Ext.toP (e4.trans e5)).trans (x6.trans (Ext.toP e7)),tb6.ext e7⟩)
  show ek _ [some (.ref q),some (.ref x),some (.ref c),some (.ref d),some (.ref l),none,none] H5
  have al5:=al3.up x5 tb5;have hl5:H5 l=some (.lst ((aB rs).map V.int)):=x5.up h1' nL;have hd5:H5 d=some (.lst (zs.map V.str)):=x5.up hd3 nL;refine⟨_,.inl hl5,bZ (xs:=(aB rs).map V.int) (fun i σ H6=>∃ v5 v6:Option V,σ=[some (.ref q),some (.ref x),some (.ref c),some (.ref d),some (.ref l),v5,v6]/\ai T H5 H6/\TabAt (cz aU) bX T H6)
   ⟨_,_,rfl,Ext.toP Ext.refl,tb5⟩ (fun i σ H6 _ hp=>?_) ?_ ?_⟩
  ·obtain⟨_,_,_,x6,_⟩:=hp;exact .inl (x6.up hl5 nL)
  rotate_left
  ·rintro σ H6 ⟨v5,v6,rfl,_⟩;exact k H6
  rintro i y σ H6 hy ⟨v5,v6,rfl,x6,tb6⟩;rw[E9,Fl]at hy;obtain⟨rm,hrm,rfl⟩:=hy;have hpo:=(hrs rm).mp (eI.mp (Fe hrm));have al6:=al5.up x6 tb6;refine⟨x,d,rm,mOf n st ms sg fl,zs,n,rfl,al6.ma,by lia,.inl (x6.up hd5 nL),h40,go.n8,by lia,gst,gmv,tb6,hpo,fun r z lr ps H7 hlr ra hzst hgo hend hsig hpl x7 tb7=>?_⟩
  have al7:=al6.up x7 tb7;have hd7:H7 d=some (.lst (zs.map V.str)):=x7.up (x6.up hd5 nL) nL;show bG 6 (.ref r) [some (.ref q),some (.ref x),some (.ref c),some (.ref d),some (.ref l),some (.int rm),v6] H7 _
  refine⟨q,r,s,m,g,f,n,st,ms,sg,fl,z,lr,ps,rfl,al7.la,ra,eI.mp hzst,?_,hpl,ifN rfl ?_⟩
  ·rw[<-hgo];exact nq (fun y=>oy.symm) _ _
  refine⟨_,.inl ra.tp,_,rfl,q,lr,s,m,g,f,n,st,ms,sg,fl,ps,rfl,al7.la,.inl ra.ls,ra.mv,by lia,fun a8 H8 ha8 h8 e8=>?_⟩
  have hsig:cq sg (ps.map (·.1))=zs:=hsig;rw[hsig]at h8;refine⟨flD (zs.map V.str),flD (zs.map V.str),bV (.inl h8) (kf _),bV (.inl (e8.up hd7)) (kf _),ez (yJ _ _),rfl,by rw[eL];decide,ifN (by rw[dj rfl];rfl) ?_⟩
  show ek _ [some (.ref q),some (.ref x),some (.ref c),some (.ref d),some (.ref l),some (.int rm),some (.ref r)] H8
  have ra8:=ra.ext e8;refine⟨_,.inl ra8.tp,_,rfl,z1 (by show 1<=1000;decide),fun a9 H9 ha9 h9 e9=>?_⟩
  have ra9:=ra8.ext e9;refine⟨_,.inl ra9.tp,_,rfl,_,.inl ra9.ls,gx (zs:=ps) (enc:=fun p:Mv×Addr=>V.ref p.2) (fun p=>.int p.1.2.2) (dM (.inl ra9.ls)) (z0 (by lia)) (fun j p H10 Kk hp x10 kk=>?_) fun a10 H10 ha10 h10 e10=>?_⟩
  ·exact⟨bY rfl,_,.inl (x10.up (ra9.mv p (Fe hp))),_,rfl,kk H10 Ext.refl⟩
  refine⟨_,e10.up h9,_,h10,z1 (by rw[E3];show 1+_<=1000;lia),fun a11 H11 ha11 h11 e11=>?_⟩
  refine⟨1,rfl,_,.inl h11,_,ve z ps,rfl,ifN ?_ ?_⟩
  ·show(!decide (V.int (c7 z (ps.map (·.1)))=V.int rm))=false
   rw[hend,Fq rfl];rfl
  have y11:Ext H7 H11:=e8.trans (e9.trans (e10.trans e11));exact⟨_,_,rfl,x6.trans (x7.trans (Ext.toP y11)),tb7.ext y11⟩
end
set_option maxHeartbeats 8000000
noncomputable abbrev fi:Stmt:=top 42
theorem TabAt.eJ{T':Addr}{pos:PySem.Pos}(t:TabAt pos qual T' H)(a:bh T T2 H H1)(n:T'≠T)(m:T'≠T2):TabAt pos qual T' H1:=by
 rcases t with t|⟨c',oc,h1,h2,h3⟩
 ·exact .inl (a.ot n m t)
 ·exact .inr ⟨c',oc,a.ot n m h1,a.toT.up h2 (fun ps z=>nomatch z),h3⟩
theorem Tld.len{α β:Type}{steps:α->List (β×α)}{st:List α}{k:Nat}{B:List (α×List β)}(t:Tld steps st k B):∀(i:Nat)(e:α×List β),B[i]? =some e->e.2.length<=i:=by
 intro i;induction i using Nat.strongRecOn with
 | _ i ih=>
  intro e he;rcases t.came i e he with⟨h,_⟩|⟨j,e',z,hj,he',_,h⟩
  ·rw[h];exact FG _
  ·have:=ih j hj e' he'
   rw[h,Fh,FZ];lia
theorem uX{α:Type}{p:α->Bool}:∀{l:List α}{x:α},l.find? p=some x->∃ i:Nat,l[i]? =some x/\∀(j:Nat)(y:α),j<i->l[j]? =some y->p y=false
 | [],_,h=>by cases h
 | a::l,x,h=>by
  rw[F9]at h;cases hp:p a with
  | true=>
   rw[hp]at h;have h:=Fw h;subst h;exact⟨0,rfl,fun j y hj=>absurd hj (Gy _)⟩
  | false=>
   rw[hp]at h;obtain⟨i,h1,h2⟩:=uX h;refine⟨i+1,by simpa using h1,fun j y hj hy=>?_⟩
   cases j with
   | zero=>
    have hy:=Fw hy;subst hy;exact hp
   | succ j=>exact h2 j y (by lia) (by simpa using hy)
theorem yO{M:aj}{rooms:List Int}{B:List (List Int×List Str)}{e:List Int×List Str}(hs:∀ r∈M.st,okI n r)(hm:∀ m∈M.mv,bz n m)(t:Tld (dk M n) (cS M n) B.length B)(hB:∀ e∈B,okR n e.1)(hf:B.find? (eC rooms)=some e) :
  (∃ r,Pos M e.2 r)/\(∀ r,Pos M e.2 r->r∈rooms)/\(∀ ys z,e.2=ys++[z]->∃ r,Pos M ys r/\r∉rooms)/\e.2.length<=B.length:=by
 obtain⟨i,hi,hb⟩:=uX hf;have hp:=rY hs hm t i e hi;have hin:eC rooms e=true:=List.find?_some hf;refine⟨?_,fun r hr=>?_,fun ys z hz=>?_,?_⟩
 ·have hne:=(hB e (Fe hi)).1;cases he:e.1 with
  | nil=>exact absurd he hne
  | cons r l=>exact⟨r,(hp r).mp (by rw[he];exact Fd ..)⟩
 ·unfold eC at hin;exact FA (GA.mp hin r ((hp r).mpr hr))
 ·rcases t.came i e hi with⟨h,_⟩|⟨j,e',z',hj,he',_,h⟩
  ·rw[h]at hz;simp at hz
  ·rw[h]at hz;obtain⟨rfl,_⟩:=List.append_inj' hz rfl;have hno:=hb j e' hj he';unfold eC at hno;obtain⟨r,h1,h2⟩:=List.all_eq_false.mp hno;exact⟨r,(rY hs hm t j e' he' r).mp h1,fun z=>h2 (Fq z)⟩
 ·have:=t.len i e hi
  have:=(Fp.mp hi).1
  lia
theorem xa{α β:Type} [DecidableEq α] {steps:α->List (β×α)}{k:Nat}{B:List (α×List β)}(r:Run steps [] k B):B=[]:=by
 induction r with
 | zero=>rfl
 | next _ h ih=>rw[ih]at h;simp at h
theorem pos_none{M:aj}(h:M.st=[]):¬ Pos M zs r:=by
 intro p;induction p with
 | start hr=>rw[h]at hr;cases hr
 | unseen _ _ _ ih=>exact ih
 | seen _ _ _ ih=>exact ih
theorem Az{M:aj}(h:M.st=[])(hm:∀ m∈M.mv,bz n m):cS M n=[]:=by
 unfold cS;rw[if_pos];cases e:aW M n M.st with
 | nil=>rfl
 | cons r l=>
  have:r∈aW M n M.st:=by rw[e];exact Fd ..
  exact absurd ((kF (fun r hr=>by rw[h]at hr;cases hr) hm r).mp this) (pos_none h)
theorem rh{K:PySem.W.Frag}:∀{qs:List (List Int×Addr)},(∀ q∈qs,H q.2=some (.lst (q.1.map V.int)))->SB.IsL K H ((qs.map (·.1)).map fun x=>flD (x.map V.int)) (rfs qs)
 | [],_=>by unfold SB.IsL;rfl
 | q::qs,h=>by
  unfold SB.IsL rfs;exact⟨_,_,rfl,bV (.inl (h q (Fd ..))) (dA _),rh fun q hq=>h q (Ff _ hq)⟩
theorem any_rows{xs:List (List Int)}{x:List Int}(h:x∈xs):((xs.map fun y=>flD (y.map V.int)).any fun e=>eqD e (flD (x.map V.int)))=true:=
 List.any_eq_true.mpr ⟨_,E5.mpr ⟨x,h,rfl⟩,dj rfl⟩
theorem DT(l:List Int):(aB l).length<=l.length:=by
 unfold aB
 have:=fw kLt (l.map Sum.inl)
 rw[E3]at this ⊢;exact this
theorem turned(cs:List Int)(k:Nat):∃ c1 c2:List Int,cN (cs.map V.int) (some (k:Int)) none=c1.map V.int/\cN (cs.map V.int) none (some (k:Int))=c2.map V.int/\c1.length+c2.length=cs.length:=by
 rw[fS,fS];refine⟨_,_,rfl,rfl,?_⟩;rw[HT.ft,HT.ft,HT.mX,HT.mX,F3,GJ,F3,GJ,Nat.min_self,Nat.sub_zero,Nat.sub_zero,Nat.min_eq_left (Nat.min_le_right k _),Nat.sub_add_cancel (Nat.min_le_right k _)]
section
variable {P:Program}{w:World}{K:PySem.W.Frag}{mg:Str->Option Value}{base:Heap}
noncomputable def og (T1 T2 T:Addr):Sp:=fun vs H Q _=>∃(a:Addr)(ns:List Int),vs=[.ref a]/\RdL H a (ns.map V.int)/\ns.length<=63/\TabAt (cm aK) lwQ T1 H/\TabAt (fc bu) lvQ T2 H/\TabAt (cz aU) bX T H/\∀ H',Q (.bl true) H'
noncomputable abbrev cf:List Str:=["_law_script","_law_machine_here","_law_size","_law_starts","_law_moves","_law_shown","_law_faults","_law_asked","_law_rooms","_law_sort","_law_found","_law_cells","_law_k","_law_run","_law_here","_law_last"]
theorem xK:aJ cf ["_law_script"] (ah fi):=⟨rfl,rfl,rfl,by decide +kernel,rfl,by decide +kernel,by decide +kernel⟩
theorem y1{T1:Addr}(F:Fun K "law" "law" fi f fd) (n1:T≠T1) (n2:T≠T2) (TL:di K mg) (D1:Known P w K mg base 1 "_law_cell" ["_law_script","_law_k"] lj) (DM:Known P w K mg base 2 "_law_machine" ["_law_script","_law_most"] oG) (DC:kM P w K mg base 4 "Machine" C jj (oP C)) (DS:Known P w K mg base 7 "secret" ["machine","rooms"] (nZ C T1 T2)) (DG:Known P w K mg base 8 "_law_given" ["_law_machine_here","_law_asked","_law_rooms","_law_sights"] (oA C T)) (DP:Known P w K mg base 7 "possible" ["machine","sights"] (ju C T)) (DA:Known P w K mg base 1 "_law_all" nLA lB) (DZ:Known P w K mg base 1 "_law_signs" gE jD) (DW:Known P w K mg base 1 "_law_walk" ["_law_machine_here","_law_cells"] oY):ao P w K mg base CX0 9 f fd ["_law_script"] (og T1 T2 T):=by
 refine F.ok xK (fun vs H Q E h=>?_) (fun cdv A outer s H vs Q E hr h=>?_)
 ·obtain⟨a,ns,rfl,_⟩:=h;rfl
 ·obtain⟨a,ns,rfl,ha,h63,tab1,tab2,tab,k⟩:=h;have hu:=hr.units;have hr1:aE 1 _:=hr.mono (by decide)
  have hr2:aE 2 _:=hr.mono (by decide)
  have hr5:aE 5 _:=hr.mono (by decide)
  have hr7:aE 7 _:=hr.mono (by decide)
  refine⟨_,af (av cf 1 (aw DM hr2 (aa (q_v 0) (aa ae ab))))
   (af (uE (q_v 1) (Dc rfl (bJ (q_g cf 2) (bJ (q_g cf 3) (bJ (q_g cf 4) (bJ (q_g cf 5) (bJ (q_g cf 6) eU)))))))
   (af (av cf 7 (CT DC hr5 (aa (q_v 2) (aa (q_v 3) (aa (q_v 4) (aa (q_v 5) (aa (q_v 6) ab)))))))
   (af (jK cf 8 (ah fi) ["_law_room","_law_script"] [none,some 0] rfl (fj (q_v 2) TL.range) (fun _ _ _ _=>q_g ["_law_room","_law_script"] 0) (fun _ _ _ _=>aG cP (ak bM (ak cG (aw D1 hr1 (aa (q_v 1) (aa ae ab))) (ak i7 ae (q_v 0))) ae) ae) (fun _ _ _ _=>q_v 0))
   (af (uE (aw DS hr7 (aa (q_v 7) (aa (q_v 8) ab))) (fq (n:=2) rfl (bJ (q_g cf 9) (bJ (q_g cf 10) eU))))
   (af (bf (aG cP (q_v 9) gR) (ag (aD (aw DG hr (aa (q_v 1) (aa (q_v 7) (aa (q_v 8) (aa (q_v 10) ab))))))) bj)
   (af (bf (aG kO (q_v 9) gR) (ag (aD cZ)) bj)
   (af (bf (aG (gA hu) (q_v 3) (bw ab)) (ag (aD (o7 (dD (gA hu) (q_v 10) (bw ab)) (kg (dD (gA hu) (aw DP hr7 (aa (q_v 7) (aa (bw ab) ab))) (bw ab)))))) bj)
   (af (av cf 11 (ak bU (fh fk (q_v 0) (df ae) (df ae)) (bw (aa ae (aa ae (aa ae (aa ae ab)))))))
   (af (bC PassesOwn.never rfl (fj ae TL.range) (q_g cf 12)
    (af (av cf 13 (aw DW hr1 (aa (q_v 1) (aa (ak bU (fh fk (q_v 11) (df (ak ff ae (q_v 12))) iI) (fh fk (q_v 11) iI (df (ak ff ae (q_v 12))))) ab))))
    (af (av cf 14 (aw DP hr7 (aa (q_v 7) (aa (aw DZ hr1 (aa (q_v 1) (aa (aq aI (q_v 13) ae (fun _ _=>rfl)) ab))) ab))))
    (af (av cf 15 (aq bD (ak bU (bw (aa (aq aI (q_v 13) ae (fun _ _=>rfl)) ab)) (eW cf (ah fi) ["_law_move"] [none] rfl (bg (aq aI (q_v 13) ae (fun _ _=>rfl))) (fun _ _ _ _=>q_g ["_law_move"] 0) (fun _ _ _ _=>aq aI (q_v 0) ae (fun _ _=>rfl)))) (k6 lx ae) (fun _ _=>rfl)))
    (ag (bf (pw_or (aG (sS hu) (q_v 14) (q_v 10)) (pw_or (aG mR (q_v 15) (q_v 14)) (pw_or1 (eD (aw DA hr1 (aa (q_v 14) (aa (q_v 8) ab))))))).pt (ag (aD cZ)) bj))))))
   (ag (aD cZ))))))))))),?_⟩
  have z1:∀{n:Nat},n<=10000->n<=sizeLine:=fun h=>by rw[Fz];lia
  have z0:∀{n:Nat},n<=10000->n<sizeLine:=fun h=>by rw[Fz];lia
  have nL:∀{ys:List V},∀ ps,HO.lst ys≠.tbl ps:=fun ps z=>nomatch z
  refine⟨a,18,ns,rfl,ha,h63,by decide,fun p H1 n s m g f st ps sg fl la ok hpl hst9 hfl5 hsg5 e1=>?_⟩
  obtain⟨n1',n8⟩:=ok.size;have go:Good n st ps:=⟨n8,hst9,hpl,ok.st,ok.mv⟩;refine⟨_,.inl la.q,rfl,?_⟩;intro x dx H2 hx hdx h2 e2;refine⟨x,dx,n,s,m,g,f,st,ps,sg,fl,rfl,h2,ok,⟨.inl (e2.up la.s),.inl (e2.up la.m),fun y hy=>e2.up (la.t y hy),e2.up la.g,.inl (e2.up la.f)⟩,by lia,by lia,fun H3 l1 l2 e l3 qs0 mi fresh hin frm=>⟨rfl,?_⟩⟩
  have x3:Ext H1 H3:=fun y u hy=>frm y u (aA hy hx) (e2.up hy)
  have x03:Ext H H3:=e1.trans x3;have la3:=la.ext x3;have mat3:aZ C H3 x (mOf n st ps sg fl):=⟨dx,l1,l2,e,l3,qs0,mi⟩;show bG 7 (.ref x) [some (.ref a),some (.ref p),some (.int n),some (.ref s),some (.ref m),some (.ref g),some (.ref f),none,none,none,none,none,none,none,none,none] H3 _
  refine⟨⟨by lia,by lia⟩,?_⟩
  refine eE (zs:=List.range n.toNat) (fun j=>if decide (V.int (ay ns 24 / (1*2^(0+(j:Int)).toNat)%2)=V.int 1)=true then some (.int (0+(j:Int))) else none) (jn 0 _) (z0 (by rw[F2];lia)) ?_ ?_
  ·intro i j H6 Kk hj ex kk;have hj8:j<n.toNat:=FT.mp (Fe hj);refine⟨bY rfl,a,ns,24,rfl,(ex.rd (x03.rd ha)),by decide,iV (by lia) (by lia),iS (by lia) (by lia),by show(0:Int)<2;decide,rfl,?_⟩
   have:=kk H6 Ext.refl
   refine aV (fun h=>?_) (fun h=>?_)
   ·have h':decide (V.int (ay ns 24 / (1*2^(0+(j:Int)).toNat)%2)=V.int 1)=true:=h;rw[if_pos h']at this;exact this
   ·have h':¬ decide (V.int (ay ns 24 / (1*2^(0+(j:Int)).toNat)%2)=V.int 1)=true:=h;rw[if_neg h']at this;exact this
  intro c H4 hs4 h4 e4;rw[k7 (α:=Nat) (c:=fun j=>decide (V.int (ay ns 24 / (1*2^(0+(j:Int)).toNat)%2)=V.int 1)) (g:=fun j=>0+(j:Int))]at h4
  obtain⟨rooms,ecs,hro,lro⟩:∃ cs:List Int,((List.range n.toNat).filter fun(j:Nat)=>decide (V.int (ay ns 24 / (1*2^(0+(j:Int)).toNat)%2)=V.int 1)).map (fun(j:Nat)=>0+(j:Int))=cs/\(∀ r∈cs,okI n r)/\cs.length<=8:=by
   refine⟨_,rfl,fun r hr=>?_,?_⟩
   ·obtain⟨j,hj,rfl⟩:=E5.mp hr
    have:=FT.mp (FH.mp hj).1
    exact⟨by lia,by lia⟩
   ·rw[E3]
    have:=List.length_filter_le (fun(j:Nat)=>decide (V.int (ay ns 24 / (1*2^(0+(j:Int)).toNat)%2)=V.int 1)) (List.range n.toNat)
    rw[F2]at this;lia
  rw[ecs]at h4;obtain⟨gm,gs,gst,gmv⟩:=uY go (sg:=sg) (fl:=fl);have x04:=x03.trans e4;have la4:=la3.ext e4;have mat4:=mat3.ext e4;show bG 8 (.ref c) [some (.ref a),some (.ref p),some (.int n),some (.ref s),some (.ref m),some (.ref g),some (.ref f),some (.ref x),none,none,none,none,none,none,none,none] H4 _
  refine⟨x,c,mOf n st ps sg fl,rooms,rfl,mat4,by lia,.inl h4,by lia,n8,hro,gst,gmv,tab1.ext x04,tab2.ext x04,fun t H5 B hrun hokB hndB hend=>?_⟩
  obtain⟨x5,_,_,_,hend⟩:=hend;have tb5:TabAt (cz aU) bX T H5:=TabAt.eJ (tab.ext x04) x5 n1 n2;have al5:All C T H5 p x c s m g f n st ps sg fl rooms:=⟨la4.uc x5.toT,fJ mat4 x5.toT,.inl (x5.toT.up h4 nL),tb5⟩;have tld:=hrun.told;have Bl:B.length<=1000:=by
   have:=oa hndB (ks:=subs (UI n)) fun x hx=>by
    obtain⟨e,he,rfl⟩:=E5.mp hx;exact qw (hokB e he).2
   rw[E3]at this;exact FL this (ni n8)
  rcases hend with⟨e,l,g1,g2,g3,g4⟩|⟨g1,l,qs,g2,g3,g4,g5,g6,g7⟩
  ·obtain⟨o1,o2,o3,o4⟩:=yO gst gmv tld hokB g1;refine⟨_,.inl g2,rfl,?_⟩;refine⟨rfl,ifY (c:=decide (V.str "given" = V.str "given")) (Fq rfl) ?_⟩
   exact⟨p,x,c,l,s,m,g,f,n,st,ps,sg,fl,rooms,e.2,rfl,al5,go,g4,by lia,o1,o2,o3,k⟩
  refine⟨_,.inl g2,rfl,?_⟩;refine⟨rfl,ifN (c:=decide (V.str "kept" = V.str "given")) (by decide +kernel) ?_⟩
  refine⟨rfl,ifN (c:=!decide (V.str "kept" = V.str "kept")) (by decide +kernel) ?_⟩
  show ek _ [some (.ref a),some (.ref p),some (.int n),some (.ref s),some (.ref m),some (.ref g),some (.ref f),some (.ref x),some (.ref c),some (.str "kept"),some (.ref l),none,none,none,none,none] H5
  refine⟨z1 (FG _),fun l6 H6 hl6 h6 e6=>?_⟩
  have al6:=al5.ext e6;have h6l:=e6.up g4;refine⟨flD (st.map V.int),flD [],bV (.inl al6.la.s) (dA _),bV (.inl h6) rfl,ez (fun x _ y hy=>nomatch hy),rfl,by rw[eL];decide,aV (fun hz=>?_) (fun hz=>?_)⟩
  ·have hst:st=[]:=by
    have hz:eqD (flD (st.map V.int)) (flD [])=true:=hz;rw[dB]at hz;cases st with
    | nil=>rfl
    | cons y ys=>cases hz
   have hM:(mOf n st ps sg fl).st=[]:=by
    show aB st=[]
    rw[hst];rfl
   have hBn:B=[]:=by
    have h0:cS (mOf n st ps sg fl) (mOf n st ps sg fl).size=[]:=Az hM gmv;rw[h0]at hrun;exact xa hrun
   have hq:qs=[]:=by
    rw[hBn]at g6;exact List.map_eq_nil_iff.mp (List.perm_nil.mp g6)
   subst hq;refine⟨z1 (FG _),fun l7 H7 hl7 h7 e7=>?_⟩
   have al7:=al6.ext e7;refine⟨flD [],flD [],bV (.inl (e7.up h6l)) rfl,bV (.inl h7) rfl,ez (fun x _ y hy=>nomatch hy),rfl,by rw[eL];decide,ifY (dj rfl) ?_⟩
   refine⟨z1 (FG _),fun l8 H8 hl8 h8 e8=>?_⟩
   have al8:=al7.ext e8;refine⟨x,l8,mOf n st ps sg fl,[],n,rfl,al8.ma,by lia,.inl h8,FG _,n8,by lia,gst,gmv,al8.tb,fun l9 H9 rs hl9 h9 hrs hrl x9 tb9=>?_⟩
   have hrs0:rs=[]:=by
    cases rs with
    | nil=>rfl
    | cons r rs=>exact absurd ((hrs r).mp (Fd ..)) (pos_none hM)
   subst hrs0;refine⟨z1 (FG _),fun l10 H10 hl10 h10 e10=>?_⟩
   refine⟨flD [],flD [],bV (.inl (e10.up h9)) rfl,bV (.inl h10) rfl,ez (fun x _ y hy=>nomatch hy),rfl,by rw[eL];decide,?_⟩
   show Q (.bl (eqD (flD []) (flD []))) H10
   rw[dj rfl];exact k _
  have hst1:1<=st.length:=by
   have hz:¬ eqD (flD (st.map V.int)) (flD [])=true:=hz;cases st with
   | nil=>exact absurd (dj rfl) hz
   | cons y ys=>rw[Fy];lia
  show ek _ [some (.ref a),some (.ref p),some (.int n),some (.ref s),some (.ref m),some (.ref g),some (.ref f),some (.ref x),some (.ref c),some (.str "kept"),some (.ref l),none,none,none,none,none] H6
  have ha6:RdL H6 a (ns.map V.int):=e6.rd (dE (x04.rd ha) x5.toT);obtain⟨c1,ec1,_,lc1⟩:=my V.int ns (some 25) (some 63);refine⟨_,ha6,fun l7 H7 hl7 h7 e7=>?_⟩
  rw[ec1]at h7;refine⟨z1 (by show 4<=10000;decide),fun l8 H8 hl8 h8 e8=>?_⟩
  refine⟨_,e8.up h7,_,h8,z1 (by rw[E3];show _+4<=10000;lia),fun lc H9 hlc h9 e9=>?_⟩
  obtain⟨cs,h9,lcs⟩:∃ cs:List Int,H9 lc=some (.lst (cs.map V.int))/\(4<=cs.length/\cs.length<=100):=by
   refine⟨c1++[1,2,3,4],by rw[h9,Fc];rfl,?_,?_⟩ <;> rw[Fh,show([1,2,3,4]:List Int).length=4 from rfl] <;> lia
  have x69:Ext H6 H9:=e7.trans (e8.trans e9);have al9:=al6.ext x69;have x59:Ext H5 H9:=e6.trans x69;have h9l:=x59.up g4;show bG 11 (.ref lc) [some (.ref a),some (.ref p),some (.int n),some (.ref s),some (.ref m),some (.ref g),some (.ref f),some (.ref x),some (.ref c),some (.str "kept"),some (.ref l),none,none,none,none,none] H9 _
  refine⟨⟨by decide,by decide⟩,jr (fun i σ J=>∃ v12 v13 v14 v15:Option V,σ=[some (.ref a),some (.ref p),some (.int n),some (.ref s),some (.ref m),some (.ref g),some (.ref f),some (.ref x),some (.ref c),some (.str "kept"),some (.ref l),some (.ref lc),v12,v13,v14,v15]/\ai T H9 J/\TabAt (cz aU) bX T J)
   ⟨_,_,_,_,rfl,Ext.toP Ext.refl,al9.tb⟩ ?_ ?_⟩
  rotate_left
  ·rintro σ J ⟨_,_,_,_,rfl,_,_⟩;exact k J
  rintro i σ J hi ⟨v12,v13,v14,v15,rfl,xj,tbj⟩;have alj:=al9.up xj tbj;have hi:i<5:=hi;obtain⟨d1,d2,ed1,ed2,ld⟩:=turned cs (7*i);have e7i:(7:Int)*(0+(i:Int))=((7*i:Nat):Int):=by lia
  rw[<-e7i]at ed1 ed2;show bG 12 (.int (0+(i:Int))) [some (.ref a),some (.ref p),some (.int n),some (.ref s),some (.ref m),some (.ref g),some (.ref f),some (.ref x),some (.ref c),some (.str "kept"),some (.ref l),some (.ref lc),v12,v13,v14,v15] J _
  refine⟨.inl ⟨by decide,by decide⟩,_,.inl (xj.up h9 nL),fun t1 J1 ht1 j1 f1=>?_⟩
  rw[ed1]at j1;refine⟨.inl ⟨by decide,by decide⟩,_,.inl (f1.up (xj.up h9 nL)),fun t2 J2 ht2 j2 f2=>?_⟩
  rw[ed2]at j2;refine⟨_,f2.up j1,_,j2,z1 (by rw[E3,E3];lia),fun t3 J3 ht3 j3 f3=>?_⟩
  rw[<-Fc]at j3;have xj3:Ext J J3:=f1.trans (f2.trans f3);have alj3:=alj.ext xj3;refine⟨p,t3,s,m,g,f,n,st,ps,sg,fl,d1++d2,rfl,alj3.la,.inl j3,by rw[Fh];lia,hst1,by lia,fun r lr z qz J4 hr4 hl4 ra hzst hgo hql x4=>?_⟩
  have alj4:=alj3.ext x4;show bG 13 (.ref r) [some (.ref a),some (.ref p),some (.int n),some (.ref s),some (.ref m),some (.ref g),some (.ref f),some (.ref x),some (.ref c),some (.str "kept"),some (.ref l),some (.ref lc),some (.int (0+(i:Int))),v13,v14,v15] J4 _
  have hzl:(cq sg (qz.map (·.1))).length<=30:=by
   unfold cq
   have:=List.length_filterMap_le (fun m:Mv=>aT sg m.2.1) (qz.map (·.1))
   rw[E3]at this;lia
  refine⟨_,.inl ra.tp,_,rfl,p,lr,s,m,g,f,n,st,ps,sg,fl,qz,rfl,alj4.la,.inl ra.ls,ra.mv,by lia,fun a5 J5 ha5 j5 f5=>?_⟩
  have alj5:=alj4.ext f5;have ra5:=ra.ext f5;refine⟨x,a5,mOf n st ps sg fl,cq sg (qz.map (·.1)),n,rfl,alj5.ma,by lia,.inl j5,by lia,n8,by lia,gst,gmv,alj5.tb,fun l6' J6 rs hl6' j6 hrs hrl x6 tb6=>?_⟩
  have alj6:=alj5.up x6 tb6;have ra6:eP J6 r z lr qz:=⟨x6.up ra5.tp (fun _ z=>nomatch z),x6.up ra5.ls nL,fun q hq=>x6.up (ra5.mv q hq) (fun _ z=>nomatch z)⟩
  show bG 14 (.ref l6') [some (.ref a),some (.ref p),some (.int n),some (.ref s),some (.ref m),some (.ref g),some (.ref f),some (.ref x),some (.ref c),some (.str "kept"),some (.ref l),some (.ref lc),some (.int (0+(i:Int))),some (.ref r),v14,v15] J6 _
  have hgo':bO (mOf n st ps sg fl).mv z (qz.map (·.1))=true:=by
   rw[<-hgo];exact nq (fun y=>oy) _ _
  have hpos:Pos (mOf n st ps sg fl) (cq sg (qz.map (·.1))) (c7 z (qz.map (·.1))):=by
   have:=om (M:=mOf n st ps sg fl) (.start (eI.mpr hzst)) hgo'
   rw[List.nil_append]at this;exact this
  obtain⟨eb,heb,hebq⟩:=yz gst gmv tld hpos;have hsrt:aB rs=eb.1:=Dj (n:=n) (hokB eb heb).2 hrs hebq;have hlast:c7 z (qz.map (·.1))∈aB rs:=eI.mpr ((hrs _).mpr hpos);have hnall:((aB rs).all fun r=>decide (r∈rooms))=false:=by
   have:=List.find?_eq_none.mp g1 eb heb
   rw[hsrt];exact Bool.eq_false_iff.mpr this
  have hsl:(aB rs).length<=1000:=by have:=DT rs;lia
  refine⟨_,.inl ra6.tp,_,rfl,z1 (by show 1<=10000;decide),fun a9 J9 ha9 j9 f9=>?_⟩
  have ra9:=ra6.ext f9;refine⟨_,.inl ra9.tp,_,rfl,_,.inl ra9.ls,gx (zs:=qz) (enc:=fun p:Mv×Addr=>V.ref p.2) (fun p=>.int p.1.2.2) (dM (.inl ra9.ls)) (z0 (by lia)) (fun j p' J10 Kk hp x10 kk=>?_) fun a10 J10 ha10 j10 f10=>?_⟩
  ·exact⟨bY rfl,_,.inl (x10.up (ra9.mv p' (Fe hp))),_,rfl,kk J10 Ext.refl⟩
  refine⟨_,f10.up j9,_,j10,z1 (by rw[E3];show 1+_<=10000;lia),fun a11 J11 ha11 j11 f11=>?_⟩
  refine⟨1,rfl,_,.inl j11,_,ve z qz,?_⟩;have y11:Ext J6 J11:=f9.trans (f10.trans f11);have alj11:=alj6.ext y11;have xJ:ai T H9 J11:=xj.trans ((Ext.toP (xj3.trans (x4.trans f5))).trans (x6.trans (Ext.toP y11)));show bG 15 (.int (c7 z (qz.map (·.1)))) [some (.ref a),some (.ref p),some (.int n),some (.ref s),some (.ref m),some (.ref g),some (.ref f),some (.ref x),some (.ref c),some (.str "kept"),some (.ref l),some (.ref lc),some (.int (0+(i:Int))),some (.ref r),some (.ref l6'),v15] J11 _
  have j11l:J11 l6'=some (.lst ((aB rs).map V.int)):=y11.up j6;refine⟨flD ((aB rs).map V.int),l,rfs qs,(qs.map (·.1)).map fun x=>flD (x.map V.int),rfl,RdL.sq (.inl (xJ.up h9l nL)),rh fun q hq=>xJ.up (x59.up (g5 q hq).1) nL,bV (.inl j11l) (dA _),fun d hd=>?_,ifN ?_ ?_⟩
  ·obtain⟨y,_,rfl⟩:=E5.mp hd;exact⟨ez (z8 _ _),by rw[eL];decide⟩
  ·show(!List.any _ _)=false
   rw[any_rows (x:=aB rs) (by rw[hsrt];exact g6.mem_iff.mpr (FK heb))]
   rfl
  refine⟨_,.inl j11l,⟨rfl,dA _⟩,ifN (by rw[gH,Fq hlast];rfl) ?_⟩
  refine⟨l6',c,aB rs,rooms,rfl,.inl j11l,alj11.rm,hsl,fun J12 f12=>?_⟩
  rw[hnall];refine ifN rfl ?_;exact⟨_,_,_,_,rfl,xJ.trans (Ext.toP f12),(tb6.ext y11).ext f12⟩
end
end K
end
section
namespace SB
open PySem
theorem us1{Q:List Value->Prop}(h:∀ a,Q [a]):∀ us:List Value,us.length=1->Q us:=fun us hl=>by
 rcases us with _|⟨a,us⟩
 ·cases hl
 ·rw[Gn.mp (Nat.succ.inj hl)];exact h a
theorem us2{Q:List Value->Prop}(h:∀ a b,Q [a,b]):∀ us:List Value,us.length=2->Q us:=fun us hl=>by
 rcases us with _|⟨a,us⟩
 ·cases hl
 ·exact us1 (Q:=fun l=>Q (a::l)) (h a) us (Nat.succ.inj hl)
theorem us3{Q:List Value->Prop}(h:∀ a b c,Q [a,b,c]):∀ us:List Value,us.length=3->Q us:=fun us hl=>by
 rcases us with _|⟨a,us⟩
 ·cases hl
 ·exact us2 (Q:=fun l=>Q (a::l)) (h a) us (Nat.succ.inj hl)
theorem us4{Q:List Value->Prop}(h:∀ a b c d,Q [a,b,c,d]):∀ us:List Value,us.length=4->Q us:=fun us hl=>by
 rcases us with _|⟨a,us⟩
 ·cases hl
 ·exact us3 (Q:=fun l=>Q (a::l)) (h a) us (Nat.succ.inj hl)
theorem us5{Q:List Value->Prop}(h:∀ a b c d e,Q [a,b,c,d,e]):∀ us:List Value,us.length=5->Q us:=fun us hl=>by
 rcases us with _|⟨a,us⟩
 ·cases hl
 ·exact us4 (Q:=fun l=>Q (a::l)) (h a) us (Nat.succ.inj hl)
theorem us6{Q:List Value->Prop}(h:∀ a b c d e f,Q [a,b,c,d,e,f]):∀ us:List Value,us.length=6->Q us:=fun us hl=>by
 rcases us with _|⟨a,us⟩
 ·cases hl
 ·exact us5 (Q:=fun l=>Q (a::l)) (h a) us (Nat.succ.inj hl)
end SB
end
section
namespace SB
open PySem PySem.Spec PyProof.Rows L2
open PySem.W (CodeHd tabObj)
theorem EO{K:PySem.W.Frag}{mb:Str->Option Value}{k:Nat}{fa:Addr}{Ts:List (Addr×Addr)}{sp:Sp}{s₁:Shared}{ns:List Int}(KX:K.In s₁.heap)(hns:s₁.heap.Ns mainGlobals mg)(hb:s₁.heap.Ns builtinsNs mb)(hbb:∀ x:Str,x≠"__name__"->mb x=bootBuiltins x) (hlim:s₁.heap.NoLimit) (hg:s₁.gens=#[]) (ha:s₁.heap.get? a=some { cls:=.type "list",data:=.seq vs.toArray }) (hi:IntsAre vs ns) (hl:ns.length<=sizeLine) (hr:aE k callerA) (nl:noL K=true) (nt:PySem.W.noTabs K=true) (L:∀ p∈Ts,cC mg s₁.heap p.1 p.2) (hT:∀ p∈Ts,s₁.heap.get? p.2=some (tabObj #[])) (F:∀ base:Heap,K.In base->base.Ns mainGlobals mg->(∀ p∈Ts,cC mg base p.1 p.2)->ao P w K mg base CX0 k fa fd [x] sp) (hbind:∀(s:Shared) (u:Value),BindsTo s fd ⟨[u],[]⟩ [(x,u)]) (hsp:∀ H:Hp,RdL H a (ns.map V.int)->(∀ p∈Ts,H p.2=some (.tbl #[]))->sp [.ref a] H (fun v _=>v=.bl true) fun _ _ _=>False) :
  codeAny (model P w) callerA (.call (.ref fa) ⟨[.ref a],[]⟩) (fun r s'=>r=.ok (.ret (.bool true))/\OldK s₁.heap s'.heap/\s'.os=s₁.os/\AllBare s'.gens) s₁:=by
 have rv:=sC hi;have haT:∀ p∈Ts,a≠p.2:=fun p hp z=>by have:=hT p hp;rw[<-z,ha]at this;cases this
 have hKa:K.lookup a=none:=by
  cases hk:K.lookup a with
  | none=>rfl
  | some o=>
   have e:=KX a o hk;rw[ha]at e;cases e
   have h2:=GA.mp nl _ (PySem.W.mem_of_lookupK hk);exact absurd (show false=true from h2) FC
 have hKT:∀ p∈Ts,K.lookup p.2=none:=fun p hp=>by
  cases hk:K.lookup p.2 with
  | none=>rfl
  | some o=>
   have e:=KX p.2 o hk;rw[hT p hp]at e;cases e
   have h2:=GA.mp nt _ (PySem.W.mem_of_lookupK hk);exact absurd (show false=true from h2) FC
 obtain⟨H,hH⟩:∃ H:Hp,H=fun b=>if b∈Ts.map (·.2) then some (.tbl #[]) else if b=a then some (.frz { cls:=.type "list",data:=.seq vs.toArray } (.lst (ns.map V.int))) else none:=⟨_,rfl⟩
 have HT:∀ p∈Ts,H p.2=some (.tbl #[]):=fun p hp=>by rw[hH];exact if_pos (FK hp)
 have anT:a∉Ts.map (·.2):=fun z=>by
  obtain⟨p,hp,e⟩:=E5.mp z;exact haT p hp e.symm
 have Ha:H a=some (.frz { cls:=.type "list",data:=.seq vs.toArray } (.lst (ns.map V.int))):=by
  rw[hH]
  show(if a∈Ts.map (·.2) then _ else _)=_
  rw[if_neg anT,if_pos rfl]
 have Hn:∀ b,(∀ p∈Ts,b≠p.2)->b≠a->H b=none:=fun b h1 h2=>by
  rw[hH]
  show(if b∈Ts.map (·.2) then _ else _)=_
  rw[if_neg (fun z=>by obtain⟨p,hp,e⟩:=E5.mp z;exact h1 p hp e.symm),if_neg h2]
 have inv:∀ b u,H b=some u->(∃ p∈Ts,b=p.2)\/b=a:=fun b u e=>by
  by_cases h1:b∈Ts.map (·.2)
  ·obtain⟨p,hp,e⟩:=E5.mp h1;exact .inl ⟨p,hp,e.symm⟩
  ·by_cases h2:b=a
   ·exact .inr h2
   ·rw[Hn b (fun p hp z=>h1 (z▸FK hp)) h2]at e;cases e
 have free:∀{b:Addr} {o:Obj},s₁.heap.get? b=some o->o.cls≠.type "list"->o.cls≠.none->H b=none:=fun {b o} e h1 h2=>by
  refine Hn b (fun p hp z=>?_) fun z=>?_
  ·rw[z,hT p hp]at e;cases e;exact h2 rfl
  ·rw[z,ha]at e;cases e;exact h1 rfl
 have base_of:∀{b:Addr} {o:Obj},s₁.heap.get? b=some o->H b=none->(dG s₁.heap H).get? b=some o:=fun e n=>qg e n
 have nsK:∀{b:Addr} {m:Str->Option Value},s₁.heap.Ns b m->(dG s₁.heap H).Ns b m:=fun {b m} ⟨o,es,ep,e,d,r⟩=>⟨o,es,ep,base_of e (Hn b (fun p hp z=>by rw[z,hT p hp]at e;cases e;cases d) fun z=>by rw[z,ha]at e;cases e;cases d),d,r⟩
 have hKb:K.In (dG s₁.heap H):=fun b o e=>base_of (KX b o e) (Hn b (fun p hp z=>by rw[z,hKT p hp]at e;cases e) fun z=>by rw[z,hKa]at e;cases e)
 have hM:Mod K mg (dG s₁.heap H):=⟨hKb,nsK hns,⟨mb,nsK hb,hbb⟩,let ⟨mc,h1,h2⟩:=hlim;⟨mc,nsK h1,h2⟩⟩
 have hL:∀ p∈Ts,cC mg (dG s₁.heap H) p.1 p.2:=fun p hp=>by
  obtain⟨⟨o,vs,file,tf,flags,tg,inF,text,tt,e1,r1,r2⟩,bm,ob,b1,b2,b3,b4,b5,b6⟩:=L p hp;refine⟨⟨o,vs,file,tf,flags,tg,inF,text,tt,base_of e1 (free e1 ?_ ?_),r1,r2⟩,bm,ob,b1,b2,b3,base_of b4 (free b4 ?_ ?_),b5,b6⟩
  ·rw[r1];decide
  ·rw[r1];exact fun z=>nomatch z
  ·rw[b5];decide
  ·rw[b5];exact fun z=>nomatch z
 have hok:HOk P w H s₁.heap:=fun b u e=>by
  rcases inv b u e with⟨p,hp,rfl⟩|rfl
  ·rw[HT p hp]at e;cases e;exact hT p hp
  ·rw[Ha]at e;cases e
   exact⟨ha,by rw[E3];exact hl,vs,_,rv,ha⟩
 have e0:dW P w K mg (dG s₁.heap H) callerA [] s₁ H:=⟨rfl,hM,fun b o e=>uy e,Nat.le_of_eq (uK _ _),trivial,fun b hb=>absurd (show b∈([]:List Addr) from hb) (by simp),hok,.of_eq hg⟩
 refine codeAny_mono ((F _ hKb (nsK hns) hL).run callerA [] s₁ H ⟨[.ref a],[]⟩ [.ref a] [.ref a] _ _ hr e0 (hbind s₁ (.ref a)) (.cons rfl .nil) (hsp H (.inr ⟨_,Ha⟩) HT)) fun r s' h=>?_
 cases r with
 | error e=>exact False.elim h
 | ok fl=>
  cases fl with
  | next=>exact False.elim h
  | brk=>exact False.elim h
  | cont=>exact False.elim h
  | ret u=>
   obtain⟨v,H',os,bare,un,hok',r',q⟩:=h;have q':v=.bl true:=q;subst q';obtain rfl:u=Value.bool true:=r';refine⟨rfl,⟨fun b o e=>?_,fun b o e=>un.there b o e (by simp)⟩,os,bare⟩
   cases q:H b with
   | none=>exact .inl (un.keep b o e q (by intro z;exact absurd (show b∈([]:List Addr) from z) (by simp)) (by simp))
   | some u=>
    rcases inv b u q with⟨p,hp,rfl⟩|rfl
    ·obtain⟨more,hm⟩:=un.tbls p.2 _ (HT p hp);have e2:s'.heap.get? p.2=some { cls:=.none,data:=.fields (#[]++more) }:=hok' p.2 _ hm;rw[hT p hp]at e;cases e
     exact .inr (.inl ⟨((L p hp).hd.tab (hT p hp)).isCodeTable,rfl,#[],more,rfl,e2⟩)
    ·have z2:=un.frzs b _ _ Ha;obtain⟨e2,_⟩:=hok' b _ z2;rw[ha]at e;cases e
     exact .inl e2
theorem E2{l:PySem.W.OpenLaw}{n k:Nat}{q:Program}{loose:List Str}{XP:(Str->Option Value)->Heap->Prop}{YP:World->Heap->Prop}{d:DefRec}{K:Params->PySem.W.Frag}{sp:Sp}{ys:List (Str×Addr×Addr)}(hn:l.most=some n)(hn2:n<=sizeLine)(hdf:d.params.defaults=[])(hr:aE k callerA)(hY:∀(w:World)(h:Heap),YP w h->(K w.params).In h)(nl:∀ w:World,noL (K w.params)=true)(nt:∀ w:World,PySem.W.noTabs (K w.params)=true)(hrec:∀ y∈ys,∃ dT,(recsOf q).find? (fun e=>e.name==y.1)=some dT)(htab:∀ w:World,∀ y∈ys,PySem.W.tabIn (K w.params) y.1=some y.2)(F:∀(w:World)(mg:Str->Option Value)(fa:Addr)(h:Heap),(K w.params).In h->h.Ns mainGlobals mg->mg d.name=some (.ref fa) →
   ∃ fd:FuncData,(∀(s:Shared) (u:Value),BindsTo s fd ⟨[u],[]⟩ [(x,u)]) ∧
    ∀ base:Heap,(K w.params).In base->base.Ns mainGlobals mg->(∀ p∈ys.map (·.2),cC mg base p.1 p.2)->ao l.prog w (K w.params) mg base CX0 k fa fd [x] sp) (hsp:∀(H:Hp) (a:Addr) (ns:List Int),ns.length<=n->RdL H a (ns.map V.int)->(∀ p∈ys.map (·.2),H p.2=some (.tbl #[]))->sp [.ref a] H (fun v _=>v=.bl true) fun _ _ _=>False) :
  PySem.W.WalkO q loose XP YP l.row.toRowW d [] (fun f vs=>PySem.call f vs):=by
 refine Att.w9 hn hdf fun w s₀ s₁ mg mb fa o pm cd doc a vs ns G Y ho hd hcd hmg hobj hints hlen hg=>?_
 have KX:=hY w _ Y;obtain⟨fd,hb,hF⟩:=F w mg fa _ KX G.T.g hmg;obtain⟨bm,ob,b1,b2,b3,b4,b5,b6⟩:=G.T.bmain;have two:∀ p∈ys.map (·.2),CodeHd s₁.heap p.1 p.2/\s₁.heap.get? p.2=some (tabObj #[]):=fun p hp=>by
  obtain⟨y,hy,rfl⟩:=E5.mp hp;obtain⟨dT,hd'⟩:=hrec y hy;exact PySem.W.tab_of G.T KX hd' (htab w y hy)
 refine EO KX G.T.g G.T.b G.T.builtins G.T.nolimit hg hobj hints (FL hlen hn2) hr (nl w) (nt w) (fun p hp=>⟨(two p hp).1,bm,ob,b1,b2,fun z=>?_,b3,b4,b5,b6⟩) (fun p hp=>(two p hp).2) hF hb fun H hO hS=>hsp H a ns hlen hO hS
 obtain⟨o',es,ep,e,hd',_⟩:=G.T.g;rw[<-z,b3]at e;cases e
 rw[b6]at hd';cases hd'
end SB
end
section
set_option maxHeartbeats 1000000
namespace K
open PySem PySem.Spec PyProof.Rows L2 SB
structure lZ (K:PySem.W.Frag)(mg:Str->Option Value)(C c1 T1 c2 T2 c3 T3:Addr):Prop where
 t0:Txt K mg
 tm:tV K mg
 tc:cO K mg C
 tl:di K mg
 tj:qd mg
 tn:mF mg
 za:mg "all" = none
 tab1:PySem.W.tabIn K "with_unseen" = some (c1,T1)
 tab2:PySem.W.tabIn K "secret" = some (c2,T2)
 tab3:PySem.W.tabIn K "search" = some (c3,T3)
 mgC:mg "Machine" = some (.ref C)
 mkC:PySem.W.makesIn K C=true
 kc:PySem.W.keepIn K (.ref C)=true
 d0:Has K mg "is_word" iD
 d1:Has K mg "need_at_most" k9
 d2:Has K mg "need_room" lG
 d3:Has K mg "need_word" jx
 d4:Has K mg "need_machine" kx
 d5:Has K mg "reach" hV
 d6:Has K mg "way_to" jl
 d7:Has K mg "with_unseen" aK
 d8:Has K mg "signs_from" sSF
 d9:Has K mg "first_sets" sFS
 d10:Has K mg "secret" bu
 d11:Has K mg "seen_after" kH
 d12:Has K mg "steps_from" jS
 d13:Has K mg "search" aU
 d14:Has K mg "ends_of" ix
 d15:Has K mg "run_back" kR
 d16:Has K mg "possible" iH
 d17:Has K mg "run_to" jO
 d18:Has K mg "_law_cell" kW
 d19:Has K mg "_law_words" ky
 d20:Has K mg "_law_machine" fL
 d21:Has K mg "_law_is_run" ke
 d22:Has K mg "_law_signs" ja
 d23:Has K mg "_law_walk" i5
 d24:Has K mg "_law_all" il
 d25:Has K mg "_law_given" iU
 m0:cD K C "__init__" "Machine.__init__" kL
 m1:cD K C "starts" "Machine.starts" kE
 m2:cD K C "moves" "Machine.moves" kT
 m3:cD K C "sign_of" "Machine.sign_of" jI
 m4:cD K C "is_fault" "Machine.is_fault" k5
section
variable {P:Program}{w:World}{K:PySem.W.Frag}{mg:Str->Option Value}{base:Heap}
theorem oi{st:Stmt}{k:Nat}{sp:Sp}(H:Has K mg x st)(ok:∀ f fd,Fun K x x st f fd->mg x=some (.ref f)->ao P w K mg base CX0 k f fd ps sp)(hb:∀(kV doc pm:Value)(an:Option Addr)(cdv ct:Value)(us:List Value),us.length=ps.length->bindArgs (PySem.W.fnOf x x (cR st) (cy st) (ah st) .none kV doc pm an cdv ct) ⟨us,[]⟩=pure (ps.zip us)):Known P w K mg base k x ps sp:=by
 obtain⟨f,fd,F,m⟩:=H;exact⟨f,fd,ok f fd F m,m,F.kp,F.binds hb⟩
theorem lO{st:Stmt}(kb:K.In base)(nb:base.Ns mainGlobals mg)(tab:PySem.W.tabIn K x=some (c,T))(M:mg x=some (.ref f))(F:Fun K x x st f fd):fd.code=.ref c:=by
 obtain⟨oc,od,kV,doc,pm,an,cdv,ct,osl,e,lk,hcd⟩:=F.ex;exact PySem.W.law_code kb nb tab M (kb _ _ lk) rfl
theorem vE{c1 T1 c2 c3 T3:Addr}(T:lZ K mg C c1 T1 c2 T2 c3 T3)(F:Fun K "law" "law" fi f fd) (nT:T1≠T2/\T3≠T1/\T3≠T2) (kb:K.In base) (nb:base.Ns mainGlobals mg) (LB1:cC mg base c1 T1) (LB2:cC mg base c2 T2) (LB3:cC mg base c3 T3):ao P w K mg base CX0 9 f fd ["_law_script"] (og T1 T2 T3):=by
 obtain⟨nT,nU,nV⟩:=nT;have f_is_word:Known P w K mg base 1 "is_word" ["text"] (mz):=T.d0.known (fun f fd F=>z6 F T.t0) (fun _ _ _ _ _ _=>us1 fun _=>rfl)
 have f_need_at_most:Known P w K mg base 1 "need_at_most" ["number","most"] (mN):=T.d1.known (fun f fd F=>wM F) (fun _ _ _ _ _ _=>us2 fun _ _=>rfl)
 have f_need_room:Known P w K mg base 1 "need_room" ["size","room"] (ki):=T.d2.known (fun f fd F=>An F) (fun _ _ _ _ _ _=>us2 fun _ _=>rfl)
 have f_need_word:Known P w K mg base 2 "need_word" ["text"] (mJ):=T.d3.known (fun f fd F=>xh F f_is_word) (fun _ _ _ _ _ _=>us1 fun _=>rfl)
 have f_need_machine:Known P w K mg base 3 "need_machine" ["size","starts","moves","signs","faults"] (oW):=T.d4.known (fun f fd F=>Df F T.tm f_need_at_most f_need_room f_need_word) (fun _ _ _ _ _ _=>us5 fun _ _ _ _ _=>rfl)
 have c_Machine:kM P w K mg base 4 "Machine" C jj (oP C):=T.m0.DJ T.mgC T.mkC T.kc (fun f fd F=>Cb F T.tc f_need_machine) (fun _ _ _ _ _ _=>us6 fun _ _ _ _ _ _=>rfl)
 have m_starts:∀ base':Heap,cu P w K mg base' 1 C "starts" ["self"] (jN C):=fun base'=>T.m1.known (fun f fd F=>Dn F T.tc) (fun _ _ _ _ _ _=>us1 fun _=>rfl)
 have m_moves:∀ base':Heap,cu P w K mg base' 1 C "moves" ["self"] (iQ C):=fun base'=>T.m2.known (fun f fd F=>Bf F T.tc) (fun _ _ _ _ _ _=>us1 fun _=>rfl)
 have m_sign_of:∀ base':Heap,cu P w K mg base' 1 C "sign_of" ["self","deed"] (ik C):=fun base'=>T.m3.known (fun f fd F=>Dl F T.tc) (fun _ _ _ _ _ _=>us2 fun _ _=>rfl)
 have m_is_fault:∀ base':Heap,cu P w K mg base' 1 C "is_fault" ["self","deed"] (lR C):=fun base'=>T.m4.known (fun f fd F=>xM F T.tc) (fun _ _ _ _ _ _=>us2 fun _ _=>rfl)
 have f_reachI:∀ base',K.In base'->base'.Ns mainGlobals mg->Known P w K mg base' 2 "reach" ["starts","steps_from"] (o9 P w K mg base' 1 "room"):=fun base' kb' nb'=>T.d5.known (fun f fd F=>BG F T.tc.list) (fun _ _ _ _ _ _=>us2 fun _ _=>rfl)
 have f_reachP:∀ base',K.In base'->base'.Ns mainGlobals mg->Known P w K mg base' 6 "reach" ["starts","steps_from"] (iX cH fg P w K mg base' 5 "found"):=fun base' kb' nb'=>T.d5.known (fun f fd F=>rX F T.tc.list) (fun _ _ _ _ _ _=>us2 fun _ _=>rfl)
 have f_with:∀ base',K.In base'->base'.Ns mainGlobals mg->(∀ b o,base.get? b=some o->base'.get? b=some o)->Known P w K mg base' 3 "with_unseen" ["machine","rooms"] (kA C T1):=fun base' kb' nb' kp=>oi T.d7 (fun f fd F M=>zw F (lO kb' nb' T.tab1 M F) (LB1.keeps kp) T.tc T.tj.tuple (m_moves base') (m_sign_of base') f_reachI kb' nb') (fun _ _ _ _ _ _=>us2 fun _ _=>rfl)
 have f_sf:∀ base',K.In base'->base'.Ns mainGlobals mg->(∀ b o,base.get? b=some o->base'.get? b=some o)->Known P w K mg base' 4 "signs_from" ["machine","rooms"] (jB C T1):=fun base' kb' nb' kp=>T.d8.known (fun f fd F=>xb F T.tc (m_moves base') (m_sign_of base') (f_with base' kb' nb' kp)) (fun _ _ _ _ _ _=>us2 fun _ _=>rfl)
 have f_first_sets:Known P w K mg base 4 "first_sets" ["machine"] (oE C T1):=T.d9.known (fun f fd F=>BE F T.tc (m_starts base) (f_with base kb nb fun _ _ h=>h)) (fun _ _ _ _ _ _=>us1 fun _=>rfl)
 have f_way_to:Known P w K mg base 1 "way_to" ["came_by","place"] (iF cH fg P w):=T.d6.known (fun f fd F=>rk F) (fun _ _ _ _ _ _=>us2 fun _ _=>rfl)
 have f_secret:Known P w K mg base 7 "secret" ["machine","rooms"] (nZ C T1 T2):=oi T.d10 (fun f fd F M=>yx F (lO kb nb T.tab2 M F) LB2 T.tc T.za nT f_need_room f_first_sets f_way_to f_reachP f_sf kb nb) (fun _ _ _ _ _ _=>us2 fun _ _=>rfl)
 have f__law_cell:Known P w K mg base 1 "_law_cell" ["_law_script","_law_k"] (lj):=T.d18.known (fun f fd F=>xr F T.tl) (fun _ _ _ _ _ _=>us2 fun _ _=>rfl)
 have f__law_words:Known P w K mg base 1 "_law_words" ["_law_cell_here","_law_many"] (oJ):=T.d19.known (fun f fd F=>vR F T.tl T.tn) (fun _ _ _ _ _ _=>us2 fun _ _=>rfl)
 have f__law_machine:Known P w K mg base 2 "_law_machine" ["_law_script","_law_most"] (oG):=T.d20.known (fun f fd F=>xQ F T.tl T.tn f__law_cell f__law_words) (fun _ _ _ _ _ _=>us2 fun _ _=>rfl)
 have f_reachS:∀ base',K.In base'->base'.Ns mainGlobals mg->Known P w K mg base' 5 "reach" ["starts","steps_from"] (iX dh mvL P w K mg base' 4 "state"):=fun base' kb' nb'=>T.d5.known (fun f fd F=>rX F T.tc.list) (fun _ _ _ _ _ _=>us2 fun _ _=>rfl)
 have f_seen:∀ base',Known P w K mg base' 2 "seen_after" ["machine","sights","seen","deed"] (mE C):=fun base'=>T.d11.known (fun f fd F=>zL F T.tc T.tl (m_sign_of base')) (fun _ _ _ _ _ _=>us4 fun _ _ _ _=>rfl)
 have f_steps:∀ base',K.In base'->base'.Ns mainGlobals mg->Known P w K mg base' 3 "steps_from" ["machine","sights","seen","room","faulty"] (lI C):=fun base' kb' nb'=>T.d12.known (fun f fd F=>z7 F T.tc (m_moves base') (m_is_fault base') (f_seen base')) (fun _ _ _ _ _ _=>us5 fun _ _ _ _ _=>rfl)
 have f_search:Known P w K mg base 6 "search" ["machine","sights"] (k8 P w C T3):=oi T.d13 (fun f fd F M=>y9 F (lO kb nb T.tab3 M F) LB3 T.tc (m_starts base) f_reachS f_steps kb nb) (fun _ _ _ _ _ _=>us2 fun _ _=>rfl)
 have f_ends_of:Known P w K mg base 1 "ends_of" ["came_by","sights"] (jF P w):=T.d14.known (fun f fd F=>yC F T.tl) (fun _ _ _ _ _ _=>us2 fun _ _=>rfl)
 have f_wayS:Known P w K mg base 1 "way_to" ["came_by","place"] (iF dh mvL P w):=T.d6.known (fun f fd F=>rk F) (fun _ _ _ _ _ _=>us2 fun _ _=>rfl)
 have f_run_back:Known P w K mg base 2 "run_back" ["came_by","state"] (mO P w):=T.d15.known (fun f fd F=>zQ F f_wayS) (fun _ _ _ _ _ _=>us2 fun _ _=>rfl)
 have f_possible:Known P w K mg base 7 "possible" ["machine","sights"] (ju C T3):=T.d16.known (fun f fd F=>ES F T.tc f_search f_ends_of) (fun _ _ _ _ _ _=>us2 fun _ _=>rfl)
 have f_run_to:Known P w K mg base 7 "run_to" ["machine","sights","room"] (nK C T3):=T.d17.known (fun f fd F=>DD F f_search f_ends_of f_run_back) (fun _ _ _ _ _ _=>us3 fun _ _ _=>rfl)
 have f__law_is_run:Known P w K mg base 1 "_law_is_run" ["_law_machine_here","_law_run"] (mG):=T.d21.known (fun f fd F=>yQ F T.tl T.tj) (fun _ _ _ _ _ _=>us2 fun _ _=>rfl)
 have f__law_signs:Known P w K mg base 1 "_law_signs" ["_law_machine_here","_law_moves"] (jD):=T.d22.known (fun f fd F=>yR F) (fun _ _ _ _ _ _=>us2 fun _ _=>rfl)
 have f__law_walk:Known P w K mg base 1 "_law_walk" ["_law_machine_here","_law_cells"] (oY):=T.d23.known (fun f fd F=>CN F T.tl) (fun _ _ _ _ _ _=>us2 fun _ _=>rfl)
 have f__law_all:Known P w K mg base 1 "_law_all" ["_law_here","_law_rooms"] (lB):=T.d24.known (fun f fd F=>EY F T.tl) (fun _ _ _ _ _ _=>us2 fun _ _=>rfl)
 have f__law_given:Known P w K mg base 8 "_law_given" ["_law_machine_here","_law_asked","_law_rooms","_law_sights"] (oA C T3):=T.d25.known (fun f fd F=>AK F T.tl f_possible f_run_to f__law_all f__law_is_run f__law_signs) (fun _ _ _ _ _ _=>us4 fun _ _ _ _=>rfl)
 exact y1 F nU nV T.tl f__law_cell f__law_machine c_Machine f_secret f__law_given f_possible f__law_all f__law_signs f__law_walk
end
theorem ip{K:PySem.W.Frag}(X:K.In h)(G:h.Ns mainGlobals mg)(a:PySem.W.nsIn K mainGlobals x=some (some u)):mg x=some u:=PySem.W.mg_of X G a
theorem dX{K:PySem.W.Frag}(X:K.In h)(G:h.Ns mainGlobals mg)(a:PySem.W.nsIn K mainGlobals x=some none):mg x=none:=PySem.W.mg_none_of X G a
theorem Cr{K:PySem.W.Frag}{c1 T1 c2 c3 T3:Addr}{t0 t1 t2 t3:Tok}(X:K.In h)(G:h.Ns mainGlobals mg)(zlen:PySem.W.nsIn K mainGlobals "len" = some none) (zall:PySem.W.nsIn K mainGlobals "all" = some none) (zrange:PySem.W.nsIn K mainGlobals "range" = some none) (zsorted:PySem.W.nsIn K mainGlobals "sorted" = some none) (zset:PySem.W.nsIn K mainGlobals "set" = some none) (zdict:PySem.W.nsIn K mainGlobals "dict" = some none) (zlist:PySem.W.nsIn K mainGlobals "list" = some none) (zisinstance:PySem.W.nsIn K mainGlobals "isinstance" = some none) (zint:PySem.W.nsIn K mainGlobals "int" = some none) (ztuple:PySem.W.nsIn K mainGlobals "tuple" = some none) (kLETTERS:PySem.W.nsIn K mainGlobals "LETTERS" = some (some (.str "abcdefghijklmnopqrstuvwxyz" t0))) (kMOST_LETTERS:PySem.W.nsIn K mainGlobals "MOST_LETTERS" = some (some (.int 8 t1))) (kMOST_ROOMS:PySem.W.nsIn K mainGlobals "MOST_ROOMS" = some (some (.int 8 t2))) (kMOST_MOVES:PySem.W.nsIn K mainGlobals "MOST_MOVES" = some (some (.int 24 t3))) (aC:PySem.W.nsIn K mainGlobals "Machine" = some (some (.ref C))) (pg:PySem.W.plainGet K C Str.empty=true) (hd:PySem.W.hasDictIn K C=true) (po:PySem.W.plainOver K C=true) (sa:PySem.W.findIn K (.ref C) "__setattr__" = some (some (.builtin "object.__setattr__"))) (mk:PySem.W.makesIn K C=true) (kc:PySem.W.keepIn K (.ref C)=true) (f1:PySem.W.findIn K (.ref C) "size" = some none) (f2:PySem.W.findIn K (.ref C) "start_rooms" = some none) (f3:PySem.W.findIn K (.ref C) "sorted_moves" = some none) (f4:PySem.W.findIn K (.ref C) "sign_by_deed" = some none) (f5:PySem.W.findIn K (.ref C) "fault_deeds" = some none) (tb1:PySem.W.tabIn K "with_unseen" = some (c1,T1)) (tb2:PySem.W.tabIn K "secret" = some (c2,T2)) (tb3:PySem.W.tabIn K "search" = some (c3,T3)) (d0:Has K mg "is_word" iD) (d1:Has K mg "need_at_most" k9) (d2:Has K mg "need_room" lG) (d3:Has K mg "need_word" jx) (d4:Has K mg "need_machine" kx) (d5:Has K mg "reach" hV) (d6:Has K mg "way_to" jl) (d7:Has K mg "with_unseen" aK) (d8:Has K mg "signs_from" sSF) (d9:Has K mg "first_sets" sFS) (d10:Has K mg "secret" bu) (d11:Has K mg "seen_after" kH) (d12:Has K mg "steps_from" jS) (d13:Has K mg "search" aU) (d14:Has K mg "ends_of" ix) (d15:Has K mg "run_back" kR) (d16:Has K mg "possible" iH) (d17:Has K mg "run_to" jO) (d18:Has K mg "_law_cell" kW) (d19:Has K mg "_law_words" ky) (d20:Has K mg "_law_machine" fL) (d21:Has K mg "_law_is_run" ke) (d22:Has K mg "_law_signs" ja) (d23:Has K mg "_law_walk" i5) (d24:Has K mg "_law_all" il) (d25:Has K mg "_law_given" iU) (m0:cD K C "__init__" "Machine.__init__" kL) (m1:cD K C "starts" "Machine.starts" kE) (m2:cD K C "moves" "Machine.moves" kT) (m3:cD K C "sign_of" "Machine.sign_of" jI) (m4:cD K C "is_fault" "Machine.is_fault" k5) (dL:Has K mg "law" fi):(∃ C,lZ K mg C c1 T1 c2 T2 c3 T3)/\Has K mg "law" fi:=by
 have zl:=dX X G zlen;have zr:=dX X G zrange;have zli:=dX X G zlist;have za:=dX X G zall;exact⟨⟨C,⟨zl,za,⟨_,ip X G kLETTERS⟩,⟨_,ip X G kMOST_LETTERS⟩⟩,⟨zl,⟨_,ip X G kMOST_ROOMS⟩,⟨_,ip X G kMOST_MOVES⟩⟩,⟨⟨pg,hd,po,sa⟩,f1,f2,f3,f4,f5,dX X G zsorted,dX X G zset,dX X G zdict,zli⟩,⟨zl,zr⟩,⟨dX X G zisinstance,zli,dX X G ztuple⟩,⟨dX X G zint⟩,za,tb1,tb2,tb3,ip X G aC,mk,kc,d0,d1,d2,d3,d4,d5,d6,d7,d8,d9,d10,d11,d12,d13,d14,d15,d16,d17,d18,d19,d20,d21,d22,d23,d24,d25,m0,m1,m2,m3,m4⟩,dL⟩
theorem walk{l:PySem.W.OpenLaw}{q:Program}{loose:List Str}{XP:(Str->Option Value)->Heap->Prop}{YP:World->Heap->Prop}{d:DefRec}{K:Params->PySem.W.Frag}{c1 T1 c2 c3 T3:Addr}(nT:T1≠T2/\T3≠T1/\T3≠T2)(hn:l.most=some 63)(hdf:d.params.defaults=[])(hname:d.name = "law") (hY:∀(w:World) (h:Heap),YP w h->(K w.params).In h) (nl:∀ w:World,noL (K w.params)=true) (nt:∀ w:World,PySem.W.noTabs (K w.params)=true) (hrec1:((recsOf q).find? (fun e:DefRec=>e.name==("with_unseen":Str))).isSome=true) (hrec2:((recsOf q).find? (fun e:DefRec=>e.name==("secret":Str))).isSome=true) (hrec3:((recsOf q).find? (fun e:DefRec=>e.name==("search":Str))).isSome=true) (htab1:∀ w:World,PySem.W.tabIn (K w.params) "with_unseen" = some (c1,T1)) (htab2:∀ w:World,PySem.W.tabIn (K w.params) "secret" = some (c2,T2)) (htab3:∀ w:World,PySem.W.tabIn (K w.params) "search" = some (c3,T3)) (F:∀(w:World) (mg:Str->Option Value) (h:Heap),(K w.params).In h->h.Ns mainGlobals mg->(∃ C,lZ (K w.params) mg C c1 T1 c2 T2 c3 T3)/\Has (K w.params) mg "law" fi) :
  PySem.W.WalkO q loose XP YP l.row.toRowW d [] (fun f vs=>PySem.call f vs):=by
 obtain⟨d1,hrec1⟩:=Option.isSome_iff_exists.mp hrec1;obtain⟨d2,hrec2⟩:=Option.isSome_iff_exists.mp hrec2;obtain⟨d3,hrec3⟩:=Option.isSome_iff_exists.mp hrec3;refine E2 (n:=63) (k:=9) (x:="_law_script") (sp:=og T1 T2 T3) (ys:=[("with_unseen",c1,T1),("secret",c2,T2),("search",c3,T3)]) hn (by decide) hdf ⟨rfl,by decide,by decide⟩ hY nl nt (fun y hy=>?_) (fun w y hy=>?_) (fun w mg fa h KX G hmg=>?_) fun H a ns hl hS hT=>⟨a,ns,rfl,hS,hl,.inl (hT (c1,T1) (Fd ..)),.inl (hT (c2,T2) (Ff _ (Fd ..))),.inl (hT (c3,T3) (Ff _ (Ff _ (Fd ..)))),fun _=>rfl⟩
 ·rcases Fn.mp hy with rfl|hy
  ·exact⟨d1,hrec1⟩
  ·rcases Fn.mp hy with rfl|hy
   ·exact⟨d2,hrec2⟩
   ·rw[Fb]at hy;subst hy;exact⟨d3,hrec3⟩
 ·rcases Fn.mp hy with rfl|hy
  ·exact htab1 w
  ·rcases Fn.mp hy with rfl|hy
   ·exact htab2 w
   ·rw[Fb]at hy;subst hy;exact htab3 w
 obtain⟨⟨C,T⟩,f,fd,FF,mf⟩:=F w mg h KX G;rw[hname,mf]at hmg;cases hmg
 refine⟨fd,fun s u=>?_,fun base kb nb LB=>vE T FF nT kb nb (LB (c1,T1) (Fd ..)) (LB (c2,T2) (Ff _ (Fd ..))) (LB (c3,T3) (Ff _ (Ff _ (Fd ..))))⟩
 obtain⟨oc,od,kV,doc,pm,an,cdv,ct,osl,rfl,lk,hcd⟩:=FF.ex;exact .of_eq rfl
end K
open PySem PySem.W PyProof.Rows SB
noncomputable def SB.view:Program:={ PySem.Challenge.pw_sightbook_k61_whole_secrets_walked with main:={ PySem.Challenge.pw_sightbook_k61_whole_secrets_walked.main with body:=[1,2,3,4,6,7,8,9,10,11,12,13,14,15,17,18,20,21,22,23,25,26,27,28,29,30,31,33,34,35,36,37,38,39,40,41,42].filterMap fun i=>PySem.Challenge.pw_sightbook_k61_whole_secrets_walked.main.body[i]? } }
local macro_rules
 | `(tactic| o_head $H)=>`(tactic| refine holds_open (q:=SB.view) (loose:=[]) (Xt:=fun s=>xlAt SB.view [] s&&recOk (RowW.records (OpenRow.toRowW (OpenLaw.row PySem.Challenge.rw_sightbook_k61_whole_secrets_walked))) s) (XP:=XL SB.view []) (Yf:=Hook.obs $H) (Ya:=Hook.val $H) (YP:=Hook.says $H) (N:=4642) ?hl (Hook.of $H) (Hook.keeps $H) (fun s e=>xl_of s (Bool.and_eq_true_iff.mp e).1) XL.keeps (by rfl) (by rfl) (by rfl) (fun s e=>recFacts_of (Bool.and_eq_true_iff.mp e).2) (by rfl) (by first|assumption|decide +kernel) (by decide +kernel) ⟨rfl,rfl,rfl,rfl,rfl,by decide +kernel⟩ ?hw ?hc)
set_option maxRecDepth 100000 in
set_option maxHeartbeats 0 in
theorem PySem.Challenge.cw_sightbook_k61_whole_secrets_walked_holds : PySem.Challenge.rw_sightbook_k61_whole_secrets_walked.Holds := by
 w_on;o_law;k_head;(case hl=>(intro w;unfold openEnds fencedOpening topFrom;rw[Fast.te14082659384304107361,Fast.te10274390034422433532,Fast.te14289696077712309145,Fast.te14364793385576792824,Fast.te1435165496053646825,Fast.te4187177175401517315];kernel_rfl));(case hw=>w_witness2)
 k_fill
 refine K.walk (l:=PySem.Challenge.rw_sightbook_k61_whole_secrets_walked) (c1:=198) (T1:=196) (c2:=215) (T2:=213) (c3:=234) (T3:=232) (by decide) rfl rfl rfl (fun w h Y=>PySem.W.km_in_of Y) ?hnol ?hnt ?hrec1 ?hrec2 ?hrec3 ?htab1 ?htab2 ?htab3 ?F
 case hnol=>
  intro w
  kernel_rfl
 case hnt=>
  intro w
  kernel_rfl
 case hrec1=>kernel_rfl
 case hrec2=>kernel_rfl
 case hrec3=>kernel_rfl
 case htab1=>
  intro w
  kernel_rfl
 case htab2=>
  intro w
  kernel_rfl
 case htab3=>
  intro w
  kernel_rfl
 case F=>
  intro w mg h KX G;refine' K.Cr KX G ?zlen ?zall ?zrange ?zsorted ?zset ?zdict ?zlist ?zisinstance ?zint ?ztuple ?kLETTERS ?kMOST_LETTERS ?kMOST_ROOMS ?kMOST_MOVES ?aC ?pg ?hd ?po ?sa ?mk ?kc ?f1 ?f2 ?f3 ?f4 ?f5 ?tb1 ?tb2 ?tb3 (bp KX G ?a0 ?l0 ?b0 ?q0) (bp KX G ?a1 ?l1 ?b1 ?q1) (bp KX G ?a2 ?l2 ?b2 ?q2) (bp KX G ?a3 ?l3 ?b3 ?q3) (bp KX G ?a4 ?l4 ?b4 ?q4) (bp KX G ?a5 ?l5 ?b5 ?q5) (bp KX G ?a6 ?l6 ?b6 ?q6) (bp KX G ?a7 ?l7 ?b7 ?q7) (bp KX G ?a8 ?l8 ?b8 ?q8) (bp KX G ?a9 ?l9 ?b9 ?q9) (bp KX G ?a10 ?l10 ?b10 ?q10) (bp KX G ?a11 ?l11 ?b11 ?q11) (bp KX G ?a12 ?l12 ?b12 ?q12) (bp KX G ?a13 ?l13 ?b13 ?q13) (bp KX G ?a14 ?l14 ?b14 ?q14) (bp KX G ?a15 ?l15 ?b15 ?q15) (bp KX G ?a16 ?l16 ?b16 ?q16) (bp KX G ?a17 ?l17 ?b17 ?q17) (bp KX G ?a18 ?l18 ?b18 ?q18) (bp KX G ?a19 ?l19 ?b19 ?q19) (bp KX G ?a20 ?l20 ?b20 ?q20) (bp KX G ?a21 ?l21 ?b21 ?q21) (bp KX G ?a22 ?l22 ?b22 ?q22) (bp KX G ?a23 ?l23 ?b23 ?q23) (bp KX G ?a24 ?l24 ?b24 ?q24) (bp KX G ?a25 ?l25 ?b25 ?q25) (iM ?ma0 ?mi0 ?ml0 ?mb0 ?mq0) (iM ?ma1 ?mi1 ?ml1 ?mb1 ?mq1) (iM ?ma2 ?mi2 ?ml2 ?mb2 ?mq2) (iM ?ma3 ?mi3 ?ml3 ?mb3 ?mq3) (iM ?ma4 ?mi4 ?ml4 ?mb4 ?mq4) (bp KX G ?aL ?lL ?bL ?qL)
  (case zlen=>k_is)
  (case zall=>k_is)
  (case zrange=>k_is)
  (case zsorted=>k_is)
  (case zset=>k_is)
  (case zdict=>k_is)
  (case zlist=>k_is)
  (case zisinstance=>k_is)
  (case zint=>k_is)
  (case ztuple=>k_is)
  (case kLETTERS=>k_is)
  (case kMOST_LETTERS=>k_is)
  (case kMOST_ROOMS=>k_is)
  (case kMOST_MOVES=>k_is)
  (case aC=>k_is)
  (case pg=>k_is)
  (case hd=>k_is)
  (case po=>k_is)
  (case sa=>k_is)
  (case mk=>k_is)
  (case kc=>k_is)
  (case f1=>k_is)
  (case f2=>k_is)
  (case f3=>k_is)
  (case f4=>k_is)
  (case f5=>k_is)
  (case tb1=>kernel_rfl)
  (case tb2=>kernel_rfl)
  (case tb3=>kernel_rfl)
  (case a0=>k_is);(case l0=>k_is);(case b0=>k_is);(case q0=>k_is)
  (case a1=>k_is);(case l1=>k_is);(case b1=>k_is);(case q1=>k_is)
  (case a2=>k_is);(case l2=>k_is);(case b2=>k_is);(case q2=>k_is)
  (case a3=>k_is);(case l3=>k_is);(case b3=>k_is);(case q3=>k_is)
  (case a4=>k_is);(case l4=>k_is);(case b4=>k_is);(case q4=>k_is)
  (case a5=>k_is);(case l5=>k_is);(case b5=>k_is);(case q5=>k_is)
  (case a6=>k_is);(case l6=>k_is);(case b6=>k_is);(case q6=>k_is)
  (case a7=>k_is);(case l7=>k_is);(case b7=>k_is);(case q7=>k_is)
  (case a8=>k_is);(case l8=>k_is);(case b8=>k_is);(case q8=>k_is)
  (case a9=>k_is);(case l9=>k_is);(case b9=>k_is);(case q9=>k_is)
  (case a10=>k_is);(case l10=>k_is);(case b10=>k_is);(case q10=>k_is)
  (case a11=>k_is);(case l11=>k_is);(case b11=>k_is);(case q11=>k_is)
  (case a12=>k_is);(case l12=>k_is);(case b12=>k_is);(case q12=>k_is)
  (case a13=>k_is);(case l13=>k_is);(case b13=>k_is);(case q13=>k_is)
  (case a14=>k_is);(case l14=>k_is);(case b14=>k_is);(case q14=>k_is)
  (case a15=>k_is);(case l15=>k_is);(case b15=>k_is);(case q15=>k_is)
  (case a16=>k_is);(case l16=>k_is);(case b16=>k_is);(case q16=>k_is)
  (case a17=>k_is);(case l17=>k_is);(case b17=>k_is);(case q17=>k_is)
  (case a18=>k_is);(case l18=>k_is);(case b18=>k_is);(case q18=>k_is)
  (case a19=>k_is);(case l19=>k_is);(case b19=>k_is);(case q19=>k_is)
  (case a20=>k_is);(case l20=>k_is);(case b20=>k_is);(case q20=>k_is)
  (case a21=>k_is);(case l21=>k_is);(case b21=>k_is);(case q21=>k_is)
  (case a22=>k_is);(case l22=>k_is);(case b22=>k_is);(case q22=>k_is)
  (case a23=>k_is);(case l23=>k_is);(case b23=>k_is);(case q23=>k_is)
  (case a24=>k_is);(case l24=>k_is);(case b24=>k_is);(case q24=>k_is)
  (case a25=>k_is);(case l25=>k_is);(case b25=>k_is);(case q25=>k_is)
  (case ma0=>k_is);(case mi0=>k_is);(case ml0=>k_is);(case mb0=>k_is);(case mq0=>k_is)
  (case ma1=>k_is);(case mi1=>k_is);(case ml1=>k_is);(case mb1=>k_is);(case mq1=>k_is)
  (case ma2=>k_is);(case mi2=>k_is);(case ml2=>k_is);(case mb2=>k_is);(case mq2=>k_is)
  (case ma3=>k_is);(case mi3=>k_is);(case ml3=>k_is);(case mb3=>k_is);(case mq3=>k_is)
  (case ma4=>k_is);(case mi4=>k_is);(case ml4=>k_is);(case mb4=>k_is);(case mq4=>k_is)
  (case aL=>k_is);(case lL=>k_is);(case bL=>k_is);(case qL=>k_is)
#print axioms PySem.Challenge.cw_sightbook_k61_whole_secrets_walked_holds
end
