import PyProof.Rows.All
import Wide.All
import OpenK.AllK
import Wide.FinOn
import KE.KSortTup
import PySem.SetOps
import PyProof.Rows.SetFrom
import PyProof.TupleKey
import PyProof.IsRules
import PyProof.Rows.SortRunsK
import Lean
import PyProof.EqAt
import PyProof.EqKinds
import PyProof.TupleCall
import PyProof.NeKinds
import KE.KEqDict
import PyProof.StrLawsIn
import PyProof.StrLaws
import Wide.Seal
import KE.KDictList
import KE.KDictSum
import KE.KDictLaws
import PyProof.DictValues
import PySem.Challenge.RW_sightbook_k31_secrets
set_option Elab.async false
set_option linter.all false
set_option maxRecDepth 100000
open PySem
variable {a f b C T p l T2 it lf c:Addr}{pins:List (Addr×Obj)}{Q E:Value->Shared->Prop}{s:Shared}{w:World}{fd:FuncData}{P prog:Program}{i n ep j lo mask t':Nat}{A:Around}{h h' base:Heap}{u v pm:Value}{o:Obj}{x qual z:Str}{mg mA:Str->Option Value}{pos pos':PySem.Pos}{scope:Scope}{es:Array DictEntry}{us vs its:List Value}{ps fl N N':List Str}{tg e iter:Expr}{ord items:Array Value}{hs rooms:List Int}{body:List Stmt}{ifs:List Expr}{env:Env}
section
open PySem PySem.W PySem.Spec PySem.Calls PyProof.Rows
def Dd:=@List.length_map
def De:=@wpAny_bind
def Df:=@wpAny_pure
def Dg:=@List.mem_map
def Dh:=@Heap.get?_push_of_some
def Di:=@Nat.le_refl
def Dj:=@List.mem_singleton
def Dk:=@List.map_cons
def Dl:=@List.length_append
def Dm:=@List.mem_cons_self
def Dn:=@List.map_append
def Dp:=@List.mem_append
def Dq:=@List.getElem?_map
def Dr:=@List.mem_cons_of_mem
def Ds:=@wpS_bind
def Du:=@List.map_map
def Dv:=@List.getElem?_eq_getElem
def Dw:=@List.mem_of_getElem?
def Dx:=@Bool.false_eq_true
def Dy:=@Option.map_eq_some_iff
def Dz:=@Heap.lt_size
def DA:=@wpS_pure
def DB:=@decide_eq_true
def DE:=@Heap.get?_push_size
def DG:=@List.mem_cons
def DI:=@List.getElem?_eq_some_iff
def DJ:=@Array.length_toList
def DK:=@Array.getElem?_toList
def DL:=@Option.some.inj
def DO:=@Nat.ne_of_lt
def DQ:=@Bool.false_ne_true
def DR:=@List.length_cons
def DT:=@decide_eq_false
def DU:=@List.mem_map_of_mem
def DV:=@sizeLine_eq
def DX:=@of_decide_eq_true
def DY:=@Array.getElem?_eq_getElem
def DZ:=@Nat.zero_le
def D6:=@Nat.lt_of_lt_of_le
def D7:=@List.length_singleton
def D8:=@List.size_toArray
def D9:=@List.append_nil
def Ea:=@Nat.le_trans
def Eb:=@List.mem_filter
def Ec:=@List.take_of_length_le
def Ed:=@List.append_assoc
def Ee:=@Array.toList_append
def Ef:=@List.length_range
def Eg:=@List.getElem?_eq_none_iff
def Eh:=@List.mem_range
def Ei:=@Array.getElem?_eq_some_iff
def Ej:=@Bool.eq_iff_iff
def Ek:=@List.mem_append_right
def El:=@List.getElem?_append_right
def Em:=@List.take_append_drop
def Eo:=@getElem?_pos
def Ep:=@List.getElem?_append_left
def Er:=@List.drop_eq_getElem_cons
def Es:=@List.filterMap_cons
def Et:=@List.length_take
def Eu:=@List.nodup_cons
def Ew:=@wpAny_holding
def Ex:=@wpS_forRange
def Ey:=@Bool.and_eq_true
def Ez:=@List.find?_cons
def EA:=@wpAny_mono
def EB:=@wpAny_call_entry
def EC:=@List.length_eq_zero_iff
def ED:=@List.pairwise_map
def EE:=@List.pairwise_append
def EF:=@List.mem_iff_getElem
def EG:=@Nat.lt_irrefl
def EH:=@List.map_nil
def EI:=@List.take_add_one
def EJ:=@List.getD_eq_getElem?_getD
def EK:=@List.nodup_nil
def EL:=@Int.emod_lt_of_pos
def EM:=@wpAny_setState_of
def EN:=@wpAny_newObj_type
def EO:=@wpS_modify
def ER:=@wpAny_truthy_bool
def ES:=@wpS_mono
def ET:=@List.length_filter_le
def EU:=@List.pairwise_cons
def EV:=@Array.getD_eq_getD_getElem?
def EW:=@List.all_eq_true
def EX:=@Array.toList_extract
def EY:=@List.lookup_cons
def EZ:=@Array.getElem?_eq_none_iff
def E6:=@Heap.size_push
def E7:=@Int.emod_nonneg
def E8:=@List.length_nil
def E9:=@List.extract_eq_take_drop
def Fb:=@List.countP_le_length
def Fc:=@List.take_append_of_le_length
def Fd:=@wpAny_setField_rec
def Fe:=@Nat.le_of_lt
def Ff:=@wpAny_Call_Name_kw
def Fg:=@wpAny_rule
def Fh:=@Option.isSome_map
def Fi:=@List.map_congr_left
def Fj:=@List.drop_eq_nil_of_le
def Fl:=@List.perm_ext_iff_of_nodup
def Fm:=@Array.perm_iff_toList_perm
def Fn:=@List.any_cons
def Fo:=@List.length_drop
def Fp:=@Bool.and_false
def Fq:=@Nat.not_lt_zero
def Fs:=@Nat.ne_of_gt
def Ft:=@List.mem_append_left
def Fu:=@Bool.not_true
def Fv:=@wpAny_typeNameOfWhole_keyiter
def Fw:=@Nat.lt_succ_self
def Fx:=@List.mem_reverse
def Fy:=@List.take_length
def Fz:=@Heap.get?_update_other
end
section
namespace SB
structure bS {α:Type}(ok:α->Prop)(lt:α->α->Bool):Prop where
 tr:∀ a b c,ok a->ok b->ok c->lt a b=true->lt b c=true->lt a c=true
 tot:∀ a b,ok a->ok b->a≠b->lt a b=false->lt b a=true
 asy:∀ a b,ok a->ok b->lt a b=true->lt b a=false
theorem bS.same{α:Type}{ok:α->Prop}{lt:α->α->Bool}(L:bS ok lt):∀{a b:List α},(∀ k∈a,ok k)->a.Perm b->a.Pairwise (fun x y=>lt x y=true)->b.Pairwise (fun x y=>lt x y=true)->a=b
 | [],b,_,p,_,_=>by rw[List.nil_perm.mp p]
 | x::a,[],_,p,_,_=>by have:=p.length_eq;simp at this
 | x::a,y::b,hk,p,ha,hb=>by
  have okx:=hk x (Dm ..);have oky:=hk y (p.mem_iff.mpr (Dm ..));have e:x=y:=Classical.byContradiction fun ne=>by
   have h1:y∈a:=by
    rcases DG.mp (p.mem_iff.mpr (Dm ..):y∈x::a) with q|q
    ·exact absurd q.symm ne
    ·exact q
   have h2:x∈b:=by
    rcases DG.mp (p.mem_iff.mp (Dm ..):x∈y::b) with q|q
    ·exact absurd q ne
    ·exact q
   have l1:=(EU.mp ha).1 y h1;have l2:=(EU.mp hb).1 x h2
   have:=L.asy _ _ okx oky l1
   rw[l2]at this;cases this
  subst e;rw[bS.same L (fun k hk'=>hk k (Dr _ hk')) p.cons_inv (EU.mp ha).2 (EU.mp hb).2]
end SB
end
section
namespace SB
open PySem PySem.SetTable
theorem xX(xs:Array Nat)(j:Nat)(inc:∀ a b:Nat,a<b->b<xs.size->xs.getD a 0<xs.getD b 0) :
  ∀(fuel lo hi:Nat),hi-lo<=fuel->lo<=hi->hi<=xs.size->(∀ i,i<lo->xs.getD i 0<j)->(∀ i,hi<=i->i<xs.size->j<=xs.getD i 0) →
   (below.go xs j fuel lo hi<=xs.size)/\(∀ i,i<below.go xs j fuel lo hi->xs.getD i 0<j)/\(∀ i,below.go xs j fuel lo hi<=i->i<xs.size->j<=xs.getD i 0):=by
 intro fuel;induction fuel with
 | zero=>
  intro lo hi hf hle hs h1 h2;have e:lo=hi:=by lia
  subst e;unfold below.go;exact⟨hs,h1,h2⟩
 | succ f ih=>
  intro lo hi hf hle hs h1 h2;unfold below.go
  by_cases hlt:lo<hi
  ·rw[if_pos hlt];have hm1:(lo+hi) / 2<xs.size:=by lia
   have e:xs.getD ((lo+hi) / 2) j=xs.getD ((lo+hi) / 2) 0:=by
    simp [Array.getD,hm1]
   dsimp only;rw[e]
   by_cases hc:xs.getD ((lo+hi) / 2) 0<j
   ·rw[if_pos hc];refine ih _ _ (by lia) (by lia) hs (fun i hi'=>?_) h2
    by_cases q:i=(lo+hi) / 2
    ·rw[q];exact hc
    ·have:=inc i ((lo+hi) / 2) (by lia) hm1
     lia
   ·rw[if_neg hc];refine ih _ _ (by lia) (by lia) (by lia) h1 (fun i hi' hi2=>?_)
    by_cases q:i=(lo+hi) / 2
    ·rw[q];lia
    ·have:=inc ((lo+hi) / 2) i (by lia) hi2
     lia
  ·rw[if_neg hlt];have e:lo=hi:=by lia
   subst e;exact⟨hs,h1,h2⟩
theorem eR{xs:Array Nat}(h:xs[i]? =some j):xs.getD i 0=j:=by
 rw[EV,h];rfl
theorem i4{xs:Array Nat}(h:i<xs.size):xs[i]? =some (xs.getD i 0):=by
 rw[EV,DY h];rfl
noncomputable def Inc (xs:Array Nat):Prop:=∀ a b:Nat,a<b->b<xs.size->xs.getD a 0<xs.getD b 0
theorem fi{xs:Array Nat}(inc:Inc xs)(j:Nat):(below xs j<=xs.size)/\(∀ i,i<below xs j->xs.getD i 0<j)/\(∀ i,below xs j<=i->i<xs.size->j<=xs.getD i 0):=
 xX xs j inc xs.size 0 xs.size (by lia) (DZ _) (Di _) (fun i h=>absurd h (Fq _)) (fun i h h'=>by lia)
theorem below_at{xs:Array Nat}(inc:Inc xs)(h:xs[i]? =some j):below xs j=i:=by
 obtain⟨h1,h2,h3⟩:=fi inc j;have hi:i<xs.size:=(Ei.mp h).1;have e:=eR h;rcases Nat.lt_trichotomy (below xs j) i with q|q|q
 ·have a1:=h3 _ (Di _) (by lia)
  have a2:=inc _ _ q hi;lia
 ·exact q
 ·have:=h2 _ q
  lia
noncomputable def Occ (t:SetTable)(j:Nat):Prop:=∃ i:Nat,t.place[i]? =some j
theorem og{t:SetTable}(inc:Inc t.place)(h:t.place[i]? =some j):t.slot j=.live i:=by
 unfold SetTable.slot;dsimp only;rw[below_at inc h,h]
 simp
theorem C4{t:SetTable}(hd:t.dummies=#[])(h:¬ Occ t j):t.slot j=.empty:=by
 unfold SetTable.slot;dsimp only;have e1:(t.place[below t.place j]?==some j)=false:=by
  cases q:t.place[below t.place j]? with
  | none=>rfl
  | some x=>
   by_cases z:x=j
   ·exact absurd ⟨_,z▸q⟩ h
   ·simp [z]
 rw[e1,hd]
 simp [SetTable.has]
noncomputable def adv (mask:Nat)(p:Probe):Probe:=
 if p.more > 0 then { p with j:=p.j+1,more:=p.more-1 } else
 { p with j:=(leap mask p.i p.perturb).1,more:=runEnd mask (leap mask p.i p.perturb).1-(leap mask p.i p.perturb).1,i:=(leap mask p.i p.perturb).1,perturb:=(leap mask p.i p.perturb).2 }
noncomputable def st0 (mask:Nat)(b:Nat):Probe:={ j:=b%(mask+1),more:=runEnd mask (b%(mask+1))-b%(mask+1),i:=b%(mask+1),perturb:=b,dummy:=none }
noncomputable def st (mask b:Nat):Nat->Probe
 | 0=>st0 mask b
 | n+1=>adv mask (st mask b n)
theorem kN(mask b:Nat):∀ n,(st mask b n).dummy=none
 | 0=>rfl
 | n+1=>by
  show(adv mask (st mask b n)).dummy=none
  unfold adv
  split
  ·exact kN mask b n
  ·exact kN mask b n
noncomputable def rs (mask b:Nat):Nat->Nat×Nat
 | 0=>(b%(mask+1),b)
 | k+1=>leap mask (rs mask b k).1 (rs mask b k).2
noncomputable def ln (mask i:Nat):Nat:=runEnd mask i-i
theorem AS(mask i:Nat):ln mask i<=9:=by unfold ln runEnd;split <;> lia
theorem sj(mask b k:Nat):(rs mask b k).1<=mask:=by
 cases k with
 | zero=>exact Nat.lt_succ_iff.mp (Nat.mod_lt _ (Nat.succ_pos _))
 | succ k=>
  show(leap mask _ _).1<=mask
  unfold leap;exact Nat.lt_succ_iff.mp (Nat.mod_lt _ (Nat.succ_pos _))
noncomputable def sk (mask b:Nat):Nat->Nat
 | 0=>0
 | k+1=>sk mask b k+ln mask (rs mask b k).1+1
theorem rW(mask b:Nat):∀ k,sk mask b k<=10*k
 | 0=>Di _
 | k+1=>by
  have h1:=rW mask b k;have h2:=AS mask (rs mask b k).1;show sk mask b k+ln mask (rs mask b k).1+1<=10*(k+1)
  lia
noncomputable def fF (mask b k d:Nat):Probe:={ j:=(rs mask b k).1+d,more:=ln mask (rs mask b k).1-d,i:=(rs mask b k).1,perturb:=(rs mask b k).2,dummy:=none }
theorem ki(mask b k:Nat)(h0:st mask b (sk mask b k)=fF mask b k 0):∀ d,d<=ln mask (rs mask b k).1->st mask b (sk mask b k+d)=fF mask b k d
 | 0,_=>h0
 | d+1,h=>by
  show adv mask (st mask b (sk mask b k+d))=_
  rw[ki mask b k h0 d (by lia)]
  unfold adv fF;dsimp only;rw[if_pos (by lia)]
  simp only[Probe.mk.injEq,and_true];lia
theorem gT(mask b:Nat):∀ k,st mask b (sk mask b k)=fF mask b k 0
 | 0=>rfl
 | k+1=>by
  show adv mask (st mask b (sk mask b k+ln mask (rs mask b k).1))=_
  rw[ki mask b k (gT mask b k) _ (Di _)];unfold adv fF;dsimp only;rw[if_neg (by lia)]
  rfl
theorem z5(mask b k d:Nat)(h:d<=ln mask (rs mask b k).1):st mask b (sk mask b k+d)=fF mask b k d:=ki mask b k (gT mask b k) d h
theorem kG(mask b k d:Nat)(h:d<=ln mask (rs mask b k).1):(st mask b (sk mask b k+d)).j=(rs mask b k).1+d:=by rw[z5 mask b k d h];rfl
theorem rn(mask b:Nat):∀ k,(rs mask b k).2=b / 32^k
 | 0=>by simp [rs]
 | k+1=>by
  show(rs mask b k).2 / 32=_
  rw[rn mask b k,Nat.div_div_eq_div_mul,Nat.pow_succ]
theorem Ay{b:Nat}(hb:b<2^64){k:Nat}(hk:13<=k):(rs mask b k).2=0:=by
 rw[rn];refine Nat.div_eq_of_lt (D6 hb ?_);exact Ea (by decide:2^64<=32^13) (Nat.pow_le_pow_right (by decide) hk)
noncomputable def lcg (m i:Nat):Nat:=(i*5+1)%m
noncomputable def orb (m i:Nat):Nat->Nat
 | 0=>i
 | n+1=>lcg m (orb m i n)
theorem rJ{b:Nat}(hb:b<2^64):∀ r,(rs mask b (13+r)).1=orb (mask+1) (rs mask b 13).1 r
 | 0=>rfl
 | r+1=>by
  show(leap mask (rs mask b (13+r)).1 (rs mask b (13+r)).2).1=lcg (mask+1) (orb (mask+1) (rs mask b 13).1 r)
  rw[<-rJ hb r];unfold leap lcg;dsimp only;rw[Ay hb (by lia:13<=13+r)]
theorem qO(m i:Nat):∀ r,orb m (lcg m i) r=orb m i (r+1)
 | 0=>rfl
 | r+1=>by show lcg m (orb m (lcg m i) r)=lcg m (orb m i (r+1));rw[qO m i r]
theorem jd(m i a:Nat):∀ r,orb m (orb m i a) r=orb m i (a+r)
 | 0=>rfl
 | r+1=>by show lcg m (orb m (orb m i a) r)=lcg m (orb m i (a+r));rw[jd m i a r]
noncomputable def meets (m e:Nat):Nat->Nat->Bool
 | 0,i=>i==e
 | n+1,i=>i==e||meets m e n (lcg m i)
theorem mO{m e:Nat}:∀{n i:Nat},meets m e n i=true->∃ r,r<=n/\orb m i r=e
 | 0,i,h=>⟨0,Di _,by have h:i=e:=(by simpa [meets] using h);exact h⟩
 | n+1,i,h=>by
  rw[meets,Bool.or_eq_true]at h;rcases h with h|h
  ·have h:i=e:=by simpa using h
   exact⟨0,DZ _,h⟩
  ·obtain⟨r,hr,q⟩:=mO h;exact⟨r+1,by lia,by rw[<-qO];exact q⟩
noncomputable def cC (mask:Nat):Prop:=mask=7\/mask=31\/mask=127
noncomputable def iq (mask:Nat):Bool:=((List.range (mask+1)).all fun e=>meets (mask+1) e mask 0)&&orb (mask+1) 0 (mask+1)==0
theorem am7:iq 7=true:=by decide +kernel
theorem vQ:iq 31=true:=by decide +kernel
theorem zb:iq 127=true:=by decide +kernel
theorem cC.meet(h:cC mask):iq mask=true:=by
 rcases h with rfl|rfl|rfl
 ·exact am7
 ·exact vQ
 ·exact zb
theorem cC.xO(h:cC mask){e:Nat}(hi:i<=mask)(he:e<=mask):∃ r,r<=mask/\orb (mask+1) i r=e:=by
 have h:=h.meet;unfold iq at h;rw[Ey]at h;obtain⟨h,hz⟩:=h;have hz:orb (mask+1) 0 (mask+1)=0:=by simpa using hz
 obtain⟨a,ha,ea⟩:=mO (EW.mp h i (Eh.mpr (Nat.lt_succ_of_le hi)));obtain⟨b,hb,eb⟩:=mO (EW.mp h e (Eh.mpr (Nat.lt_succ_of_le he)))
 by_cases q:a<=b
 ·refine⟨b-a,by lia,?_⟩
  rw[<-ea,jd,show a+(b-a)=b by lia,eb]
 ·refine⟨mask+1-a+b,by lia,?_⟩
  rw[<-ea,jd,show a+(mask+1-a+b)=(mask+1)+b by lia,<-jd,hz,eb]
theorem cover{b e:Nat}(hm:cC mask)(hb:b<2^64)(he:e<=mask):∃ k,k<=mask+13/\(rs mask b k).1=e:=by
 obtain⟨r,hr,q⟩:=hm.xO (sj mask b 13) he;exact⟨13+r,by lia,by rw[rJ hb];exact q⟩
theorem yF{b e:Nat}(hm:cC mask)(hb:b<2^64)(he:e<=mask):∃ n,n<10*turns mask/\(st mask b n).j=e:=by
 obtain⟨k,hk,e1⟩:=cover hm hb he;refine⟨sk mask b k,?_,?_⟩
 ·have:=rW mask b k
  unfold turns;lia
 ·rw[gT];exact e1
theorem kM(h:Int):bits h<2^64:=by
 unfold bits;have h1:=E7 h (show(2^64:Int)≠0 by decide)
 have h2:=EL h (show(0:Int)<2^64 by decide)
 lia
theorem mR:∀(n:Nat)(f:Nat->Nat),(∀ i,i<=n->f i<n)->(∀ i j,i<=n->j<=n->f i=f j->i=j)->False
 | 0,f,h,_=>absurd (h 0 (Di _)) (Fq _)
 | n+1,f,h,inj=>by
  refine mR n (fun i=>if f i=n then f (n+1) else f i) (fun i hi=>?_) (fun i j hi hj e=>?_)
  ·try dsimp only
   have h1:=h i (by lia)
   have h2:=h (n+1) (Di _)
   split
   ·rename_i q
    have:f (n+1)≠n:=fun z=>by
     have:=inj i (n+1) (by lia) (Di _) (by lia)
     lia
    lia
   ·lia
  ·try dsimp only at e
   split at e
   ·rename_i q
    split at e
    ·rename_i q'
     exact inj i j (by lia) (by lia) (by lia)
    ·have:=inj (n+1) j (Di _) (by lia) e
     lia
   ·split at e
    ·have:=inj i (n+1) (by lia) (Di _) e
     lia
    ·exact inj i j (by lia) (by lia) e
theorem yC{P:Nat->Prop}(h:P n):∃ m,m<=n/\P m/\∀ k,k<m->¬ P k:=by
 induction n using Nat.strongRecOn with
 | ind n ih=>
  by_cases q:∃ k,k<n/\P k
  ·obtain⟨k,hk,pk⟩:=q;obtain⟨m,h1,h2,h3⟩:=ih k hk pk;exact⟨m,by lia,h2,h3⟩
  ·exact⟨n,Di _,h,fun k hk pk=>q ⟨k,hk,pk⟩⟩
noncomputable def Reach (occ:Nat->Prop)(mask b j:Nat):Prop:=∃ n,(st mask b n).j=j/\∀ m,m<n->occ (st mask b m).j
theorem Reach.mono{occ occ':Nat->Prop}{b:Nat}(h:Reach occ mask b j)(hs:∀ j,occ j->occ' j):Reach occ' mask b j:=
 let ⟨n,h1,h2⟩:=h;⟨n,h1,fun m hm=>hs _ (h2 m hm)⟩
structure TOk (t:SetTable)(hs:List Int):Prop where
 dm:t.dummies=#[]
 siz:cC t.mask
 len:t.place.size=hs.length
 inc:Inc t.place
 le:∀(i j:Nat),t.place[i]? =some j->j<=t.mask
 rch:∀(i:Nat) (h:Int) (j:Nat),hs[i]? =some h->t.place[i]? =some j->Reach (Occ t) t.mask (bits h) j
theorem Inc.inj{xs:Array Nat}(inc:Inc xs){i':Nat}(h:xs[i]? =some j)(h':xs[i']? =some j):i=i':=by
 rw[<-below_at inc h,<-below_at inc h']
theorem TOk.hole{t:SetTable}(T:TOk t hs)(hr:hs.length<=t.mask):∃ e,e<=t.mask/\¬ Occ t e:=by
 refine Classical.byContradiction fun no=>?_
 have all:∀ e,e<=t.mask->Occ t e:=fun e he=>Classical.byContradiction fun z=>no ⟨e,he,z⟩
 refine mR t.mask (fun e=>below t.place e) (fun e he=>?_) (fun i j hi hj e=>?_)
 ·obtain⟨i,h⟩:=all e he
  try dsimp only
  rw[below_at T.inc h]
  have:i<t.place.size:=(Ei.mp h).1
  have:=T.len
  lia
 ·obtain⟨a,ha⟩:=all i hi;obtain⟨c,hc⟩:=all j hj
  try dsimp only at e
  rw[below_at T.inc ha,below_at T.inc hc]at e;subst e;rw[ha]at hc;exact DL hc
structure iQ (t:SetTable)(b n:Nat):Prop where
 lt:n<10*turns t.mask
 no:¬ Occ t (st t.mask b n).j
 occ:∀ m,m<n->Occ t (st t.mask b m).j
theorem TOk.free{t:SetTable}(T:TOk t hs)(hr:hs.length<=t.mask){b:Nat}(hb:b<2^64):∃ n,iQ t b n:=by
 obtain⟨e,he,no⟩:=T.hole hr;obtain⟨n,hn,q⟩:=yF T.siz hb he;obtain⟨m,h1,h2,h3⟩:=yC (P:=fun n=>¬ Occ t (st t.mask b n).j) (n:=n) (by rw[q];exact no)
 exact⟨m,by lia,h2,fun k hk=>Classical.byContradiction fun z=>h3 k hk z⟩
theorem lF{t:SetTable}(T:TOk t hs)(hashAt:Nat->Int)(h:Int){b n0:Nat}(F:iQ t b n0):∀(d n fuel:Nat),n+d=n0->d<fuel →
  (probe.go t hashAt h fuel (st t.mask b n)=some (.empty (st t.mask b n0).j none)/\∀ m i,n<=m->m<n0->t.place[i]? =some (st t.mask b m).j->¬ hashAt i=h) ∨
  (∃ m i,n<=m/\m<n0/\t.place[i]? =some (st t.mask b m).j/\hashAt i=h/\probe.go t hashAt h fuel (st t.mask b n)=some (.candidate (st t.mask b m).j i (st t.mask b (m+1))) ∧
   ∀ m' i',n<=m'->m'<m->t.place[i']? =some (st t.mask b m').j->¬ hashAt i'=h)
 | 0,n,0,_,hf=>by lia
 | 0,n,f+1,e,_=>by
  have e:n=n0:=by lia
  subst e
  left
  refine⟨?_,fun m i h1 h2=>by lia⟩
  unfold probe.go;rw[C4 T.dm F.no,kN]
 | d+1,n,0,_,hf=>by lia
 | d+1,n,f+1,e,hf=>by
  obtain⟨i,hi⟩:=F.occ n (by lia)
  unfold probe.go;rw[og T.inc hi]
  try dsimp only
  by_cases q:hashAt i=h
  ·right
   refine⟨n,i,Di _,by lia,hi,q,?_,fun m' i' h1 h2=>by lia⟩
   rw[if_pos (by simp [q])]
   rfl
  ·rw[if_neg (by simp [q])]
   have step:∀ i',t.place[i']? =some (st t.mask b n).j->¬ hashAt i'=h:=fun i' hi'=>by
    rw[<-T.inc.inj hi hi'];exact q
   rcases lF T hashAt h F d (n+1) f (by lia) (by lia) with⟨g,z⟩|⟨m,i2,h1,h2,h3,h4,g,z⟩
   ·left
    refine⟨g,fun m i' h1 h2 h3=>?_⟩
    by_cases w:m=n
    ·subst w;exact step i' h3
    ·exact z m i' (by lia) h2 h3
   ·right
    refine⟨m,i2,by lia,h2,h3,h4,g,fun m' i' k1 k2 k3=>?_⟩
    by_cases w:m'=n
    ·subst w;exact step i' k3
    ·exact z m' i' (by lia) k2 k3
theorem cY{α:Type}(xs:Array α)(p:Nat)(x:α)(hp:p<=xs.size)(i:Nat):(insertAt xs p x)[i]? = if i<p then xs[i]? else if i=p then some x else xs[i-1]?:=by
 have e:(insertAt xs p x).toList=xs.toList.take p++x::xs.toList.drop p:=by
  unfold insertAt
  simp [EX]
  exact Ec (by simp)
 rw[<-DK,e];have hl:(xs.toList.take p).length=p:=by rw[Et];simp;lia
 by_cases h1:i<p
 ·rw[if_pos h1,Ep (by lia),List.getElem?_take_of_lt h1,DK]
 ·rw[if_neg h1,El (by lia),hl]
  by_cases h2:i=p
  ·subst h2;rw[if_pos rfl]
   simp
  ·rw[if_neg h2];obtain⟨k,hk⟩:∃ k,i-p=k+1:=⟨i-p-1,by lia⟩
   rw[hk,List.getElem?_cons_succ,List.getElem?_drop,DK];congr 1;lia
theorem kH{α:Type}(xs:Array α)(p:Nat)(x:α)(hp:p<=xs.size):(insertAt xs p x).size=xs.size+1:=by
 unfold insertAt
 simp
 lia
theorem gU{α:Type}(xs:Array α)(p:Nat)(x:α):(insertAt xs p x).toList=xs.toList.take p++x::xs.toList.drop p:=by
  unfold insertAt
  simp [EX]
  exact Ec (by simp)
theorem zw{α:Type}(xs:List α)(p:Nat)(x:α)(hp:p<=xs.length)(i:Nat):(xs.take p++x::xs.drop p)[i]? = if i<p then xs[i]? else if i=p then some x else xs[i-1]?:=by
 have h:=cY xs.toArray p x (by simpa using hp) i
 rw[<-DK,gU]at h;simpa using h
theorem fO(t:SetTable)(j:Nat):(t.put j).1.place=insertAt t.place (below t.place j) j:=rfl
theorem qC(t:SetTable)(j:Nat):(t.put j).1.mask=t.mask:=rfl
theorem jF(t:SetTable)(j:Nat):(t.put j).2=below t.place j:=rfl
theorem Inc.of_get{xs:Array Nat}(h:∀(a b x y:Nat),a<b->xs[a]? =some x->xs[b]? =some y->x<y):Inc xs:=fun a b hab hb=>
 h a b _ _ hab (i4 (by lia)) (i4 hb)
theorem Inc.get{xs:Array Nat}(inc:Inc xs){a b x y:Nat}(hab:a<b)(ha:xs[a]? =some x)(hb:xs[b]? =some y):x<y:=by
 have:=inc a b hab (Ei.mp hb).1
 rw[eR ha,eR hb]at this;exact this
theorem TOk.put{t:SetTable}(T:TOk t hs){h:Int}(F:iQ t (bits h) n)(hle:(st t.mask (bits h) n).j<=t.mask) :
  TOk (t.put (st t.mask (bits h) n).j).1 (hs.take (t.put (st t.mask (bits h) n).j).2++h::hs.drop (t.put (st t.mask (bits h) n).j).2):=by
 generalize ej:(st t.mask (bits h) n).j=j at *;obtain⟨b1,b2,b3⟩:=fi T.inc j;have hno:¬ Occ t j:=ej▸F.no;have occ':∀ k,Occ t k->Occ (t.put j).1 k:=fun k ⟨i,hi⟩=>by
  have hi':i<t.place.size:=(Ei.mp hi).1
  by_cases q:i<below t.place j
  ·exact⟨i,by rw[fO,cY _ _ _ b1,if_pos q];exact hi⟩
  ·exact⟨i+1,by rw[fO,cY _ _ _ b1,if_neg (by lia),if_neg (by lia)];simpa using hi⟩
 have hlen:=T.len;refine⟨?_,T.siz,?_,Inc.of_get fun a b x y hab ha hb=>?_,fun i k hk=>?_,fun i h' k hh hk=>?_⟩
 ·show(if has t.dummies j=true then _ else _)=_
  rw[T.dm];rfl
 ·rw[fO,kH _ _ _ b1,Dl,DR,Et,Fo,jF];lia
 ·rw[fO,cY _ _ _ b1]at ha hb
  by_cases qb:b<below t.place j
  ·rw[if_pos qb]at hb;rw[if_pos (by lia)]at ha
   exact T.inc.get hab ha hb
  ·rw[if_neg qb]at hb
   by_cases qb':b=below t.place j
   ·rw[if_pos qb']at hb;rw[if_pos (by lia)]at ha
    have:=b2 a (by lia)
    rw[eR ha]at this
    have:=DL hb
    lia
   ·rw[if_neg qb']at hb;have hbs:b-1<t.place.size:=(Ei.mp hb).1;have hy:j<y:=by
     have h1:=b3 (b-1) (by lia) hbs
     rw[eR hb]at h1
     have:y≠j:=fun z=>hno ⟨b-1,z▸hb⟩
     lia
    by_cases qa:a<below t.place j
    ·rw[if_pos qa]at ha
     have:=b2 a qa
     rw[eR ha]at this;lia
    ·rw[if_neg qa]at ha
     by_cases qa':a=below t.place j
     ·rw[if_pos qa']at ha
      have:=DL ha
      lia
     ·rw[if_neg qa']at ha;exact T.inc.get (by lia) ha hb
 ·rw[fO,cY _ _ _ b1]at hk;rw[qC]
  by_cases q:i<below t.place j
  ·rw[if_pos q]at hk;exact T.le _ _ hk
  ·rw[if_neg q]at hk
   by_cases q':i=below t.place j
   ·rw[if_pos q']at hk
    have:=DL hk
    lia
   ·rw[if_neg q']at hk;exact T.le _ _ hk
 ·rw[fO,cY _ _ _ b1]at hk;rw[jF,zw _ _ _ (by lia)]at hh
  rw[qC]
  by_cases q:i<below t.place j
  ·rw[if_pos q]at hk hh;exact(T.rch _ _ _ hh hk).mono occ'
  ·rw[if_neg q]at hk hh
   by_cases q':i=below t.place j
   ·rw[if_pos q']at hk hh;cases DL hk
    cases DL hh
    exact⟨n,ej,fun m hm=>occ' _ (F.occ m hm)⟩
   ·rw[if_neg q']at hk hh;exact(T.rch _ _ _ hh hk).mono occ'
noncomputable def eM (ow:Array (Option Nat))(j:Nat):Prop:=∃ k,ow[j]? =some (some k)
structure LOk (mask:Nat)(ow:Array (Option Nat))(hs:List Int):Prop where
 sz:ow.size=mask+1
 rch:∀(j k:Nat),ow[j]? =some (some k)->∃ h,hs[k]? =some h/\Reach (eM ow) mask (bits h) j
 all:∀ k,k<hs.length->∃ j:Nat,ow[j]? =some (some k)
 one:∀ j j' k:Nat,ow[j]? =some (some k)->ow[j']? =some (some k)->j=j'
theorem LOk.hole{ow:Array (Option Nat)}(L:LOk mask ow hs)(hr:hs.length<=mask):∃ e,e<=mask/\ow[e]? =some none:=by
 refine Classical.byContradiction fun no=>?_
 have all:∀ e,e<=mask->∃ k,ow[e]? =some (some k):=fun e he=>by
  have hlt:e<ow.size:=by rw[L.sz];lia
  cases q:ow[e]? with
  | none=>rw[EZ]at q;lia
  | some o=>
   cases o with
   | none=>exact absurd ⟨e,he,q⟩ no
   | some k=>exact⟨k,rfl⟩
 refine mR mask (fun e=>((ow[e]?).getD none).getD 0) (fun e he=>?_) (fun i j hi hj e=>?_)
 ·obtain⟨k,hk⟩:=all e he;obtain⟨h,h1,_⟩:=L.rch e k hk
  have:k<hs.length:=(DI.mp h1).1
  simp only[hk,Option.getD_some];lia
 ·obtain⟨a,ha⟩:=all i hi;obtain⟨c,hc⟩:=all j hj;simp only[ha,hc,Option.getD_some]at e;subst e;exact L.one _ _ _ ha hc
theorem Bh{ow:Array (Option Nat)}(hsz:ow.size=mask+1){b e:Nat}(he:ow[e]? =some none):∀(c k fuel:Nat),(rs mask b (k+c)).1=e->c<fuel →
  (∀ m,m<sk mask b k->eM ow (st mask b m).j) →
  ∃ n,layClean.free mask ow fuel (rs mask b k).1 (rs mask b k).2=some (st mask b n).j/\ow[(st mask b n).j]? =some none/\∀ m,m<n->eM ow (st mask b m).j:=by
 intro c;induction c with
 | zero=>
  intro k fuel hk hf ho;cases fuel with
  | zero=>lia
  | succ f=>
   unfold layClean.free;have h0:((List.range (runEnd mask (rs mask b k).1+1-(rs mask b k).1)).find? fun k_1=>(ow.getD ((rs mask b k).1+k_1) (some 0)).isNone)=some 0:=by
    obtain⟨z,hz⟩:∃ z,runEnd mask (rs mask b k).1+1-(rs mask b k).1=z+1:=⟨runEnd mask (rs mask b k).1-(rs mask b k).1,by unfold runEnd;split <;> lia⟩
    rw[hz,List.range_succ_eq_map]
    have:(ow.getD ((rs mask b k).1+0) (some 0)).isNone=true:=by
     rw[Nat.add_zero,EV];rw[Nat.add_zero]at hk;rw[hk,he];rfl
    rw[Ez,this]
   rw[h0];refine⟨sk mask b k,?_,?_,ho⟩
   ·rw[gT];rfl
   ·rw[gT];show ow[(rs mask b k).1+0]? = _
    rw[Nat.add_zero]at hk ⊢;rw[hk,he]
 | succ c ih=>
  intro k fuel hk hf ho;cases fuel with
  | zero=>lia
  | succ f=>
   unfold layClean.free;have hlen:runEnd mask (rs mask b k).1+1-(rs mask b k).1=ln mask (rs mask b k).1+1:=by unfold ln runEnd;split <;> lia
   have hin:∀ d,d<=ln mask (rs mask b k).1->(rs mask b k).1+d<ow.size:=fun d hd=>by
    have h1:=sj mask b k;rw[hsz];unfold ln runEnd at hd
    split at hd <;> lia
   have isn:∀ d,d<=ln mask (rs mask b k).1->((ow.getD ((rs mask b k).1+d) (some 0)).isNone=true↔ow[(rs mask b k).1+d]? =some none):=fun d hd=>by
    rw[EV,DY (hin d hd)]
    simp
   have occ_of:∀ d,d<=ln mask (rs mask b k).1->¬ (ow.getD ((rs mask b k).1+d) (some 0)).isNone=true->eM ow (st mask b (sk mask b k+d)).j:=fun d hd hn=>by
    rw[kG _ _ _ _ hd];rw[isn d hd]at hn
    have:=hin d hd
    cases q:ow[(rs mask b k).1+d]? with
    | none=>rw[EZ]at q;lia
    | some o=>
     cases o with
     | none=>exact absurd q hn
     | some k'=>exact⟨k',q⟩
   cases q:((List.range (runEnd mask (rs mask b k).1+1-(rs mask b k).1)).find? fun k_1=>(ow.getD ((rs mask b k).1+k_1) (some 0)).isNone) with
   | some d=>
    dsimp only;rw[List.find?_range_eq_some]at q;obtain⟨q1,q2,q3⟩:=q;rw[hlen,Eh]at q2;refine⟨sk mask b k+d,?_,?_,fun m hm=>?_⟩
    ·rw[kG _ _ _ _ (by lia)]
    ·rw[kG _ _ _ _ (by lia)]
     exact(isn d (by lia)).mp q1
    ·by_cases w:m<sk mask b k
     ·exact ho m w
     ·obtain⟨d',rfl⟩:∃ d',m=sk mask b k+d':=⟨m-sk mask b k,by lia⟩
      refine occ_of d' (by lia) ?_
      have:=q3 d' (by lia)
      intro z;rw[z]at this;exact absurd this (by decide)
   | none=>
    dsimp only;rw[List.find?_eq_none]at q;refine ih (k+1) f (by rw[show k+1+c=k+(c+1) by lia];exact hk) (by lia) (fun m hm=>?_)
    by_cases w:m<sk mask b k
    ·exact ho m w
    ·obtain⟨d',rfl⟩:∃ d',m=sk mask b k+d':=⟨m-sk mask b k,by lia⟩
     have hm:sk mask b k+d'<sk mask b k+ln mask (rs mask b k).1+1:=hm;exact occ_of d' (by lia) (q d' (Eh.mpr (by lia)))
theorem fq{ow:Array (Option Nat)}(hj:j<ow.size)(v:Option Nat)(i:Nat):(ow.setIfInBounds j v)[i]? = if i=j then some v else ow[i]?:=by
 rw[Array.getElem?_setIfInBounds]
 by_cases q:j=i
 ·subst q;simp [hj]
 ·rw[if_neg q,if_neg fun z=>q z.symm]
theorem LOk.step{ow:Array (Option Nat)}(L:LOk mask ow hs)(hm:cC mask)(hr:hs.length<=mask)(h:Int) :
  ∃ j,layClean.free mask ow (turns mask) (bits h%(mask+1)) (bits h)=some j/\LOk mask (ow.setIfInBounds j (some hs.length)) (hs++[h]):=by
 obtain⟨e,he,hn⟩:=L.hole hr;obtain⟨c,hc,ec⟩:=cover hm (kM h) he;obtain⟨n,h1,h2,h3⟩:=Bh L.sz hn c 0 (turns mask) (by rw[Nat.zero_add];exact ec) (by unfold turns;lia) (fun m hm=>absurd hm (Fq _))
 refine⟨_,h1,?_⟩;generalize ej:(st mask (bits h) n).j=j at *;have hj:j<ow.size:=(Ei.mp h2).1;have occ':∀ i,eM ow i->eM (ow.setIfInBounds j (some hs.length)) i:=fun i ⟨k,hk⟩=>by
  by_cases q:i=j
  ·exact⟨hs.length,by rw[fq hj,if_pos q]⟩
  ·exact⟨k,by rw[fq hj,if_neg q];exact hk⟩
 refine⟨by rw[Array.size_setIfInBounds];exact L.sz,fun i k hk=>?_,fun k hk=>?_,fun i i' k hk hk'=>?_⟩
 ·rw[fq hj]at hk
  by_cases q:i=j
  ·rw[if_pos q]at hk;have hk:hs.length=k:=by simpa using hk
   subst hk;refine⟨h,by simp,n,by rw[ej,q],fun m hm=>occ' _ (h3 m hm)⟩
  ·rw[if_neg q]at hk;obtain⟨h',e1,e2⟩:=L.rch i k hk
   have:k<hs.length:=(DI.mp e1).1
   exact⟨h',by rw[Ep this];exact e1,e2.mono occ'⟩
 ·rw[Dl,D7]at hk
  by_cases q:k=hs.length
  ·exact⟨j,by rw[fq hj,if_pos rfl,q]⟩
  ·obtain⟨i,hi⟩:=L.all k (by lia)
   refine⟨i,?_⟩;rw[fq hj,if_neg fun z=>?_]
   ·exact hi
   ·rw[z,h2]at hi;cases hi
 ·rw[fq hj]at hk hk'
  by_cases q:i=j
  ·by_cases q':i'=j
   ·lia
   ·rw[if_pos q]at hk;rw[if_neg q']at hk';have hk:hs.length=k:=by simpa using hk
    obtain⟨h',e1,_⟩:=L.rch _ _ hk'
    have:k<hs.length:=(DI.mp e1).1
    lia
  ·rw[if_neg q]at hk
   by_cases q':i'=j
   ·rw[if_pos q']at hk';have hk':hs.length=k:=by simpa using hk'
    obtain⟨h',e1,_⟩:=L.rch _ _ hk
    have:k<hs.length:=(DI.mp e1).1
    lia
   ·rw[if_neg q']at hk';exact L.one _ _ _ hk hk'
noncomputable def nj (mask:Nat)(acc:Option (Array (Option Nat)×Nat))(h:Int):Option (Array (Option Nat)×Nat):=do
 let (owner,k) <-acc
 let j <-layClean.free mask owner (turns mask) (bits h%(mask+1)) (bits h)
 pure (owner.setIfInBounds j (some k),k+1)
theorem Ci(mask:Nat)(hashes:Array Int):layClean mask hashes=(hashes.toList.foldl (nj mask) (some (Array.replicate (mask+1) none,0))).map (·.1):=by
 unfold layClean;rw[Array.foldl_toList];rfl
theorem tw(hm:cC mask):∀(rest hs:List Int)(ow:Array (Option Nat)),LOk mask ow hs->hs.length+rest.length<=mask →
  ∃ ow',rest.foldl (nj mask) (some (ow,hs.length))=some (ow',(hs++rest).length)/\LOk mask ow' (hs++rest)
 | [],hs,ow,L,_=>⟨ow,by simp,by simpa using L⟩
 | h::rest,hs,ow,L,hl=>by
  rw[DR]at hl;obtain⟨j,h1,L'⟩:=L.step hm (by lia) h
  obtain⟨ow',h2,L2⟩:=tw hm rest (hs++[h]) _ L' (by rw[Dl,D7];lia)
  refine⟨ow',?_,by simpa using L2⟩
  rw[List.foldl_cons];have e:nj mask (some (ow,hs.length)) h=some (ow.setIfInBounds j (some hs.length),(hs++[h]).length):=by
   show(some (ow,hs.length) >>= fun x=>layClean.free mask x.1 (turns mask) (bits h%(mask+1)) (bits h) >>= fun j=>pure (x.1.setIfInBounds j (some x.2),x.2+1))=_
   show(layClean.free mask ow (turns mask) (bits h%(mask+1)) (bits h) >>= fun j=>pure (ow.setIfInBounds j (some hs.length),hs.length+1))=_
   rw[h1]
   simp
  rw[e,h2]
  simp
theorem LOk.nil(mask:Nat):LOk mask (Array.replicate (mask+1) none) []:=by
 refine⟨by simp,fun j k h=>?_,fun k h=>absurd h (Fq _),fun j j' k h=>?_⟩
 ·rw[Array.getElem?_replicate]at h
  split at h <;> simp at h
 ·rw[Array.getElem?_replicate]at h
  split at h <;> simp at h
theorem wA(hm:cC mask)(hashes:Array Int)(hl:hashes.size<=mask):∃ ow,layClean mask hashes=some ow/\LOk mask ow hashes.toList:=by
 obtain⟨ow,h1,L⟩:=tw hm hashes.toList [] _ (LOk.nil mask) (by simpa using hl)
 refine⟨ow,?_,by simpa using L⟩
 rw[Ci];simp only[E8]at h1;rw[h1];rfl
noncomputable def bQ (mask:Nat)(ow:Array (Option Nat)):List (Nat×Nat):=(List.range (mask+1)).filterMap fun j=>(ow.getD j none).map (j,·)
theorem eW{ow:Array (Option Nat)}(hsz:ow.size=mask+1){k:Nat}:(j,k)∈bQ mask ow↔ow[j]? =some (some k):=by
 unfold bQ;rw[List.mem_filterMap];constructor
 ·rintro⟨x,hx,e⟩;rw[Eh]at hx;rw[Dy]at e;obtain⟨y,e1,e2⟩:=e;cases e2
  rw[EV,DY (by lia)]at e1
  rw[DY (by lia)]
  simpa using e1
 ·intro h;have hj:j<ow.size:=(Ei.mp h).1;refine⟨j,Eh.mpr (by lia),?_⟩
  rw[EV,h];rfl
theorem oX(mask:Nat)(ow:Array (Option Nat)):(bQ mask ow).Pairwise (fun a b=>a.1<b.1):=by
 unfold bQ;refine List.Pairwise.filterMap _ (fun a a' hlt b hb b' hb'=>?_) List.pairwise_lt_range
 rw[Dy]at hb hb';obtain⟨_,_,rfl⟩:=hb;obtain⟨_,_,rfl⟩:=hb';exact hlt
theorem sr{ow:Array (Option Nat)}(L:LOk mask ow hs):((bQ mask ow).map (·.2)).Perm (List.range hs.length):=by
 refine(Fl ?_ List.nodup_range).mpr fun k=>?_
 ·rw[List.Nodup,ED];refine List.Pairwise.imp_of_mem (fun {a b} ha hb hlt e=>?_) (oX mask ow)
  obtain⟨j,k⟩:=a;obtain⟨j',k'⟩:=b;rw[eW L.sz]at ha hb
  simp only at e hlt
  subst e
  have:=L.one _ _ _ ha hb
  lia
 ·rw[Dg,Eh];constructor
  ·rintro⟨⟨j,k'⟩,h1,rfl⟩;rw[eW L.sz]at h1;obtain⟨h,e,_⟩:=L.rch _ _ h1
   exact(DI.mp e).1
  ·intro hk;obtain⟨j,hj⟩:=L.all k hk;exact⟨(j,k),(eW L.sz).mpr hj,rfl⟩
theorem nC{α β:Type}{f:α->Option β}{g:α->β}:∀{l:List α},(∀ x∈l,f x=some (g x))->l.filterMap f=l.map g
 | [],_=>rfl
 | x::l,h=>by
  rw[Es,h x (Dm ..),Dk,nC fun y hy=>h y (Dr _ hy)]
theorem kg{α:Type}:∀ l:List α,(List.range l.length).filterMap (fun i=>l[i]?)=l
 | []=>rfl
 | x::l=>by
  rw[DR,List.range_succ_eq_map,Es];show x::_=_
  rw[List.filterMap_map];congr 1;exact kg l
theorem pH(hm:cC mask)(finger moves:Nat)(led plain:Bool)(es:Array (Int×Value))(hl:es.size<=mask) :
  ∃ t order,laid mask finger moves led plain (es.map (·.1))=some (t,order)/\t.mask=mask/\t.led=led/\order.toList.Perm (List.range es.size)/\(order.filterMap (es[·]?)).toList.Perm es.toList ∧
   TOk t ((order.filterMap (es[·]?)).toList.map (·.1)):=by
 obtain⟨ow,h1,L⟩:=wA hm (es.map (·.1)) (by simpa using hl)
 have hlen:(es.map (·.1)).toList.length=es.size:=by simp
 have e:((((bQ mask ow).map (·.2)).toArray.filterMap (es[·]?))).toList=((bQ mask ow).map (·.2)).filterMap (es[·]?):=by simp
 have hsome:∀ p∈bQ mask ow,es[p.2]? =some ((es[p.2]?).getD (0,Value.none)):=fun p hp=>by
  obtain⟨j,k⟩:=p;rw[eW L.sz]at hp;obtain⟨h,e1,_⟩:=L.rch _ _ hp;have hk:k<(es.map (·.1)).toList.length:=(DI.mp e1).1;rw[hlen]at hk;show es[k]? =some ((es[k]?).getD _)
  rw[DY hk];rfl
 have e2:((bQ mask ow).map (·.2)).filterMap (es[·]?)=(bQ mask ow).map fun p=>(es[p.2]?).getD (0,Value.none):=by
  rw[List.filterMap_map];exact nC hsome
 refine⟨{ mask,place:=((bQ mask ow).map (·.1)).toArray,dummies:=#[],finger,led,moves,plain },((bQ mask ow).map (·.2)).toArray,?_,rfl,rfl,by have:=sr L;rw[hlen]at this;simpa using this,?_,?_⟩
 ·unfold laid;rw[h1];rfl
 ·rw[e];refine((sr L).filterMap (es[·]?)).trans (List.Perm.of_eq ?_);rw[hlen]
  have:=kg es.toList
  simpa using this
 ·rw[e,e2];have occ:∀ j,eM ow j->Occ { mask,place:=((bQ mask ow).map (·.1)).toArray,dummies:=#[],finger,led,moves,plain } j:=fun j ⟨k,hk⟩=>by
   have hmem:=(eW L.sz).mpr hk;obtain⟨i,hi⟩:=List.getElem?_of_mem hmem;exact⟨i,by simp [hi]⟩
  refine⟨rfl,hm,by simp,Inc.of_get fun a b x y hab ha hb=>?_,fun i j hj=>?_,fun i h j hh hj=>?_⟩
  ·have ha:((bQ mask ow).map (·.1))[a]? =some x:=by simpa using ha
   have hb:((bQ mask ow).map (·.1))[b]? =some y:=by simpa using hb
   have hp:((bQ mask ow).map (·.1)).Pairwise (· < ·):=ED.mpr (oX mask ow);obtain⟨la,ea⟩:=DI.mp ha;obtain⟨lb,eb⟩:=DI.mp hb
   have:=List.pairwise_iff_getElem.mp hp a b la lb hab
   rw[ea,eb]at this;exact this
  ·have hj:((bQ mask ow).map (·.1))[i]? =some j:=by simpa using hj
   have:=Dw hj
   obtain⟨⟨j',k⟩,hm1,rfl⟩:=Dg.mp this;rw[eW L.sz]at hm1
   have:j'<ow.size:=(Ei.mp hm1).1
   show j'<=mask
   have:=L.sz
   lia
  ·have hj:((bQ mask ow).map (·.1))[i]? =some j:=by simpa using hj
   rw[Dq,Dy]at hj;obtain⟨⟨j',k⟩,hi,rfl⟩:=hj;rw[Du,Dq,hi]at hh;have hm1:=(eW L.sz).mp (Dw hi);obtain⟨h',e3,r⟩:=L.rch _ _ hm1
   have:h'=h:=by
    have hh:((es[k]?).getD (0,Value.none)).1=h:=by simpa using hh
    rw[<-hh];have e3:(es.toList.map (·.1))[k]? =some h':=by simpa using e3
    rw[Dq,Dy]at e3;obtain⟨p,e4,rfl⟩:=e3;have e4:es[k]? =some p:=by simpa using e4
    rw[e4];rfl
   subst this;exact r.mono occ
section
variable {prog:Program}{w:World}{K:Type} [DecidableEq K] {knd:KeyKind prog w K}{A:Around}{E:Value->Shared->Prop}{s:Shared}
theorem y6{ks:List K}{Q:Bool->Shared->Prop}(hk:IsTupleKey knd s.heap ks a)(h:∀ b,Q b s):wpAny (model prog w) A (hashByValue 8 (.ref a)) Q E s:=by
 have hT:=hk.typeIs;obtain⟨o,items,n,ho,_,hd,hi⟩:=hk;unfold hashByValue;refine De (wpAny_specialOf hT F.slot_tuple_hash.lookup ?_);dsimp only;refine De (wpAny_seqItems ho hd ?_);refine De ?_;show wpAny _ _ (forIn items _ _) _ _ s
 rw[<-Array.forIn_toList];refine wpAny_forIn_list _ (fun rest r s'=>s'=s/\∀ v∈rest,carriedByValue v=true) _ ?_ ?_ _ _ ⟨rfl,hi.byValue⟩
 ·rintro v rest r s' ⟨rfl,hall⟩;have hv:=hall v Dm;have hr:∀ v'∈rest,carriedByValue v'=true:=fun v' h'=>hall v' (Dr _ h')
  have e:∃ b,hashByValue 7 v=pure b:=by
   cases v <;> first|exact⟨_,rfl⟩|exact Bool.noConfusion hv
  obtain⟨b,eb⟩:=e;rw[eb];refine De (Df ?_);cases b
  ·simp only[Bool.not_false,if_true];exact Df (Df (h _))
  ·simp only[Fu,Dx,if_false];exact Df ⟨rfl,hr⟩
 ·rintro⟨r1,r2⟩ s' ⟨rfl,_⟩;cases r1
  ·exact Df (h _)
  ·exact Df (h _)
theorem qi{ks:List K}{Q:Bool->Shared->Prop}(hk:IsTupleKey knd s.heap ks a)(h:Q false s):wpAny (model prog w) A (ofAClassStatement 8 (.ref a)) Q E s:=by
 have hT:=hk.typeIs;obtain⟨o,items,n,ho,_,hd,hi⟩:=hk;unfold ofAClassStatement;refine De (wpAny_typeOf hT ?_);dsimp only;rw[if_pos (by decide)]
 refine De (Df ?_);simp only[Fu,Dx,if_false];refine De (wpAny_seqItems ho hd ?_);dsimp only;refine De ?_;rw[<-Array.forIn_toList];refine wpAny_forIn_list _ (fun rest r s'=>r.1=none/\s'=s/\∀ v∈rest,carriedByValue v=true) _ ?_ ?_ _ _ ⟨rfl,rfl,hi.byValue⟩
 ·rintro v rest r s' ⟨hr,rfl,hall⟩;have hv:=hall v Dm;have hr':∀ v'∈rest,carriedByValue v'=true:=fun v' h'=>hall v' (Dr _ h')
  have e:ofAClassStatement 7 v=pure false:=by
   cases v <;> first|rfl|exact Bool.noConfusion hv
  rw[e];refine De (Df ?_);simp only[Dx,if_false];exact Df ⟨rfl,rfl,hr'⟩
 ·rintro⟨r1,r2⟩ s' ⟨hr,rfl,_⟩
  simp only at hr
  subst hr;exact Df h
theorem Am{ks:List K}{Q:Bool->Shared->Prop}(hk:IsTupleKey knd s.heap ks a){ys:List Value}(hy:∀ y∈ys,∃ ks' b,y=.ref b/\IsTupleKey knd s.heap ks' b)(h:Q false s) :
  wpAny (model prog w) A (searchCouldBeSeen (.ref a) ys) Q E s:=by
 unfold searchCouldBeSeen;refine De ?_;refine wpAny_forIn_list _ (fun rest r s'=>r.1=none/\s'=s/\∀ y∈rest,∃ ks' b,y=.ref b/\IsTupleKey knd s.heap ks' b) _ ?_ ?_ _ _ ⟨rfl,rfl,hy⟩
 ·rintro v rest r s' ⟨hr,rfl,hall⟩;obtain⟨ks',b,rfl,hb⟩:=hall v Dm;have hr':=fun v' h'=>hall v' (Dr _ h')
  dsimp only
  by_cases q:(a==b||carriedByValue (.ref a)&&carriedByValue (.ref b))=true
  ·rw[if_pos q];exact Df ⟨rfl,rfl,hr'⟩
  ·rw[if_neg q];refine De (wpAny_eqIsQuiet_tuple hk ?_);simp only[Fu,Dx,if_false];refine De (wpAny_eqIsQuiet_tuple hb ?_);simp only[Fu,Dx,if_false];refine De (qi hk ?_);simp only[Dx,if_false];refine De (qi hb ?_);simp only[Dx,if_false];exact Df ⟨rfl,rfl,hr'⟩
 ·rintro⟨r1,r2⟩ s' ⟨hr,rfl,_⟩
  simp only at hr
  subst hr;exact Df h
noncomputable def hsh (es:Array (Int×Value))(i:Nat):Int:=(es[i]?.map (·.1)).getD 0
noncomputable def tI (knd:KeyKind prog w K)(h:Heap)(es:List (Int×Value)):Prop:=∀ e∈es,∃ ks b,e=(tupleKeyHash knd ks,.ref b)/\IsTupleKey knd h ks b
theorem xG{es:Array (Int×Value)}{t:SetTable}(ho:s.heap.get? a=some o)(hd:o.data=.set es ep t)(hf:t.fits es.size=true)(T:TOk t (es.toList.map (·.1)))(hent:tI knd s.heap es.toList){k:List K}{b0:Addr}(hk:IsTupleKey knd s.heap k b0)(hu:A.units<cLine){n0:Nat}(F:iQ t (bits (tupleKeyHash knd k)) n0){Q:SetFound->Shared->Prop}(h1:(∃ b,(tupleKeyHash knd k,Value.ref b)∈es.toList/\IsTupleKey knd s.heap k b)->Q (.there none) s)(h2:(∀ b,(tupleKeyHash knd k,Value.ref b)∈es.toList->¬ IsTupleKey knd s.heap k b)->Q (.free (st t.mask (bits (tupleKeyHash knd k)) n0).j false) s) :
  ∀(d n fuel:Nat) (stand:Option Probe),n+d=n0->d<fuel->stand.getD (t.probeStart (tupleKeyHash knd k))=st t.mask (bits (tupleKeyHash knd k)) n →
   (∀(m i:Nat) (b:Addr),m<n->t.place[i]? =some (st t.mask (bits (tupleKeyHash knd k)) m).j->es[i]? =some (tupleKeyHash knd k,Value.ref b)->¬ IsTupleKey knd s.heap k b) →
   wpAny (model prog w) A (setSearchFrom a (.ref b0) (tupleKeyHash knd k) true fuel stand) Q E s:=by
 intro d;induction d using Nat.strongRecOn with
 | ind d ih=>
  intro n fuel stand hn hfu hst hseen;cases fuel with
  | zero=>lia
  | succ f=>
   unfold setSearchFrom;refine De (EM ho hd hf ?_);dsimp only;have hodd:t.gaveWay=false:=by
    unfold SetTable.gaveWay;rcases T.siz with e|e|e <;> rw[e] <;> decide
   rw[hodd];simp only[Dx,if_false];rw[hst];have hlen:t.place.size=es.size:=by have:=T.len;simpa using this
   rcases lF T (hsh es) (tupleKeyHash knd k) F d n (10*turns t.mask) hn (by have:=F.lt;lia) with⟨g,no⟩|⟨m,i,m1,m2,m3,m4,g,no⟩
   ·have hp:t.probe (hsh es) (tupleKeyHash knd k) (st t.mask (bits (tupleKeyHash knd k)) n)=some (.empty (st t.mask (bits (tupleKeyHash knd k)) n0).j none):=g
    erw[hp]
    dsimp only;refine Df (h2 fun b hb hkb=>?_)
    obtain⟨i,hi⟩:=List.getElem?_of_mem hb;have hi:es[i]? =some (tupleKeyHash knd k,Value.ref b):=by simpa using hi
    have hil:i<es.size:=(Ei.mp hi).1;have hpl:t.place[i]? =some (t.place.getD i 0):=i4 (by lia)
    obtain⟨n',e1,e2⟩:=T.rch i (tupleKeyHash knd k) _ (by rw[Dq,DK,hi];rfl) hpl
    have hlt:n'<n0:=by
     rcases Nat.lt_trichotomy n' n0 with q|q|q
     ·exact q
     ·subst q;exact absurd ⟨i,by rw[e1];exact hpl⟩ F.no
     ·exact absurd (e2 n0 q) F.no
    by_cases q:n'<n
    ·exact hseen n' i b q (by rw[e1];exact hpl) hi hkb
    ·refine no n' i (by lia) hlt (by rw[e1];exact hpl) ?_
     unfold hsh;rw[hi];rfl
   ·have hp:t.probe (hsh es) (tupleKeyHash knd k) (st t.mask (bits (tupleKeyHash knd k)) n)=some (.candidate (st t.mask (bits (tupleKeyHash knd k)) m).j i (st t.mask (bits (tupleKeyHash knd k)) (m+1))):=g
    erw[hp]
    dsimp only;have hil:i<es.size:=by rw[<-hlen];exact(Ei.mp m3).1
    obtain⟨e,he⟩:∃ e,es[i]? =some e:=⟨_,DY hil⟩;obtain⟨ks,b,rfl,hkb⟩:=hent e (by rw[<-DK]at he;exact Dw he)
    have eh:tupleKeyHash knd ks=tupleKeyHash knd k:=by
     unfold hsh at m4;rw[he]at m4;exact m4
    have go:wpAny (model prog w) A (do
      let some (_,y):=es[i]? | unsupported "internal:set-entry"
      let equal <-holding [y] (eqBool y (.ref b0))
      let (es',_,t') <-setState a
      if true&&equal then return .there none
      let some same:=t'.sameMemory t.moves t.mask|unsupported "set.changed-during-lookup:is-the-new-block-at-the-old-address"
      let still <-match (if same then t'.slot (st t.mask (bits (tupleKeyHash knd k)) m).j else .empty) with
       | .live i'=>match es'[i']? with
        | some (_,y')=>do pure (if <-isSame y' y then some i' else none)
        | none=>pure none
       | _=>pure none
      match still with
      | none=>rule "set.search.anew";setSearchFrom a (.ref b0) (tupleKeyHash knd k) true f none
      | some i'=>if equal then return .there (some i') else setSearchFrom a (.ref b0) (tupleKeyHash knd k) true f (some (st t.mask (bits (tupleKeyHash knd k)) (m+1)))) Q E s:=by
     rw[he];dsimp only;refine De (Ew (wpAny_eqBool_tuple hu hkb hk ?_));refine De (EM ho hd hf ?_);dsimp only
     by_cases q:ks=k
     ·subst q;simp only[decide_true,Bool.and_true,if_true];refine Df (h1 ⟨b,?_,hkb⟩);rw[<-DK]at he;exact Dw he
     ·rw[DT q];simp only[Fp,Dx,if_false];have hsm:t.sameMemory t.moves t.mask=some true:=by unfold SetTable.sameMemory;simp
      rw[hsm];dsimp only;simp only[if_true];rw[og T.inc m3];dsimp only;rw[he];dsimp only;refine De (wpAny_isSame_ref_self (De (Df ?_)));simp only[if_true];refine ih (n0-(m+1)) (by lia) (m+1) f _ (by lia) (by lia) rfl fun m' i' b' hm' hp' he'=>?_
      by_cases q1:m'<n
      ·exact hseen m' i' b' q1 hp' he'
      ·by_cases q2:m'=m
       ·subst q2
        have:=T.inc.inj m3 hp'
        subst this;rw[he]at he';have eb:b=b':=by
         have z:=congrArg Prod.snd (DL he');exact Value.ref.inj z
        subst eb;intro z;exact q (hkb.inj z)
       ·intro _;refine no m' i' (by lia) (by lia) hp' ?_
        unfold hsh;rw[he'];rfl
    by_cases hl:t.led=true
    ·rw[hl];simp only[Fu,Dx,if_false];exact go
    ·have hl:t.led=false:=by simpa using hl
     rw[hl];simp only[Bool.not_false,if_true];refine De (Am hk (fun y hy=>?_) ?_)
     ·obtain⟨p,hp1,rfl⟩:=Dg.mp hy;have hp1:p∈es.toList:=by
       have:=hp1
       simp at this;simpa using this.1
      obtain⟨ks',b',rfl,hb'⟩:=hent p hp1;exact⟨ks',b',rfl,hb'⟩
     ·simp only[Dx,if_false];exact go
theorem pE(mask b:Nat):∀ n,(st mask b n).j+(st mask b n).more<=mask
 | 0=>by
  show b%(mask+1)+(runEnd mask (b%(mask+1))-b%(mask+1))<=mask
  have:b%(mask+1)<mask+1:=Nat.mod_lt b (Nat.succ_pos mask)
  unfold runEnd
  split <;> lia
 | n+1=>by
  have h:=pE mask b n
  show(adv mask (st mask b n)).j+(adv mask (st mask b n)).more<=mask
  unfold adv
  split
  ·dsimp only;lia
  ·dsimp only;have h2:(leap mask (st mask b n).i (st mask b n).perturb).1<mask+1:=by
    unfold leap;exact Nat.mod_lt _ (Nat.succ_pos mask)
   unfold runEnd
   split <;> lia
theorem ql(mask b n:Nat):(st mask b n).j<=mask:=by have:=pE mask b n;lia
theorem TOk.fits{t:SetTable}{es:Array (Int×Value)}(T:TOk t (es.toList.map (·.1)))(hr:es.size<=t.mask):t.fits es.size=true:=by
 unfold SetTable.fits SetTable.fill
 have:=T.len
 rw[Dd,DJ]at this;rw[T.dm,this]
 simp [hr]
noncomputable def kP (knd:KeyKind prog w K)(h:Heap)(a:Addr)(led:Bool)(xs:List (List K×Addr)):Prop:=
 ∃ o es ep t,h.get? a=some o/\o.ExactSet/\o.data=.set es ep t/\TOk t (es.toList.map (·.1))/\es.size*5<t.mask*3/\t.led=led/\es.toList=xs.map (fun p=>(tupleKeyHash knd p.1,Value.ref p.2)) ∧
  (xs.map (·.1)).Nodup/\∀ p∈xs,IsTupleKey knd h p.1 p.2
theorem IsTupleKey.AD{ks:List K}{d:Addr} {es ep t}(x:IsTupleKey knd h ks a)(ho:h.get? d=some o)(hd:o.data=.set es ep t)(hs:Heap.SameBut d h h'):IsTupleKey knd h' ks a:=by
 obtain⟨o',items,n,ho',hc,hd',hi⟩:=x;have hne:a≠d:=by
  rintro rfl;obtain rfl:o'=o:=DL (ho'.symm.trans ho);rw[hd]at hd';exact nomatch hd'
 exact⟨o',items,n,(hs.2 a hne).trans ho',hc,hd',hi⟩
theorem qV{α:Type}{l:List α}{x:α}(h:l.Nodup)(hx:x∉l):(l++[x]).Nodup:=by
 rw[List.nodup_append];exact⟨h,by simp,fun a ha b hb=>by rw[Dj]at hb;subst hb;intro z;subst z;exact hx ha⟩
theorem rO{es:Array (Int×Value)}{t:SetTable}(ho:s.heap.get? a=some o)(hex:o.ExactSet)(hd:o.data=.set es ep t){xs:List (List K×Addr)}(hx:∀ p∈xs,IsTupleKey knd s.heap p.1 p.2){es':Array (Int×Value)}{t':SetTable}(T:TOk t' (es'.toList.map (·.1)))(hs:es'.toList=xs.map (fun p=>(tupleKeyHash knd p.1,Value.ref p.2)))(hl:xs.length<=100){Q:Unit->Shared->Prop}(h:∀ h',Heap.SameBut a s.heap h'->h'.get? a=some { o with data:=.set es' (ep+1) t' }->(∀ p∈xs,IsTupleKey knd h' p.1 p.2)->Q () { s with heap:=h' }) :
  wpAny (model prog w) A (storeSet a es' t') Q E s:=by
 have hsz:es'.size=xs.length:=by rw[<-DJ,hs,Dd]
 refine wpAny_storeSet_of ho hd (h _ (Heap.SameBut.update s.heap a (Obj.putSet es' t')) ?_ fun p hp=>IsTupleKey.AD (hx p hp) ho hd (Heap.SameBut.update s.heap a (Obj.putSet es' t'))) (by rw[hsz,DV];lia)
 have:=Heap.get?_update_self (Obj.putSet es' t') ho (by rw[putSet_of es' t' hd];rfl)
 rw[putSet_of es' t' hd]at this;exact this
theorem fW{α β:Type}{f:α->β}:∀{l:List β}{xs:List α},l.Perm (xs.map f)->∃ ys:List α,ys.Perm xs/\l=ys.map f
 | [],xs,h=>⟨[],by
   have:=h.length_eq
   rw[Dd]at this
   have:xs=[]:=EC.mp this.symm
   rw[this],rfl⟩
 | y::l,xs,h=>by
  have hy:y∈xs.map f:=h.mem_iff.mp (Dm ..);obtain⟨x,hx,rfl⟩:=Dg.mp hy;obtain⟨s,t,rfl⟩:=List.append_of_mem hx;have h2:l.Perm ((s++t).map f):=by
   have e:((s++x::t).map f).Perm (f x::(s++t).map f):=by
    rw[Dn,Dk,Dn];exact List.perm_middle
   exact(h.trans e).cons_inv
  obtain⟨ys,h3,rfl⟩:=fW h2;exact⟨x::ys,(h3.cons x).trans List.perm_middle.symm,rfl⟩
theorem vf{led:Bool}{xs:List (List K×Addr)}{k:List K}{b0:Addr}(hS:kP knd s.heap a led xs)(hk:IsTupleKey knd s.heap k b0)(hu:A.units<cLine)(hl:xs.length<=60){Q:Bool->Shared->Prop}(h:∀ h' xs' r,Heap.SameBut a s.heap h'->kP knd h' a led xs'->xs'.Perm (if k∈xs.map (·.1) then xs else xs++[(k,b0)])->Q r { s with heap:=h' }) :
  wpAny (model prog w) A (setAddHashed a (.ref b0) (tupleKeyHash knd k)) Q E s:=by
 obtain⟨o,es,ep,t,ho,hex,hd,T,hroom,hled,hes,hnd,hkeys⟩:=id hS;have hsz:es.size=xs.length:=by rw[<-DJ,hes,Dd]
 have hle:es.size<=t.mask:=by lia
 have hf:=T.fits hle;have hent:tI knd s.heap es.toList:=fun e he=>by
  rw[hes]at he;obtain⟨p,hp,rfl⟩:=Dg.mp he;exact⟨p.1,p.2,rfl,hkeys p hp⟩
 obtain⟨n0,F⟩:=T.free (by rw[Dd,DJ];exact hle) (kM (tupleKeyHash knd k))
 have eS:s={ s with heap:=s.heap }:=by cases s;rfl
 unfold setAddHashed setAddHashedIn;refine Ew (De (EM ho hd hf ?_));dsimp only;have hby:byScan (.ref b0) es=false:=by unfold byScan;rfl
 rw[hby];simp only[Dx,if_false];refine De ?_;unfold setSearch;refine xG ho hd hf T hent hk hu F ?_ ?_ n0 0 100000 none (by lia) (by have:=F.lt;unfold turns at this;rcases T.siz with e|e|e <;> rw[e]at this <;> lia) rfl (fun m i b hm=>absurd hm (Fq _))
 ·rintro⟨b,hb,hkb⟩;dsimp only;refine Df ?_;rw[eS];refine h s.heap xs _ (Heap.SameBut.refl a s.heap) hS ?_;rw[hes]at hb;obtain⟨p,hp,ep'⟩:=Dg.mp hb;have e2:p.2=b:=by injection ep' with _ z;injection z
  have e1:p.1=k:=(hkeys p hp).inj (e2▸hkb);rw[if_pos (Dg.mpr ⟨p,hp,e1⟩)]
 ·intro hno;dsimp only;have hnk:k∉xs.map (·.1):=fun hm=>by
   obtain⟨p,hp,rfl⟩:=Dg.mp hm;exact hno p.2 (by rw[hes];exact Dg.mpr ⟨p,hp,rfl⟩) (hkeys p hp)
  refine De (EM ho hd hf ?_);dsimp only;generalize hj:(st t.mask (bits (tupleKeyHash knd k)) n0).j=j at *;have hTp:TOk (t.put j).1 ((insertAt es (t.put j).2 (tupleKeyHash knd k,Value.ref b0)).toList.map (·.1)):=by
   have:=T.put F (ql _ _ _)
   rw[hj]at this;rw[gU,Dn,Dk,List.map_take,List.map_drop];exact this
  have hput:t.put j=((t.put j).1,(t.put j).2):=rfl;have hpl:(t.put j).2<=es.size:=by
   have:=(fi T.inc j).1
   have h2:=T.len;rw[Dd,DJ]at h2;rw[jF];lia
  have hmk:(t.put j).1.mask=t.mask:=rfl;have hlk:(t.put j).1.led=led:=hled;generalize (t.put j).1=t1 at *;generalize (t.put j).2=p at *;have hxs:(insertAt es p (tupleKeyHash knd k,Value.ref b0)).toList=(xs.take p++(k,b0)::xs.drop p).map (fun p=>(tupleKeyHash knd p.1,Value.ref p.2)):=by
   rw[gU,hes,Dn,Dk,List.map_take,List.map_drop]
  have hperm:(xs.take p++(k,b0)::xs.drop p).Perm (xs++[(k,b0)]):=by
   refine List.perm_middle.trans ?_;rw[Em]
   exact(List.perm_append_comm (l₁:=[(k,b0)]) (l₂:=xs))
  have hndp:((xs++[(k,b0)]).map (·.1)).Nodup:=by
   rw[Dn];exact qV hnd hnk
  have hkp:∀ q∈xs++[(k,b0)],IsTupleKey knd s.heap q.1 q.2:=fun q hq=>by
   rcases Dp.mp hq with hq|hq
   ·exact hkeys q hq
   ·rw[Dj]at hq;subst hq;exact hk
  have hlp:(xs++[(k,b0)]).length<=61:=by rw[Dl,D7];lia
  generalize xs.take p++(k,b0)::xs.drop p=xs1 at *;have hsz1:(insertAt es p (tupleKeyHash knd k,Value.ref b0)).size=xs.length+1:=by rw[kH _ _ _ hpl,hsz]
  generalize insertAt es p (tupleKeyHash knd k,Value.ref b0)=es1 at *;have hl1:xs1.length<=61:=by rw[hperm.length_eq];exact hlp
  have hnd1:(xs1.map (·.1)).Nodup:=(hperm.map (·.1)).nodup_iff.mpr hndp;have hk1:∀ q∈xs1,IsTupleKey knd s.heap q.1 q.2:=fun q hq=>hkp q (hperm.mem_iff.mp hq)
  have tail:∀(t2:SetTable),t2.mask=t.mask->t2.led=led->TOk t2 (es1.toList.map (·.1))->wpAny (model prog w) A (do
    storeSet a es1 t2
    if !false&&t2.tooFull then setRelay a (SetTable.grown (es.size+1))
    return true) Q E s:=fun t2 hm2 hl2 T2=>by
   refine De (rO ho hex hd hk1 T2 hxs (by lia) fun h1 hsb1 hg1 hkk1=>?_)
   have hfill:t2.fill=xs.length+1:=by
    unfold SetTable.fill
    have:=T2.len
    rw[Dd,DJ]at this;rw[T2.dm,this,hsz1];rfl
   by_cases hfull:t2.tooFull=true
   ·rw[hfull];simp only[Bool.not_false,Bool.and_self,if_true];refine De ?_;unfold setRelay;have hle1:es1.size<=t2.mask:=by lia
    refine De (EM hg1 rfl (T2.fits hle1) ?_);dsimp only;obtain⟨M,hM1,hM2,hM3⟩:∃ M,SetTable.sizeAbove (SetTable.grown (es.size+1))=M+1/\cC M/\(xs.length+1)*5<M*3:=by
     unfold SetTable.tooFull at hfull;have hfull:=DX hfull;rw[hfill,hm2]at hfull;have hs7:SetTable.sizeAbove (SetTable.grown 5)=32:=by decide +kernel
     have hs31:SetTable.sizeAbove (SetTable.grown 19)=128:=by decide +kernel
     rcases T.siz with e|e|e
     ·rw[e]at hfull hroom
      have:es.size=4:=by lia
      exact⟨31,by rw[this];exact hs7,.inr (.inl rfl),by lia⟩
     ·rw[e]at hfull hroom
      have:es.size=18:=by lia
      exact⟨127,by rw[this];exact hs31,.inr (.inr rfl),by lia⟩
     ·rw[e]at hfull hroom;lia
    rw[hM1];have hline:¬ (M+1 > sizeLine):=by rw[DV];rcases hM2 with e|e|e <;> rw[e] <;> decide
    rw[if_neg hline];obtain⟨t3,order,hlaid,hmask3,hled3,_,hperm3,T3⟩:=pH hM2 t2.finger (t2.movedTo M) t2.led t2.plain es1 (by lia)
    have hrel:t2.relaid (es1.map (·.1)) (SetTable.grown (es.size+1))=some (t3,order):=by
     unfold SetTable.relaid;rw[hM1];exact hlaid
    rw[hrel];have hsz3:(order.filterMap (es1[·]?)).size=es1.size:=by rw[<-DJ,hperm3.length_eq,DJ]
    show wpAny (model prog w) A ((do
      if (order.filterMap (es1[·]?)).size !=es1.size then unsupported "internal:set-table-lost-an-element"
      pure (order.filterMap (es1[·]?),t3)) >>= fun x=>storeSet a x.1 x.2) _ E _
    rw[hsz3];simp only[bne_self_eq_false,Dx,if_false];refine De (De (Df (Df ?_)));dsimp only;generalize order.filterMap (es1[·]?)=es3 at *;obtain⟨xs3,hp3,he3⟩:∃ xs3:List (List K×Addr),xs3.Perm xs1/\es3.toList=xs3.map (fun p=>(tupleKeyHash knd p.1,Value.ref p.2)):=by
     rw[hxs]at hperm3;exact fW hperm3
    refine rO (s:={ s with heap:=h1 }) (es:=es1) (t:=t2) (ep:=ep+1) hg1 hex rfl (fun q hq=>hkk1 q (hp3.mem_iff.mp hq)) T3 he3 (by rw[hp3.length_eq];lia) fun h2 hsb2 hg2 hkk2=>?_
    refine Df (h h2 xs3 _ (hsb1.trans hsb2) ⟨_,es3,_,t3,hg2,hex,rfl,T3,?_,hled3.trans hl2,he3,(hp3.map (·.1)).nodup_iff.mpr hnd1,hkk2⟩ ?_)
    ·rw[hsz3,hsz1,hmask3];exact hM3
    ·rw[if_neg hnk];exact hp3.trans hperm
   ·have hfull:t2.tooFull=false:=by simpa using hfull
    rw[hfull];simp only[Bool.not_false,Fp,Dx,if_false];refine Df (h h1 xs1 _ hsb1 ⟨_,es1,_,t2,hg1,hex,rfl,T2,?_,hl2,hxs,hnd1,hkk1⟩ ?_)
    ·unfold SetTable.tooFull at hfull;have hfull:=of_decide_eq_false hfull;rw[hfill]at hfull;rw[hsz1];lia
    ·rw[if_neg hnk];exact hperm
  by_cases hpl1:t1.plain=true
  ·rw[hpl1];simp only[if_true];refine De (y6 hk fun bv=>?_)
   cases bv
   ·simp only[Dx,if_false];exact tail { t1 with plain:=false } hmk hlk ⟨hTp.dm,hTp.siz,hTp.len,hTp.inc,hTp.le,hTp.rch⟩
   ·simp only[if_true];exact tail t1 hmk hlk hTp
  ·have hpl1:t1.plain=false:=by simpa using hpl1
   rw[hpl1];simp only[Dx,if_false];refine De (Df ?_);simp only[if_true];exact tail t1 hmk hlk hTp
noncomputable def nV (knd:KeyKind prog w K)(h:Heap)(a:Addr)(led:Bool)(xs:List (K×Value)):Prop:=
 ∃ o es ep t,h.get? a=some o/\o.ExactSet/\o.data=.set es ep t/\TOk t (es.toList.map (·.1))/\es.size*5<t.mask*3/\t.led=led/\es.toList=xs.map (fun p=>(knd.hash p.1,p.2)) ∧
  (xs.map (·.1)).Nodup/\∀ p∈xs,knd.is p.1 p.2=true/\p.2.scannable=true
theorem rg{es:Array (Int×Value)}{t:SetTable}(ho:s.heap.get? a=some o)(hd:o.data=.set es ep t){es':Array (Int×Value)}{t':SetTable}(hl:es'.size<=100){Q:Unit->Shared->Prop}(h:∀ h',Heap.SameBut a s.heap h'->h'.get? a=some { o with data:=.set es' (ep+1) t' }->Q () { s with heap:=h' }) :
  wpAny (model prog w) A (storeSet a es' t') Q E s:=by
 refine wpAny_storeSet_of ho hd (h _ (Heap.SameBut.update s.heap a (Obj.putSet es' t')) ?_) (by rw[DV];lia)
 have:=Heap.get?_update_self (Obj.putSet es' t') ho (by rw[putSet_of es' t' hd];rfl)
 rw[putSet_of es' t' hd]at this;exact this
theorem Ar{led:Bool}{xs:List (K×Value)}{k:K}(hS:nV knd s.heap a led xs)(hk:knd.is k v=true)(hsc:v.scannable=true)(hl:xs.length<=60){Q:Bool->Shared->Prop}(h:∀ h' xs' r,Heap.SameBut a s.heap h'->nV knd h' a led xs'->xs'.Perm (if k∈xs.map (·.1) then xs else xs++[(k,v)])->Q r { s with heap:=h' }) :
  wpAny (model prog w) A (setAddHashed a v (knd.hash k)) Q E s:=by
 obtain⟨o,es,ep,t,ho,hex,hd,T,hroom,hled,hes,hnd,hkeys⟩:=id hS;have hsz:es.size=xs.length:=by rw[<-DJ,hes,Dd]
 have hle:es.size<=t.mask:=by lia
 have hf:=T.fits hle;have hel:ElemsOf knd es.toList:=fun e he=>by
  rw[hes]at he;obtain⟨p,hp,rfl⟩:=Dg.mp he;exact⟨⟨p.1,(hkeys p hp).1,rfl⟩,(hkeys p hp).2⟩
 have eS:s={ s with heap:=s.heap }:=by cases s;rfl
 unfold setAddHashed setAddHashedIn;refine Ew (De (EM ho hd hf ?_));dsimp only;rw[byScan_of hsc (by unfold scanBound;lia) hel]
 simp only[↓reduceIte];unfold setAddByScan;refine De ?_;refine De (Fg ?_);refine De (wpAny_setScan_of hk ho hd hf hel ?_);cases hr:List.findIdx? (fun e=>knd.is k e.2) es.toList with
 | some j=>
  dsimp only;obtain⟨hj,hpj,_⟩:=List.findIdx?_eq_some_iff_getElem.mp hr;have hm:k∈xs.map (·.1):=by
   have hmem:=List.getElem_mem hj;generalize es.toList[j]=x at hmem hpj;rw[hes]at hmem;obtain⟨p,hp,rfl⟩:=Dg.mp hmem;exact Dg.mpr ⟨p,hp,knd.inj _ _ _ (hkeys p hp).1 hpj⟩
  refine Df (Df ?_);rw[eS];refine h s.heap xs _ (Heap.SameBut.refl a s.heap) hS ?_;rw[if_pos hm]
 | none=>
  dsimp only;have hnk:k∉xs.map (·.1):=fun hm=>by
   obtain⟨p,hp,rfl⟩:=Dg.mp hm
   have:=List.findIdx?_eq_none_iff.mp hr (knd.hash p.1,p.2) (by rw[hes];exact Dg.mpr ⟨p,hp,rfl⟩)
   rw[(hkeys p hp).1]at this;exact Bool.noConfusion this
  have hgw:∀(b:Bool) {s₁:Shared} {Q':Unit->Shared->Prop},Q' () s₁->wpAny (model prog w) A (match b with|true=>rule "set.scan.the-table-gave-way" | false=>pure ()) Q' E s₁:=
   fun b s₁ Q' hq=>by cases b <;> first|exact Df hq|exact Fg hq
  obtain⟨n0,F⟩:=T.free (by rw[Dd,DJ];exact hle) (kM (knd.hash k))
  have hfree:t.freeSlot (knd.hash k)=some ((st t.mask (bits (knd.hash k)) n0).j,false):=by
   unfold SetTable.freeSlot;have hp:t.probe (fun _=>knd.hash k+1) (knd.hash k) (t.probeStart (knd.hash k))=some (.empty (st t.mask (bits (knd.hash k)) n0).j none):=by
    rcases lF T (fun _=>knd.hash k+1) (knd.hash k) F n0 0 (10*turns t.mask) (by lia) (by have:=F.lt;lia) with⟨g,_⟩|⟨_,_,_,_,_,m4,_⟩
    ·exact g
    ·exact absurd m4 (by lia)
   rw[hp];rfl
  generalize hj:(st t.mask (bits (knd.hash k)) n0).j=j at *;have hTp:TOk (t.put j).1 ((insertAt es (t.put j).2 (knd.hash k,v)).toList.map (·.1)):=by
   have:=T.put F (ql _ _ _)
   rw[hj]at this;rw[gU,Dn,Dk,List.map_take,List.map_drop];exact this
  have hpl:(t.put j).2<=es.size:=by
   have:=(fi T.inc j).1
   have h2:=T.len;rw[Dd,DJ]at h2;rw[jF];lia
  have hmk:(t.put j).1.mask=t.mask:=rfl;have hlk:(t.put j).1.led=led:=hled;have hsz1:(insertAt es (t.put j).2 (knd.hash k,v)).size=xs.length+1:=by rw[kH _ _ _ hpl,hsz]
  have hfit1:(t.put j).1.fits (insertAt es (t.put j).2 (knd.hash k,v)).size=true:=hTp.fits (by rw[hsz1,hmk];lia)
  have hlay:layNew t es (knd.hash k) v=(insertAt es (t.put j).2 (knd.hash k,v),(t.put j).1,false,false):=by
   unfold layNew;rw[hfree];dsimp only;unfold SetTable.orStandIn;rw[hfit1];rfl
  rw[hlay];dsimp only;generalize (t.put j).1=t1 at *;generalize (t.put j).2=p at *;have hxs:(insertAt es p (knd.hash k,v)).toList=(xs.take p++(k,v)::xs.drop p).map (fun p=>(knd.hash p.1,p.2)):=by
   rw[gU,hes,Dn,Dk,List.map_take,List.map_drop]
  have hperm:(xs.take p++(k,v)::xs.drop p).Perm (xs++[(k,v)]):=by
   refine List.perm_middle.trans ?_;rw[Em]
   exact(List.perm_append_comm (l₁:=[(k,v)]) (l₂:=xs))
  have hndp:((xs++[(k,v)]).map (·.1)).Nodup:=by
   rw[Dn];exact qV hnd hnk
  have hkp:∀ q∈xs++[(k,v)],knd.is q.1 q.2=true/\q.2.scannable=true:=fun q hq=>by
   rcases Dp.mp hq with hq|hq
   ·exact hkeys q hq
   ·rw[Dj]at hq;subst hq;exact⟨hk,hsc⟩
  generalize xs.take p++(k,v)::xs.drop p=xs1 at *;generalize insertAt es p (knd.hash k,v)=es1 at *;have hnd1:(xs1.map (·.1)).Nodup:=(hperm.map (·.1)).nodup_iff.mpr hndp;have hk1:∀ q∈xs1,knd.is q.1 q.2=true/\q.2.scannable=true:=fun q hq=>hkp q (hperm.mem_iff.mp hq)
  refine De (hgw false ?_);have tail:∀(t2:SetTable),t2.mask=t.mask->t2.led=led->TOk t2 (es1.toList.map (·.1))->∀(gv:Bool->Sem Unit),(∀(b:Bool) (s₁:Shared) (Q':Unit->Shared->Prop),Q' () s₁->wpAny (model prog w) A (gv b) Q' E s₁)->wpAny (model prog w) A (do
    storeSet a es1 t2
    if (!false&&t2.tooFull)=true then do
      gv (relayAll t2 es1 (SetTable.grown es1.size)).2.2
      storeSet a (relayAll t2 es1 (SetTable.grown es1.size)).1 (relayAll t2 es1 (SetTable.grown es1.size)).2.1
      pure (some true)
     else pure (some true)) (fun r s'=>wpAny (model prog w) A (match r with|some added=>pure added|none=>setAddHashedIn a v (knd.hash k) 99999) Q E s') E s:=fun t2 hm2 hl2 T2 gv hgv=>by
   refine De (rg ho hd (by lia) fun h1 hsb1 hg1=>?_)
   have hfill:t2.fill=xs.length+1:=by
    unfold SetTable.fill
    have:=T2.len
    rw[Dd,DJ]at this;rw[T2.dm,this,hsz1];rfl
   by_cases hfull:t2.tooFull=true
   ·rw[hfull];simp only[Bool.not_false,Bool.and_self,if_true];obtain⟨M,hM1,hM2,hM3⟩:∃ M,SetTable.sizeAbove (SetTable.grown es1.size)=M+1/\cC M/\(xs.length+1)*5<M*3:=by
     unfold SetTable.tooFull at hfull;have hfull:=DX hfull;rw[hfill,hm2]at hfull;have hs7:SetTable.sizeAbove (SetTable.grown 5)=32:=by decide +kernel
     have hs31:SetTable.sizeAbove (SetTable.grown 19)=128:=by decide +kernel
     rcases T.siz with e|e|e
     ·rw[e]at hfull hroom
      have:es1.size=5:=by lia
      exact⟨31,by rw[this];exact hs7,.inr (.inl rfl),by lia⟩
     ·rw[e]at hfull hroom
      have:es1.size=19:=by lia
      exact⟨127,by rw[this];exact hs31,.inr (.inr rfl),by lia⟩
     ·rw[e]at hfull hroom;lia
    obtain⟨t3,order,hlaid,hmask3,hled3,hord,hperm3,T3⟩:=pH hM2 t2.finger (t2.movedTo M) t2.led t2.plain es1 (by lia)
    have hrel:t2.relaid (es1.map (·.1)) (SetTable.grown es1.size)=some (t3,order):=by
     unfold SetTable.relaid;rw[hM1];exact hlaid
    have hsz3:(order.filterMap (es1[·]?)).size=es1.size:=by rw[<-DJ,hperm3.length_eq,DJ]
    have hra:relayAll t2 es1 (SetTable.grown es1.size)=(order.filterMap (es1[·]?),t3,false):=by
     unfold relayAll;rw[hrel];dsimp only;have hc:coversAll order es1.size=true:=by
      unfold coversAll;exact List.isPerm_iff.mpr hord
     have hft:t3.fits (order.filterMap (es1[·]?)).size=true:=T3.fits (by rw[hsz3,hmask3];lia)
     rw[hc,hft];rfl
    rw[hra];dsimp only;refine De (hgv _ _ _ ?_);generalize order.filterMap (es1[·]?)=es3 at *;obtain⟨xs3,hp3,he3⟩:∃ xs3:List (K×Value),xs3.Perm xs1/\es3.toList=xs3.map (fun p=>(knd.hash p.1,p.2)):=by
     rw[hxs]at hperm3;exact fW hperm3
    refine De (rg (s:={ s with heap:=h1 }) (es:=es1) (t:=t2) (ep:=ep+1) hg1 rfl (by lia) fun h2 hsb2 hg2=>?_)
    refine Df (Df (h h2 xs3 _ (hsb1.trans hsb2) ⟨_,es3,_,t3,hg2,hex,rfl,T3,?_,hled3.trans hl2,he3,(hp3.map (·.1)).nodup_iff.mpr hnd1,fun q hq=>hk1 q (hp3.mem_iff.mp hq)⟩ ?_))
    ·rw[hsz3,hsz1,hmask3];exact hM3
    ·rw[if_neg hnk];exact hp3.trans hperm
   ·have hfull:t2.tooFull=false:=by simpa using hfull
    rw[hfull];simp only[Bool.not_false,Fp,Dx,if_false];refine Df (Df (h h1 xs1 _ hsb1 ⟨_,es1,_,t2,hg1,hex,rfl,T2,?_,hl2,hxs,hnd1,hk1⟩ ?_))
    ·unfold SetTable.tooFull at hfull;have hfull:=of_decide_eq_false hfull;rw[hfill]at hfull;rw[hsz1];lia
    ·rw[if_neg hnk];exact hperm
  split
  ·refine De ?_;rw[hashByValue_scannable 8 hsc];refine Df ?_
   split
   ·exact tail t1 hmk hlk hTp _ (fun b s₁ Q' hq=>by cases b <;> first|exact Df hq|exact Fg hq)
   ·exact tail { t1 with plain:=false } hmk hlk ⟨hTp.dm,hTp.siz,hTp.len,hTp.inc,hTp.le,hTp.rch⟩ _ (fun b s₁ Q' hq=>by cases b <;> first|exact Df hq|exact Fg hq)
  ·refine De (Df ?_);simp only[↓reduceIte];exact tail t1 hmk hlk hTp _ (fun b s₁ Q' hq=>by cases b <;> first|exact Df hq|exact Fg hq)
end
section
variable {prog:Program}{w:World}{A:Around}{R:Result->Shared->Prop}{I:Addr}{fp wr:List Addr}{G:Array GenState->Array GenState->Prop}{n:Nat}{P:Nat->Value->Prop}{St:Nat->Shared->Prop}
theorem BG(W:WalksS prog w A.in1 I fp wr G n P St)(S:Addr)(hSf:S∉fp)(J:Nat->Heap->Prop)(keep:∀ i h h',J i h->(∀ b o,b∉wr->h.get? b=some o->h'.get? b=some o)->J i h')(step:∀(i:Nat)(v:Value)(s:Shared)(Q:Bool->Shared->Prop)(E:Value->Shared->Prop),i<n->P i v->J i s.heap →
   (∀ h' tk r,Heap.SameBut S s.heap h'->s.toks<=tk->J (i+1) h'->Q r { s with heap:=h',toks:=tk })->wpAny (model prog w) A.in1 (setAdd S v) Q E s) :
  ∀(k i:Nat) (s:Shared),n-i=k->i<=n->St i s->J i s.heap →
   (∀ s',Moved (S::wr) G s s'->J n s'.heap->R (.ok (.ret .none)) s') →
   codeAny (model prog w) A (.builtin "set.update.loop" ⟨[.ref S,.ref I],[]⟩) R s:=by
 have hsub:∀ b∈wr,b∈S::wr:=fun b hb=>Dr _ hb
 intro k;induction k with
 | zero=>
  intro i s hk hi hst hJ hR;obtain rfl:i=n:=by lia
  refine codeAny_builtin PyProof.Rows.F.entry_set_update_loop ?_;rw[Around.under_plainId PyProof.Rows.F.plain_set_update_loop _];show wpAny _ A.in1 (pyNext (.ref I) >>= _) _ _ s
  refine De (W.done s _ _ hst fun s' hm=>?_)
  show wpAny _ A.in1 (ret Value.none) _ _ s'
  exact Df (hR s' (hm.mono hsub) (keep _ _ _ hJ fun b o hb e=>hm.heap b o hb e))
 | succ k ih=>
  intro i s hk hi hst hJ hR;have hlt:i<n:=by lia
  refine codeAny_builtin PyProof.Rows.F.entry_set_update_loop ?_;rw[Around.under_plainId PyProof.Rows.F.plain_set_update_loop _];show wpAny _ A.in1 (pyNext (.ref I) >>= _) _ _ s
  refine De (W.item i s _ _ hlt hst fun v s' hP hst' hm=>?_)
  have hJ':J i s'.heap:=keep _ _ _ hJ fun b o hb e=>hm.heap b o hb e
  show wpAny _ A.in1 (holding [v] (setAdd S v) >>= _) _ _ s'
  refine De (Ew (step i v s' _ _ hlt hP hJ' fun h' tk r hsb htk hJ2=>?_))
  refine Df ⟨plainId_quiet PyProof.Rows.F.plain_set_update_loop _,ih (i+1) _ (by lia) hlt (W.frame _ s' _ _ hst' htk fun b hb o e=>?_) hJ2 fun s'' hm'' hJ''=>?_⟩
  ·rw[hsb.2 b (fun z:b=S=>hSf (by rw[<-z];exact hb))];exact e
  ·refine hR s'' (Moved.trans W.gtrans ((hm.mono hsub).then_heap htk fun b o hb e=>?_) hm'') hJ''
   rw[hsb.2 b (fun z:b=S=>hb (by rw[z];exact Dm))];exact e
end
noncomputable def cJ (led:Bool):Obj:={ cls:=.type "set",dict:=none,data:=.set #[] 0 (.fresh 0 0 led) }
noncomputable def bU (w:World):Bool:=!(w.params.followText "set-order")
section
variable {prog:Program}{w:World}{A:Around}{E:Value->Shared->Prop}{s:Shared}
theorem Az(a:Value){Q₁:Value->Shared->Prop}(h:Q₁ (.ref s.heap.objs.size) { s with heap:=s.heap.push (cJ (bU w)) }) :
  codeAny (model prog w) A (.call (.builtin "set.__new__") ⟨[.type "set",a],[]⟩) (wants Q₁ E) s:=by
 refine codeAny_of_tree ?_;show wpAny _ A.in1 (do checkBuiltinCall "set.__new__" ⟨[.type "set",a],[]⟩;again (.builtin "set.__new__" ⟨[.type "set",a],[]⟩)) _ _ s
 refine De (wpAny_of_eq (F.newCall_set_1 a) (Df ⟨plainId_quiet F.plain_set_new _,codeAny_builtin F.entry_set_new ?_⟩));rw[Around.under_plainId F.plain_set_new _];unfold Builtin.«set.__new__» Builtin.Frozenset.newClass;have hsub:=sub_set_self;obtain⟨hp,g,d,tk,os⟩:=s;dsimp only
 wp_walk
 refine wpAny_askSetting (Df ?_);dsimp only;simp only[newObj];refine De (wpAny_alloc (Df ?_));exact Df h
set_option maxRecDepth 100000 in
set_option maxHeartbeats 3200000 in
theorem oa(hh:A.handled=none)(hl:s.heap.IsList l items)(J:Nat->Heap->Prop)(start:∀ h':Heap,h'.get? s.heap.objs.size=some (cJ (bU w))->(∀ b o,s.heap.get? b=some o->h'.get? b=some o)->J 0 h')(keep:∀ i h h',J i h->(∀ b o,b≠s.heap.objs.size+1->h.get? b=some o->h'.get? b=some o)->J i h')(step:∀(i:Nat)(v:Value)(A':Around)(s':Shared)(Q:Bool->Shared->Prop)(E:Value->Shared->Prop),A'.units<=A.units+8->items[i]? =some v->J i s'.heap →
   (∀ h' tk r,Heap.SameBut s.heap.objs.size s'.heap h'->s'.toks<=tk->J (i+1) h'->Q r { s' with heap:=h',toks:=tk })->wpAny (model prog w) A' (setAdd s.heap.objs.size v) Q E s') (h:∀(h':Heap) (tk:Nat),J items.size h'->(∀ b o,s.heap.get? b=some o->h'.get? b=some o)->Q (.ref s.heap.objs.size) { s with heap:=h',toks:=tk }) :
  wpAny (model prog w) A (call (.type "set") [.ref l]) Q E s:=by
 obtain⟨c,tl,hmro⟩:=F.called_set.mro;have hmade:=F.called_set.made;have hsub:=F.called_set.sub;refine wpAny_call (codeAny_of_tree ?_);show wpAny _ _ (callAny (.type "set") _) _ _ _
 refine Df ⟨Code.quiet_builtin _ (by decide +kernel),codeAny_builtin F.entry_type_call ?_⟩
 rw[Around.under_plain (weight_type_call_type "set" [.ref l] []) rfl]
 have h1:=F.called_set.notType;have h2:=F.called_set.canCreate;have hct:=F.typeCall_set_1 (.ref l)
 repeat (any_goals (first|assumption|wp_step))
 refine codeAny_mono (Az (.ref l) (E:=E) (Q₁:=fun obj s₁=>obj=.ref s.heap.objs.size/\s₁={ s with heap:=s.heap.push (cJ (bU w)) }) ⟨rfl,rfl⟩) fun r s₁ hr=>?_
 cases r with
 | error e=>exact hr
 | ok fl=>
  cases fl with
  | ret obj=>
   obtain⟨rfl,rfl⟩:=hr;have hS:(s.heap.push (cJ (bU w))).get? s.heap.objs.size=some (cJ (bU w)):=DE _ rfl;have hT:Shared.TypeIs { s with heap:=s.heap.push (cJ (bU w)) } (.ref s.heap.objs.size) "set":=⟨_,hS,rfl⟩
   have hli:=F.called_set.init.lookup;have hbi:=F.called_set.init.bind (.ref s.heap.objs.size)
   repeat (any_goals (first|assumption|wp_step))
   refine codeAny_mono (codeAny_call_builtin (R:=wants (fun r s₂=>r=.none/\∃ h' tk,s₂={ s with heap:=h',toks:=tk }/\J items.size h'/\(∀ b o,s.heap.get? b=some o->h'.get? b=some o)) E)
    F.called_set.init.plain F.entry_set_init (check_set_init_1 hT ?_)) fun r₂ s₂ hr₂=>?_
   ·obtain⟨ol,hol,hcl,nl,hdl⟩:=hl;obtain⟨ocls,odict,odata,oslots⟩:=ol
    simp only at hcl hdl
    subst hcl;subst hdl
    have hol':(s.heap.push (cJ (bU w))).get? l=some { cls:=.type "list",dict:=odict,data:=.seq items nl,slots:=oslots }:=Dh _ hol
    have hsls:=F.sub_list_set;have hslf:=F.sub_list_frozenset;have hne:(Value.type "list"==Value.type "dict")=false:=by decide
    have hl1:(s.heap.push (cJ (bU w))).IsList l items:=⟨_,hol',rfl,nl,rfl⟩;unfold Builtin.«set.__init__» noKeywords Builtin.Frozenset.updateFrom;generalize hPI:pyIter=PI
    wp_walk
    subst hPI;refine wpAny_pyIter_list hl1 ?_;refine De (wpAny_runValue ?_);have hlS:l<s.heap.objs.size:=Dz hol;have hh3:A.in1.in1.in1.handled=none:=by simp [hh]
    have hsz:(s.heap.push (cJ (bU w))).objs.size=s.heap.objs.size+1:=E6 ..;have hneI:l≠(s.heap.push (cJ (bU w))).objs.size:=by rw[hsz];exact DO (Nat.lt_succ_of_lt hlS)
    have hSf:s.heap.objs.size∉[(s.heap.push (cJ (bU w))).objs.size,l]:=by
     rw[hsz];simp only[DG,List.not_mem_nil,or_false,not_or]
     exact⟨DO (Fw _),Fs hlS⟩
    have hgS:((s.heap.push (cJ (bU w))).push { cls:=.type "list_iterator",data:=.fields #[.ref l,.int 0 0] }).get? s.heap.objs.size=some (cJ (bU w)):=Dh _ hS
    refine BG ((Walks.list hh3 _ l hneI items).toS) s.heap.objs.size hSf J (fun i h h' hJ hk=>keep i h h' hJ fun b o hb e=>hk b o (by rw[hsz];simpa using hb) e)
     (fun i v s' Q' E' _ hP hJ k=>step i v _ s' Q' E' (by simp) hP hJ k) (items.size-0) 0 _ (by lia) (DZ _)
     ⟨⟨_,DE _ rfl,rfl,rfl⟩,(hl1.push _)⟩ (start _ hgS fun b o e=>Dh _ (Dh _ e)) ?hR
    case hR=>
     intro s' hm hS';obtain⟨h',g',d',tk',os'⟩:=s';have eg:g'=s.gens:=hm.gens;have ed:d'=s.drawn:=hm.drawn;have eo:os'=s.os:=hm.os;subst eg;subst ed;subst eo
     show wpAny _ _ _ _ _ _
     refine Df ?_;show wpAny _ _ (ret Value.none) _ _ _
     refine Df ⟨rfl,h',tk',rfl,hS',fun b o e=>?_⟩
     have hb:b<s.heap.objs.size:=Dz e;exact hm.heap b o (by rw[hsz];simp only[DG,List.not_mem_nil,or_false,not_or];exact⟨DO hb,DO (Nat.lt_succ_of_lt hb)⟩) (Dh _ (Dh _ e))
   ·cases r₂ with
    | error e=>exact hr₂
    | ok fl₂=>
     cases fl₂ with
     | ret r=>
      obtain⟨rfl,h',tk,rfl,hS',hk'⟩:=hr₂
      repeat (any_goals (first|assumption|wp_step))
      exact h _ _ hS' hk'
     | _=>exact hr₂.elim
  | _=>exact hr.elim
end
theorem fV:Slot "set_iterator" "__next__" "set_iterator.__next__":=
 .of (owner:="set_iterator") (n:="__next__") (by rw[typeLookup_type,builtinLookup_eq_fast];kernel_rfl) (by decide +kernel) (by decide +kernel) (by decide +kernel)
  (by first|exact .inl (by decide +kernel)|exact .inr (by decide +kernel)) (by rw[isSubtype_type];kernel_rfl)
theorem tH:Slot "set_iterator" "__iter__" "set_iterator.__iter__":=
 .of (owner:="set_iterator") (n:="__iter__") (by rw[typeLookup_type,builtinLookup_eq_fast];kernel_rfl) (by decide +kernel) (by decide +kernel) (by decide +kernel)
  (by first|exact .inl (by decide +kernel)|exact .inr (by decide +kernel)) (by rw[isSubtype_type];kernel_rfl)
theorem pj:entryFor table "set_iterator.__next__" = some Builtin.«set_iterator.__next__»:=entryFor_of_tree (by kernel_rfl)
theorem uA:entryFor table "set_iterator.__iter__" = some Builtin.«dict_keyiterator.__iter__»:=
 entryFor_alias (id':="dict_keyiterator.__iter__") (by kernel_rfl) rfl (by decide +kernel) (by kernel_rfl)
theorem vL(a:Value):argsOk "set_iterator.__iter__" ⟨[a],[]⟩:=by unfold argsOk;kernel_rfl
theorem oj(a:Value):argsOk "set_iterator.__next__" ⟨[a],[]⟩:=by unfold argsOk;kernel_rfl
theorem Bi:entryFor table "set.__iter__" = some Builtin.«frozenset.__iter__»:=
 entryFor_alias (id':="frozenset.__iter__") (by kernel_rfl) rfl (by decide +kernel) (by kernel_rfl)
theorem qr{α:Type}{l:List α}(h:i<l.length):(l[i]::l.eraseIdx i).Perm l:=by
 rw[List.eraseIdx_eq_take_drop_succ];refine List.perm_middle.symm.trans (List.Perm.of_eq ?_);rw[<-Er h,Em]
theorem sC{α:Type}(next:Nat->Nat):∀(fuel k:Nat)(left:List α)(out:Array α),left.length=fuel->(pickOrder.go next fuel k left out).toList.Perm (out.toList++left)
 | 0,k,left,out,h=>by
  have e:left=[]:=EC.mp h;subst e;unfold pickOrder.go
  simp
 | fuel+1,k,left,out,h=>by
  unfold pickOrder.go;have hlt:next k%left.length<left.length:=Nat.mod_lt _ (by lia)
  rw[Dv hlt];dsimp only;refine(sC next fuel (k+1) _ _ (by rw[List.length_eraseIdx_of_lt hlt];lia)).trans ?_
  rw[Array.toList_push,Ed];refine List.Perm.append_left _ ?_
  exact(qr hlt)
theorem wN{α:Type}(next:Nat->Nat)(xs:Array α):(pickOrder next xs).toList.Perm xs.toList:=by
 have:=sC next xs.size 0 xs.toList #[] (by simp)
 unfold pickOrder;simpa using this
section
variable {prog:Program}{w:World}{A:Around}{E:Value->Shared->Prop}
theorem wp_choose{src:Source}{Q:Nat->Shared->Prop}(hn:n≠0)(h:∀ i d,i<n->Q i { s with drawn:=d }):wpAny (model prog w) A (choose src n) Q E s:=fun Γ p hΓ=>by
 show n≠0/\_
 exact⟨hn,h _ _ (Nat.mod_lt _ (Nat.pos_of_ne_zero hn))⟩
theorem tT{α:Type}:∀(n:Nat)(xs:List α)(s:Shared)(Q:List α->Shared->Prop),xs.length=n->(∀ ys d,ys.Perm xs->Q ys { s with drawn:=d })->wpAny (model prog w) A (drawOrder n xs) Q E s
 | 0,xs,s,Q,hl,h=>by
  have e:xs=[]:=EC.mp hl;subst e;unfold drawOrder;exact Df (h [] s.drawn (List.Perm.refl _))
 | n+1,[],s,Q,hl,h=>by simp at hl
 | n+1,x::xs,s,Q,hl,h=>by
  unfold drawOrder;refine De (wp_choose (by simp) fun i d hi=>?_)
  rw[Dv hi];dsimp only;refine De (tT n _ _ _ (by rw[List.length_eraseIdx_of_lt hi];simp at hl ⊢;lia) fun ys d' hp=>?_)
  refine Df (h _ d' ?_)
  exact(hp.cons _).trans (qr hi)
theorem sub_set_set:isSubtype (.type "set") (.type "set")=pure true:=sub_set_self
structure bG (w:World)(h:Heap)(a:Addr)(o:Obj)(es:Array (Int×Value))(ep:Nat)(t:SetTable):Prop where
 ho:h.get? a=some o
 ex:o.ExactSet
 hd:o.data=.set es ep t
 T:TOk t (es.toList.map (·.1))
 room:es.size<=t.mask
 led:t.led=bU w
theorem bG.keep{es:Array (Int×Value)}{t:SetTable}(S:bG w h a o es ep t)(k:∀ o,h.get? a=some o->h'.get? a=some o):bG w h' a o es ep t:=
 ⟨k _ S.ho,S.ex,S.hd,S.T,S.room,S.led⟩
theorem bG.fits{es:Array (Int×Value)}{t:SetTable}(S:bG w h a o es ep t):t.fits es.size=true:=S.T.fits S.room
noncomputable def gk (first:Value)(i:Nat)(a:Addr)(n ep:Nat):Obj:={ cls:=.type "set_iterator",data:=.fields #[first,.int i 0,.ref a,.int n 0,.int ep 0] }
noncomputable def cy (w:World)(h:Heap)(a tp:Addr)(es:Array (Int×Value))(ep:Nat)(t:SetTable)(ord:Array Value)(i:Nat)(first:Value):Prop:=
 (w.params.followText "set-order" = true/\(∃ k:Nat,first=.int k 0)/\ord=(pickOrder (w.params.setOrder a ep) es).map (·.2)) ∨
 (w.params.followText "set-order" = false/\(!t.plain&&decide (es.size > 1))=false/\(∃ k:Nat,first=.int k 0/\below t.place k=i)/\ord=es.map (·.2)) ∨
 (∃(πs:List Nat) (c:Nat),first=.ref tp/\tp≠a/\πs.Perm (List.range es.size)/\h.get? tp=some { cls:=.type "tuple",data:=.seq (πs.map fun(i:Nat)=>rawInt i).toArray c }/\ord=(πs.filterMap fun i=>es[i]?.map (·.2)).toArray)
theorem Ak{xs:Array Nat}(inc:Inc xs):below xs 0=0:=by
 obtain⟨h1,h2,_⟩:=fi inc 0;rcases Nat.eq_zero_or_pos (below xs 0) with h|h
 ·exact h
 ·exact absurd (h2 0 h) (Fq _)
theorem AW{xs:Array Nat}(inc:Inc xs)(h:xs[i]? =some j):below xs (j+1)=i+1:=by
 obtain⟨h1,h2,h3⟩:=fi inc (j+1);have hi:i<xs.size:=(Ei.mp h).1;have e:=eR h;rcases Nat.lt_trichotomy (below xs (j+1)) (i+1) with q|q|q
 ·have a1:=h3 i (by lia) hi
  lia
 ·exact q
 ·have:=h2 (i+1) q
  have a2:=inc i (i+1) (by lia) (by lia)
  lia
theorem xc{es:Array (Int×Value)}{t:SetTable}(S:bG w s.heap a o es ep t)(h:∀(h':Heap)(d:Drawn)(it tp:Addr)(ord:Array Value)(first:Value),ord.toList.Perm (es.toList.map (·.2))->s.heap.objs.size<=it->(∀ b o,s.heap.get? b=some o->h'.get? b=some o)->h'.get? it=some (gk first 0 a es.size ep) →
   cy w h' a tp es ep t ord 0 first->tp≠it->(tp=a\/s.heap.objs.size<=tp)->Q (.ref it) { s with heap:=h',drawn:=d }) (hn:es.size<=100):wpAny (model prog w) A (pyIter (.ref a)) Q E s:=by
 have hT:s.TypeIs (.ref a) "set":=⟨o,S.ho,S.ex.1⟩
 refine wpAny_pyIter_slot hT F.slot_set_iter (EB F.slot_set_iter hT Bi ?_ (F.args_set_iter_1 _));unfold Builtin.«frozenset.__iter__» Builtin.Frozenset.slot0 slotArgs;simp only[List.isEmpty_nil,Fu,Dx,↓reduceIte,bind_assoc,E8,bne_self_eq_false];unfold Builtin.Frozenset.addrOf Builtin.Frozenset.sizeOf;refine De (Df ?_)
 try dsimp only
 refine De (Df ?_);refine De (De (wpAny_setEntries_of S.ho S.hd S.fits (Df ?_)));unfold setDrawn setsByText;refine De (De (EM S.ho S.hd S.fits (De (De (wpAny_askSetting (Df (Df ?_)))))));have fin:∀(s1:Shared) (first:Value) (tp:Addr) (ord:Array Value),bG w s1.heap a o es ep t->s.heap.objs.size<=s1.heap.objs.size->(∀ b o,s.heap.get? b=some o->s1.heap.get? b=some o)->(∃ h' d,s1={ s with heap:=h',drawn:=d })->ord.toList.Perm (es.toList.map (·.2)) →
   cy w s1.heap a tp es ep t ord 0 first->tp<s1.heap.objs.size->(tp=a\/s.heap.objs.size<=tp)->wpAny (model prog w) A.in1 (do
    let e <-setEpoch a
    let r <-newFields "set_iterator" [first,rawInt 0,.ref a,rawInt es.size,rawInt e]
    ret r) (fun fin s'=>∃ r,fin=.done (.ret r)/\∃ T' r',s'.TypeIs r T'/\typeLookup (.type T') "__next__" = pure (some r')/\Q r s') E s1:=by
  rintro s1 first tp ord S1 hsz keep ⟨h',d,rfl⟩ hp hst htp htq;refine De (wpAny_setEpoch_of S1.ho S1.hd S1.fits ?_);refine De (EN ?_);refine Df ⟨_,rfl,"set_iterator",_,⟨_,DE _ rfl,rfl⟩,fV.lookup,?_⟩
  refine h _ d _ tp ord first hp hsz (fun b o e=>Dh _ (keep b o e)) (DE _ rfl) ?_ (DO htp) htq
  rcases hst with x|x|⟨πs,c,x1,x2,x3,x4,x5⟩
  ·exact .inl x
  ·exact .inr (.inl x)
  ·exact .inr (.inr ⟨πs,c,x1,x2,x3,Dh _ x4,x5⟩)
 have es0:s={ s with heap:=s.heap,drawn:=s.drawn }:=by cases s;rfl
 split
 ·rename_i hdr
  have hdr:(!w.params.followText "set-order"&&(!t.plain&&decide (es.size > 1)))=true:=hdr
  refine De (tT es.size (List.range es.size) s _ (by simp) fun πs d hp=>?_)
  refine De (EN ?_ (by show((πs.map fun(i:Nat)=>rawInt i).toArray).size<=sizeLine;rw[D8,Dd,hp.length_eq,Ef,DV];lia))
  refine fin _ _ s.heap.objs.size (πs.filterMap fun i=>es[i]?.map (·.2)).toArray (S.keep fun o e=>Dh _ e) (by rw[E6];exact Nat.le_succ _) (fun b o e=>Dh _ e) ⟨_,d,rfl⟩ ?_ (.inr (.inr ⟨πs,0,rfl,Fs (Dz S.ho),hp,DE _ rfl,rfl⟩)) (by rw[E6];exact Fw _) (.inr (Di _))
  have h1:=hp.filterMap (fun i=>es[i]?.map (·.2))
  refine(show(πs.filterMap fun i=>es[i]?.map (·.2)).toArray.toList.Perm _ from ?_)
  refine h1.trans (List.Perm.of_eq ?_);have h2:=kg (es.toList.map (·.2));rw[Dd,DJ]at h2;refine Eq.trans ?_ h2;congr 1;funext i
  simp
 ·rename_i hdr
  have hdr:¬ (!w.params.followText "set-order"&&(!t.plain&&decide (es.size > 1)))=true:=hdr
  refine De (Df ?_);cases hb:w.params.followText "set-order" with
  | true=>exact fin s _ a _ S (Di _) (fun _ _ e=>e) ⟨s.heap,s.drawn,es0⟩ (by rw[Array.toList_map];exact(wN _ es).map _) (.inl ⟨hb,⟨0,rfl⟩,rfl⟩) (Dz S.ho) (.inl rfl)
  | false=>
   rw[hb]at hdr;refine fin s _ a _ S (Di _) (fun _ _ e=>e) ⟨s.heap,s.drawn,es0⟩ (by rw[Array.toList_map]) (.inr (.inl ⟨hb,by simpa using hdr,⟨0,rfl,Ak S.T.inc⟩,rfl⟩)) (Dz S.ho) (.inl rfl)
theorem qY{tp:Addr}{es:Array (Int×Value)}{t:SetTable}{k:Nat}(S:bG w s.heap a o es ep t)(st:cy w s.heap a tp es ep t ord i (.int k 0)){Q:Option (Value×Nat)->Shared->Prop}(h1:∀ x k',ord[i]? =some x->cy w s.heap a tp es ep t ord (i+1) (.int (k':Nat) 0)->Q (some (x,k')) s)(h2:ord[i]? =none->Q none s):wpAny (model prog w) A (setNext a k i ep) Q E s:=by
 unfold setNext setsByText;refine De (EM S.ho S.hd S.fits ?_);dsimp only;refine De (De (wpAny_askSetting (Df ?_)));rcases st with⟨e1,⟨k',e2⟩,e3⟩|⟨e1,e2,⟨k',e3,e4⟩,e5⟩|⟨πs,c,e1,_⟩
 ·have e1':(model prog w).w.params.followText "set-order" = true:=e1
  rw[e1'];simp only[if_true,bne_self_eq_false,Dx,if_false];unfold setWalk setsByText;refine De (De (EM S.ho S.hd S.fits ?_));dsimp only;refine De (De (wpAny_askSetting (Df ?_)));rw[e1'];simp only[if_true];refine De (wpAny_askSetting (Df ?_));have eo:ord[i]? = ((pickOrder (w.params.setOrder a ep) es)[i]?).map (·.2):=by rw[e3,Array.getElem?_map]
  show wpAny (model prog w) A (pure (((pickOrder (w.params.setOrder a ep) es)[i]?).map fun e=>(e.2,k))) Q E s
  cases q:(pickOrder (w.params.setOrder a ep) es)[i]? with
  | none=>
   rw[q]at eo;exact Df (h2 eo)
  | some e=>
   rw[q]at eo;exact Df (h1 e.2 k eo (.inl ⟨e1,⟨k,rfl⟩,e3⟩))
 ·have e1':(model prog w).w.params.followText "set-order" = false:=e1
  rw[e1'];simp only[Dx,if_false];obtain rfl:k=k':=by
   have:=e3
   simp only[Value.int.injEq,Int.natCast_inj,and_true]at this;exact this
  split
  ·rename_i q
   have q:(!t.plain&&decide (es.size > 1))=true:=q;rw[e2]at q;exact Bool.noConfusion q
  ·have hl:t.led=true:=by rw[S.led];unfold bU;rw[e1];rfl
   have hm:∀{β:Type} (f:Unit->Sem β) (Q':β->Shared->Prop),wpAny (model prog w) A (f ()) Q' E s->wpAny (model prog w) A ((do if (!t.led&&!es.isEmpty)=true then unsupported "set:maker-not-led") >>= f) Q' E s:=fun f Q' hf=>by
    rw[hl];exact De (Df hf)
   refine hm _ _ ?_;rw[e4];have hlen:t.place.size=es.size:=by have:=S.T.len;simpa using this
   have eo:ord[i]? = (es[i]?).map (·.2):=by rw[e5,Array.getElem?_map]
   by_cases hi:i<es.size
   ·have q1:es[i]? =some es[i]:=DY hi;have q2:t.place[i]? =some (t.place.getD i 0):=i4 (by lia)
    rw[q1]at eo;rw[q1,q2];exact Df (h1 _ _ eo (.inr (.inl ⟨e1,e2,⟨_,rfl,AW S.T.inc q2⟩,e5⟩)))
   ·have q1:es[i]? =none:=EZ.mpr (by lia)
    rw[q1]at eo;rw[q1];exact Df (h2 eo)
 ·cases e1
theorem cy.keep{tp:Addr}{es:Array (Int×Value)}{t:SetTable}{first:Value}(x:cy w h a tp es ep t ord i first)(k:∀ o,h.get? tp=some o->h'.get? tp=some o):cy w h' a tp es ep t ord i first:=by
 rcases x with x|x|⟨πs,c,x1,x2,x3,x4,x5⟩
 ·exact .inl x
 ·exact .inr (.inl x)
 ·exact .inr (.inr ⟨πs,c,x1,x2,x3,k _ x4,x5⟩)
theorem cy.drawn{tp:Addr}{es:Array (Int×Value)}{t:SetTable}{first:Value}(x:cy w h a tp es ep t ord i first) :
  (∃ k:Nat,first=.int k 0)\/∃(πs:List Nat) (c:Nat),first=.ref tp/\tp≠a/\πs.Perm (List.range es.size)/\h.get? tp=some { cls:=.type "tuple",data:=.seq (πs.map fun(i:Nat)=>rawInt i).toArray c }/\ord=(πs.filterMap fun i=>es[i]?.map (·.2)).toArray:=by
 rcases x with⟨_,⟨k,x⟩,_⟩|⟨_,_,⟨k,x,_⟩,_⟩|x
 ·exact .inl ⟨k,x⟩
 ·exact .inl ⟨k,x⟩
 ·exact .inr x
theorem oM{es:Array (Int×Value)}{πs:List Nat}(hp:πs.Perm (List.range es.size))(i:Nat):(πs.filterMap fun i=>es[i]?.map (·.2)).toArray[i]? = (πs[i]?).bind fun j=>es[j]?.map (·.2):=by
 have hall:∀ j∈πs,j<es.size:=fun j hj=>Eh.mp (hp.mem_iff.mp hj)
 have e:(πs.filterMap fun i=>es[i]?.map (·.2))=πs.map fun j=>((es[j]?).getD (0,Value.none)).2:=nC fun j hj=>by
  rw[DY (hall j hj)];rfl
 rw[e];simp only[List.getElem?_toArray,Dq];cases q:πs[i]? with
 | none=>rfl
 | some j=>
  have hj:=hall j (Dw q);simp only[Option.map_some,Option.bind_some];rw[DY hj];rfl
theorem zV{tp:Addr}{es:Array (Int×Value)}{t:SetTable}{first x:Value}(S:bG w s.heap a o es ep t)(hit:s.heap.get? it=some (gk first i a es.size ep))(st:cy w s.heap a tp es ep t ord i first)(htp:tp≠it)(hx:ord[i]? =some x){Q:Option Value->Shared->Prop}(h:∀ h' first',Heap.SameBut it s.heap h'->h'.get? it=some (gk first' (i+1) a es.size ep)->cy w h' a tp es ep t ord (i+1) first'->Q (some x) { s with heap:=h' }) :
  wpAny (model prog w) A (pyNext (.ref it)) Q E s:=by
 have hT:s.TypeIs (.ref it) "set_iterator":=⟨_,hit,rfl⟩
 unfold pyNext;refine De (wpAny_attempt (wpAny_callSpecial?_slot (name:=Str.ofString "__next__") hT fV (EB fV hT pj ?_ (oj _))))
 unfold Builtin.«set_iterator.__next__» slotArgs;simp only[List.isEmpty_nil,Fu,Dx,↓reduceIte,bind_assoc,E8,bne_self_eq_false];refine De (Df ?_)
 try dsimp only
 refine De (wpAny_fieldsOf hit rfl ?_);dsimp only;refine De (wpAny_setEntries_of S.ho S.hd S.fits ?_);simp only[bne_self_eq_false,Dx,if_false];rcases st.drawn with⟨k,rfl⟩|⟨πs,c,rfl,e2,e3,e4,e5⟩
 ·dsimp only;refine De ?_;show wpAny (model prog w) A.in1 (setNext a k i ep) _ _ s
  refine qY S st (fun x' k' hx' st'=>?_) (fun hn=>by rw[hx]at hn;cases hn)
  obtain rfl:x=x':=by rw[hx]at hx';exact DL hx'
  dsimp only;refine De (Fd (vs:=#[.int k 0,.int i 0,.ref a,.int es.size 0,.int ep 0]) hit (by simp) fun h1 hg1 hs1=>?_)
  refine De (Fd hg1 (by simp) fun h2 hg2 hs2=>?_)
  refine Df ⟨_,rfl,Df ?_⟩;exact h h2 (.int k' 0) (hs1.trans hs2) hg2 (st'.keep fun o e=>(hs2.2 tp htp).trans ((hs1.2 tp htp).trans e))
 ·dsimp only;refine De (wpAny_seqItems e4 rfl ?_);dsimp only;have hx':=hx;rw[e5,oM e3]at hx';have hpl:(πs.map fun(i:Nat)=>rawInt i).toArray[(i:Int).toNat]? = (πs[i]?).map fun(i:Nat)=>rawInt i:=by simp
  rw[hpl];cases q:πs[i]? with
  | none=>rw[q]at hx';cases hx'
  | some j=>
   rw[q]at hx';dsimp only[Option.map_some,rawInt];have hx2:es[j]?.map (·.2)=some x:=hx';refine De ?_;unfold setNextDrawn;refine De (EM S.ho S.hd S.fits ?_);dsimp only;simp only[Int.toNat_natCast,bne_self_eq_false,Dx,if_false];cases q2:es[j]? with
   | none=>rw[q2]at hx2;cases hx2
   | some e=>
    rw[q2]at hx2;obtain rfl:e.2=x:=DL hx2;dsimp only;refine Df ?_;refine De (Fd (vs:=#[.ref tp,.int i 0,.ref a,.int es.size 0,.int ep 0]) hit (by simp) fun h1 hg1 hs1=>?_)
    refine Df ⟨_,rfl,Df ?_⟩;exact h h1 (.ref tp) hs1 hg1 (.inr (.inr ⟨πs,c,rfl,e2,e3,(hs1.2 tp htp).trans e4,e5⟩))
theorem uW{tp:Addr}{es:Array (Int×Value)}{t:SetTable}{first:Value}(hh:A.handled=none)(S:bG w s.heap a o es ep t)(hit:s.heap.get? it=some (gk first i a es.size ep))(st:cy w s.heap a tp es ep t ord i first)(hx:ord[i]? =none){Q:Option Value->Shared->Prop}(h:∀ h',Heap.ExtBut it s.heap h'->Q none { s with heap:=h' }) :
  wpAny (model prog w) A (pyNext (.ref it)) Q E s:=by
 have hT:s.TypeIs (.ref it) "set_iterator":=⟨_,hit,rfl⟩
 unfold pyNext;refine De (wpAny_attempt (wpAny_callSpecial?_slot (name:=Str.ofString "__next__") hT fV (EB fV hT pj ?_ (oj _))))
 unfold Builtin.«set_iterator.__next__» slotArgs;simp only[List.isEmpty_nil,Fu,Dx,↓reduceIte,bind_assoc,E8,bne_self_eq_false];refine De (Df ?_)
 try dsimp only
 refine De (wpAny_fieldsOf hit rfl ?_);dsimp only;refine De (wpAny_setEntries_of S.ho S.hd S.fits ?_);simp only[bne_self_eq_false,Dx,if_false];have stop:∀(h1:Heap),Heap.ExtBut it s.heap h1->wpAny (model prog w) A.in1 (do
   let e <-newExc (.type "StopIteration") []
   raiseNew e) (fun fin s'=>∃ v,fin=Fin.done (Flow.ret v)/\wpAny (model prog w) A (pure (some v)) Q E s')
   (fun e s'=>wpAny (model prog w) A (do if <-isInstance e (.type "StopIteration") then pure none else throw e) Q E s') { s with heap:=h1 }:=fun h1 hx1=>by
  refine De ?_;simp only[newExc,newTuple];refine De (EN ?_ (by size_fits))
  refine De (m:=firstArgMember _ _) (wpAny_of_eq (a:=Value.none) (by first|rfl|(simp only[firstArgMember];rfl)) ?_)
  refine EN ?_ (by size_fits)
  simp only[raiseNew];refine De (wpAny_handled ?_);rw[show A.in1.handled=none from hh]
  refine De (Df (wpAny_throw ?_));refine De (wpAny_isInstance (T:="StopIteration") (b:=true) ⟨_,DE _ rfl,rfl⟩ isSubtype_stop ?_)
  exact Df (h _ ((hx1.push _).push _))
 rcases st.drawn with⟨k,rfl⟩|⟨πs,c,rfl,e2,e3,e4,e5⟩
 ·dsimp only;refine De ?_;show wpAny (model prog w) A.in1 (setNext a k i ep) _ _ s
  refine qY S st (fun x' k' hx' st'=>by rw[hx]at hx';cases hx') (fun hn=>?_)
  dsimp only;refine De (Fd (vs:=#[.int k 0,.int i 0,.ref a,.int es.size 0,.int ep 0]) hit (by simp) fun h1 hg1 hs1=>?_)
  exact stop h1 hs1.extBut
 ·dsimp only;refine De (wpAny_seqItems e4 rfl ?_);dsimp only;have hx':=hx;rw[e5,oM e3]at hx';have hpl:(πs.map fun(i:Nat)=>rawInt i).toArray[(i:Int).toNat]? = (πs[i]?).map fun(i:Nat)=>rawInt i:=by simp
  rw[hpl];cases q:πs[i]? with
  | some j=>
   rw[q]at hx';have hj:j<es.size:=Eh.mp (e3.mem_iff.mp (Dw q));have hx2:es[j]?.map (·.2)=none:=hx';rw[DY hj]at hx2;cases hx2
  | none=>
   dsimp only[Option.map_none];refine De (Fd (vs:=#[.ref tp,.int i 0,.ref a,.int es.size 0,.int ep 0]) hit (by simp) fun h1 hg1 hs1=>?_)
   refine De (Fd hg1 (by simp) fun h2 hg2 hs2=>?_)
   exact stop h2 (hs1.trans hs2).extBut
theorem nF{es:Array (Int×Value)}(hp:ord.toList.Perm (es.toList.map (·.2))):ord.size=es.size:=by
 have:=hp.length_eq
 simpa using this
theorem Bb{tp:Addr}{es:Array (Int×Value)}{t:SetTable}(hh:A.handled=none)(htp:tp≠it)(ha:a≠it)(hp:ord.toList.Perm (es.toList.map (·.2))) :
  Walks prog w A it [it,a,tp] [it] es.size (fun i v=>ord[i]? =some v) (fun i h=>bG w h a o es ep t/\∃ first,h.get? it=some (gk first i a es.size ep)/\cy w h a tp es ep t ord i first) where
 sub:=fun b hb=>by simp at hb;simp [hb]
 frame:=fun _ _ _ st hk=>let ⟨S,first,hit,sd⟩:=st;⟨S.keep fun o e=>hk a (by simp) o e,first,hk it (by simp) _ hit,sd.keep fun o e=>hk tp (by simp) o e⟩
 item:=fun i s Q E hi st hQ=>by
  obtain⟨S,first,hit,sd⟩:=st;have hx:ord[i]? =some (ord[i]'(by rw[nF hp];exact hi)):=DY _
  refine zV S hit sd htp hx fun h' first' hs hit' sd'=>?_
  exact hQ _ h' s.toks hx ⟨S.keep fun o e=>(hs.2 a ha).trans e,first',hit',sd'⟩ fun b o hb e=>(hs.2 b (fun z=>hb (by simp [z]))).trans e
 done:=fun s Q E st hQ=>by
  obtain⟨S,first,hit,sd⟩:=st;have hx:ord[es.size]? =none:=EZ.mpr (by rw[nF hp];exact Di _)
  exact uW hh S hit sd hx fun h' he=>hQ h' s.toks fun b o hb e=>he b o (fun z=>hb (by simp [z])) e
 self:=fun i s Q E st hQ=>by
  obtain⟨S,first,hit,sd⟩:=st;have hT:s.TypeIs (.ref it) "set_iterator":=⟨_,hit,rfl⟩
  refine wpAny_pyIter_slot hT tH (EB tH hT uA ?_ (vL _));show wpAny _ _ (ret (.ref it)) _ _ s
  exact Df ⟨_,rfl,"set_iterator",_,hT,fV.lookup,hQ⟩
theorem uH{es:Array (Int×Value)}{t:SetTable}(hh:A.handled=none)(S:bG w s.heap a o es ep t)(hn:es.size<=100){Q:List Value->Shared->Prop}(h:∀(h':Heap)(d:Drawn)(tk:Nat)(vs:List Value),vs.Perm (es.toList.map (·.2))->(∀ b o,s.heap.get? b=some o->h'.get? b=some o)->s.heap.objs.size<=h'.objs.size->Q vs { s with heap:=h',drawn:=d,toks:=tk }) :
  wpAny (model prog w) A (collect (.ref a)) Q E s:=by
 have hT:s.TypeIs (.ref a) "set":=⟨o,S.ho,S.ex.1⟩
 have haz:a<s.heap.objs.size:=Dz S.ho;unfold collect;refine De (wpAny_runValue (codeAny_builtin F.entry_proto_collect ?_));rw[Around.under_plainId F.plain_proto_collect _];show wpAny _ A.in1 (newList [] >>= fun l=>again (.builtin "list.__iadd__" ⟨[l,.ref a],[]⟩)) _ _ s
 refine De (EN ?_);refine Df ⟨plainId_quiet F.plain_list_iadd _,codeAny_builtin F.entry_list_iadd ?_⟩;rw[Around.under_plainId F.plain_list_iadd _];have S1:bG w (s.heap.push { cls:=.type "list",data:=.seq ([]:List Value).toArray }) a o es ep t:=S.keep fun o e=>Dh _ e
 show wpAny _ A.in1 (Builtin.List.listExtendWith (.ref s.heap.objs.size) (.ref a) (.ref s.heap.objs.size)) _ _ { s with heap:=s.heap.push { cls:=.type "list",data:=.seq ([]:List Value).toArray } }
 unfold Builtin.List.listExtendWith;have hT1:Shared.TypeIs { s with heap:=s.heap.push { cls:=.type "list",data:=.seq ([]:List Value).toArray } } (.ref a) "set":=⟨o,S1.ho,S1.ex.1⟩
 refine De (wpAny_typeOf hT1 ?_);have h1:Builtin.List.listSameRef (.ref s.heap.objs.size) (.ref a)=false:=by simp [Builtin.List.listSameRef,Fs haz]
 have h2:(Value.type "set"==Value.type "list")=false:=by decide
 have h3:(Value.type "set"==Value.type "tuple")=false:=by decide
 simp only[h1,h2,h3,Bool.or_false,Dx,if_false];refine De (xc S1 (fun h' d it tp ord first hp hit0 keep hit sd htp htq=>?_) hn)
 have hS0:h'.get? s.heap.objs.size=some { cls:=.type "list",data:=.seq ([]:List Value).toArray }:=keep _ _ (DE _ rfl)
 have hs0i:s.heap.objs.size≠it:=fun z=>by
  rw[E6,<-z]at hit0;exact absurd hit0 (Nat.not_succ_le_self _)
 have S2:bG w h' a o es ep t:=S1.keep fun o e=>keep _ _ e
 have hT2:Shared.TypeIs { s with heap:=h',drawn:=d } (.ref a) "set":=⟨o,S2.ho,S2.ex.1⟩
 have hai:a≠it:=fun z=>by
  rw[E6,<-z]at hit0;exact absurd (D6 haz (Nat.le_of_succ_le hit0)) (EG _)
 refine De (Ew ?_);unfold Builtin.List.listLengthHint;refine De (wpAny_specialOf hT2 F.slot_set_len.lookup ?_);have hsp:splitId "set.__len__" = some ("set","__len__"):=by kernel_rfl
 dsimp only;rw[hsp];dsimp only;refine De (wpAny_isInstance hT2 sub_set_set ?_);simp only[Fu,Dx,if_false];show wpAny _ A.in1 (typeOf (.ref a) >>= _) _ _ _
 refine De (wpAny_typeOf hT2 ?_);refine Df ?_;show wpAny _ A.in1 (rule "list.extend.makes-room" >>= fun _=>Builtin.List.listTouch (.ref s.heap.objs.size) >>= fun _=>
  again (.builtin "list.extend.loop" ⟨[.ref s.heap.objs.size,.ref it,.ref s.heap.objs.size],[]⟩)) _ _ _
 refine De (Fg ?_);refine De ?_;show wpAny _ A.in1 (updateSeq s.heap.objs.size (·.push .none) >>= fun _=>updateSeq s.heap.objs.size (·.pop)) _ _ _
 refine De (wpAny_updateSeq hS0 rfl ?_);have hS2:=Heap.get?_update_self (Obj.mapSeq (·.push Value.none)) hS0 rfl;refine wpAny_updateSeq hS2 rfl ?_;have hS3:=Heap.get?_update_self (Obj.mapSeq (·.pop)) hS2 rfl;have oth:∀ b o,b≠s.heap.objs.size->h'.get? b=some o->((h'.update s.heap.objs.size (Obj.mapSeq (·.push Value.none))).update s.heap.objs.size (Obj.mapSeq (·.pop))).get? b=some o:=
  fun b o hb e=>(Fz _ _ (Ne.symm hb)).trans ((Fz _ _ (Ne.symm hb)).trans e)
 have hts:s.heap.objs.size≠tp:=fun z=>by
  rcases htq with e|e
  ·exact DO haz (e.symm.trans z.symm)
  ·rw[E6,<-z]at e;exact absurd e (Nat.not_succ_le_self _)
 have hSf:s.heap.objs.size∉[it,a,tp]:=by
  simp only[DG,List.not_mem_nil,or_false,not_or];exact⟨hs0i,Fs haz,hts⟩
 have W:=Bb (prog:=prog) (w:=w) (A:=A.in1) (o:=o) (ep:=ep) (t:=t) (by simp [hh]) htp hai hp
 have hst0:bG w h' a o es ep t/\∃ first,h'.get? it=some (gk first 0 a es.size ep)/\cy w h' a tp es ep t ord 0 first:=⟨S2,first,hit,sd⟩;have hst1:=W.frame 0 h' ((h'.update s.heap.objs.size (Obj.mapSeq (·.push Value.none))).update s.heap.objs.size (Obj.mapSeq (·.pop))) hst0 fun b hb o e=>oth b o (fun z=>hSf (z▸hb)) e
 refine Df ⟨plainId_quiet F.plain_extend_loop _,codeAny_extend_loopS W.toS (by rw[DV];lia) _ hSf _ es.size 0 _ _ _ rfl (DZ _) hst1 hS3 (ItemsOf.nil _) fun s' acc' c' hm hS' hacc=>?_⟩
 show wpAny _ A (load s.heap.objs.size >>= _) _ _ s'
 refine De (wpAny_load hS' ?_);have eacc:acc'=ord:=by
  apply Array.ext_getElem?;intro i
  by_cases hi:i<es.size
  ·have e1:acc'[i]? =some (acc'[i]'(by rw[hacc.1];exact hi)):=DY _
   rw[e1]
   exact(hacc.2 i _ e1).symm
  ·rw[EZ.mpr (by rw[hacc.1];lia),EZ.mpr (by rw[nF hp];lia)]
 subst eacc;obtain⟨h2,g2,d2,tk2,os2⟩:=s';have eg:g2=s.gens:=hm.gens;have eo:os2=s.os:=hm.os;subst eg;subst eo
 refine Df (h h2 d2 tk2 _ hp (fun b o e=>?_) ?_)
 ·have hb:b<s.heap.objs.size:=Dz e;have hbi:b≠it:=fun z=>by
   rw[E6,<-z]at hit0;exact absurd (D6 hb (Nat.le_of_succ_le hit0)) (EG _)
  exact hm.heap b o (by simp only[DG,List.not_mem_nil,or_false,not_or];exact⟨DO hb,hbi⟩) (oth b o (DO hb) (keep _ _ (Dh _ e)))
 ·exact Fe (Dz hS')
end
end SB
end
section
namespace SB
open PySem PySem.W PySem.Calls PyProof.Rows
structure aX (R:Keyed->Keyed->Bool):Prop where
 ir:∀ p,R p p=false
 tr:∀ p q r,R p q=true->R q r=true->R p r=true
 ng:∀ p q r,R p r=true->R p q=true\/R q r=true
noncomputable def Told (prog:Program)(w:World)(A:Around)(s:Shared)(κ0:SortKind)(dom:Keyed->Prop)(R:Keyed->Keyed->Bool):Prop:=
 ∀ p q,dom p->dom q->∀ C:Bool->Shared->Prop,C (R p q) s->wpAny (model prog w) A (keyLt' κ0 p.1 q.1) C (fun _ _=>False) s
noncomputable abbrev ST (κ0:SortKind)(xs:Array Keyed)(p:Array (Nat×Nat×Nat))(g:Nat):SortSt:=SortSt.mk' κ0 xs p g none
theorem aX.le_trans{R:Keyed->Keyed->Bool}(W:aX R){p q r:Keyed}(h1:R q p=false)(h2:R r q=false):R r p=false:=by
 cases h:R r p with
 | false=>rfl
 | true=>rcases W.ng r q p h with x|x <;> simp_all
theorem aX.le_of_lt{R:Keyed->Keyed->Bool}(W:aX R){p q:Keyed}(h:R p q=true):R q p=false:=by
 cases h':R q p with
 | false=>rfl
 | true=>have:=W.tr _ _ _ h h';rw[W.ir]at this;exact absurd this (by simp)
theorem aX.Ac{R:Keyed->Keyed->Bool}(W:aX R){p q r:Keyed}(h1:R p q=true)(h2:R r q=false):R p r=true:=by
 rcases W.ng p r q h1 with x|x
 ·exact x
 ·rw[h2]at x;exact absurd x (by simp)
theorem aX.zK{R:Keyed->Keyed->Bool}(W:aX R){p q r:Keyed}(h1:R q p=false)(h2:R q r=true):R p r=true:=by
 rcases W.ng q p r h2 with x|x
 ·rw[h1]at x;exact absurd x (by simp)
 ·exact x
section
variable {prog:Program}{w:World}{A:Around}{E:Value->Shared->Prop}{s:Shared}{κ0:SortKind}{dom:Keyed->Prop}{R:Keyed->Keyed->Bool}{xs:Array Keyed}{pd:Array (Nat×Nat×Nat)}{g:Nat}
theorem gD(T:Told prog w A s κ0 dom R){p q:Keyed}(hp:dom p)(hq:dom q){Q:Option Bool->SortSt->Prop}(h:Q (some (R p q)) (ST κ0 xs pd g)) :
  wpS (model prog w) A E s (lt' p q) Q (ST κ0 xs pd g):=by
 rw[lt'_eq];refine Ds (wpS_get ?_);refine Ds (wpS_lift (wpAny_attempt (EA (T p q hp hq (fun b s'=>s'=s/\b=R p q) ⟨rfl,rfl⟩) (fun b s' hb=>?_) fun _ _ e=>e.elim)))
 obtain⟨rfl,rfl⟩:=hb;exact⟨rfl,DA h⟩
theorem bx{arr:Array Keyed}{p:Keyed}(e:arr[i]? =some p){Q:Keyed->SortSt->Prop}{st:SortSt}(h:Q p st):wpS (model prog w) A E s (elem' arr i) Q st:=by
 rw[elem'_eq,e];exact DA h
theorem yV(T:Told prog w A s κ0 dom R){p q:Keyed}(ep:xs[i]? =some p)(eq:xs[j]? =some q)(hp:dom p)(hq:dom q){Q:Option Bool->SortSt->Prop}(h:Q (some (R p q)) (ST κ0 xs pd g)) :
  wpS (model prog w) A E s (ltAt' i j) Q (ST κ0 xs pd g):=by
 rw[ltAt'_eq];refine Ds (wpS_get ?_);exact Ds (bx ep (Ds (bx eq (gD T hp hq h))))
noncomputable def wb:Bool->Keyed->Array Keyed->Nat->Nat->Nat->StateT SortSt Sem (Option Nat):=sortPriv% PySem.Builtin.gallop
noncomputable def bey (R:Keyed->Keyed->Bool)(left:Bool)(key x:Keyed):Bool:=if left then R x key else !(R key x)
theorem hV(T:Told prog w A s κ0 dom R){left:Bool}{key p:Keyed}{arr:Array Keyed}(e:arr[i]? =some p)(hp:dom p)(hk:dom key){Q:Option Bool->SortSt->Prop}(h:Q (some (bey R left key p)) (ST κ0 xs pd g)) :
  wpS (model prog w) A E s (do
   let x <-elem' arr i
   if left=true then lt' x key else do
    let y <-lt' key x
    pure (y.map (!·))) Q (ST κ0 xs pd g):=by
 refine Ds (bx e ?_);unfold bey at h;cases left with
 | true=>exact gD T hp hk h
 | false=>exact Ds (gD T hk hp (DA h))
theorem sH(T:Told prog w A s κ0 dom R){left:Bool}{key:Keyed}{arr:Array Keyed}{base hi:Nat}(hk:dom key){el:Nat->Keyed}(he:∀ i,i<n->arr[base+i]? =some (el i))(hd:∀ i,i<n->dom (el i))(mono:∀ i j,i<=j->j<n->bey R left key (el j)=true->bey R left key (el i)=true){Q:Option Nat->SortSt->Prop}(h:∀ k,k<=n->(∀ i,i<k->bey R left key (el i)=true)->(∀ i,k<=i->i<n->bey R left key (el i)=false)->Q (some k) (ST κ0 xs pd g))(k1:∀ i,i<lo->bey R left key (el i)=true)(k2:∀ i,hi<=i->i<n->bey R left key (el i)=false)(k3:lo<=hi)(k4:hi<=n){f:Nat->Option (Option Nat)×Nat×Nat->StateT SortSt Sem (ForInStep (Option (Option Nat)×Nat×Nat))}(hf1:∀ x l r,l ≥ r->f x (none,l,r)=pure (ForInStep.done (none,l,r)))(hf2:∀ x l r,l<r->r<=n->∀ Q':ForInStep (Option (Option Nat)×Nat×Nat)->SortSt->Prop,
   (bey R left key (el (l+(r-l) / 2))=true->Q' (ForInStep.yield (none,l+(r-l) / 2+1,r)) (ST κ0 xs pd g)) →
   (bey R left key (el (l+(r-l) / 2))=false->Q' (ForInStep.yield (none,l,l+(r-l) / 2)) (ST κ0 xs pd g))->wpS (model prog w) A E s (f x (none,l,r)) Q' (ST κ0 xs pd g)) :
  wpS (model prog w) A E s (forIn [:n] ((none,lo,hi):Option (Option Nat)×Nat×Nat) f) (fun c st'=>∃ k,c=(none,k,k)/\Q (some k) st') (ST κ0 xs pd g):=by
 refine(ES (Ex (I:=fun x c st'=>st'=ST κ0 xs pd g/\∃ l r,c=(none,l,r)/\l<=r/\r<=n/\r-l<=n-x/\(∀ i,i<l->bey R left key (el i)=true)/\(∀ i,r<=i->i<n->bey R left key (el i)=false))
  (Q:=fun c st'=>st'=ST κ0 xs pd g/\∃ r,c=(none,r,r)/\r<=n/\(∀ i,i<r->bey R left key (el i)=true)/\(∀ i,r<=i->i<n->bey R left key (el i)=false)) ?_ ?_ ?_) ?_)
 ·rintro x c st' _ hx ⟨rfl,l,r,rfl,h1,h2,h3,h4,h5⟩
  by_cases hge:l ≥ r
  ·rw[hf1 x l r hge]
   have:l=r:=by lia
   subst this;exact DA ⟨rfl,l,rfl,h2,h4,h5⟩
  ·refine hf2 x l r (by lia) h2 _ (fun hb=>?_) (fun hb=>?_)
   ·refine⟨rfl,l+(r-l) / 2+1,r,rfl,by lia,h2,by lia,fun i hi=>?_,h5⟩
    exact mono i _ (by lia) (by lia) hb
   ·refine⟨rfl,l,l+(r-l) / 2,rfl,by lia,by lia,by lia,h4,fun i h6 hi=>?_⟩
    cases hb':bey R left key (el i) with
    | false=>rfl
    | true=>rw[mono _ i h6 hi hb']at hb;exact hb
 ·rintro c st' ⟨rfl,l,r,rfl,h1,h2,h3,h4,h5⟩
  have:l=r:=by lia
  subst this;exact⟨rfl,l,rfl,h2,h4,h5⟩
 ·exact⟨rfl,lo,hi,rfl,k3,k4,by lia,k1,k2⟩
 ·rintro c st' ⟨rfl,r,rfl,h2,h4,h5⟩;exact⟨r,rfl,h r h2 h4 h5⟩
theorem fK(T:Told prog w A s κ0 dom R){left:Bool}{key:Keyed}{arr:Array Keyed}{base hint:Nat}(hk:dom key)(hh:hint<n)(el:Nat->Keyed)(he:∀ i,i<n->arr[base+i]? =some (el i))(hd:∀ i,i<n->dom (el i))(mono:∀ i j,i<=j->j<n->bey R left key (el j)=true->bey R left key (el i)=true){Q:Option Nat->SortSt->Prop}(h:∀ k,k<=n->(∀ i,i<k->bey R left key (el i)=true)->(∀ i,k<=i->i<n->bey R left key (el i)=false)->Q (some k) (ST κ0 xs pd g)) :
  wpS (model prog w) A E s (wb left key arr base n hint) Q (ST κ0 xs pd g):=by
 refine Ds (hV T (he hint hh) (hd hint hh) hk ?_);cases hr:bey R left key (el hint)
 ·dsimp only;simp only[Dx,if_false];refine Ds (ES (Ex (I:=fun x c st'=>st'=ST κ0 xs pd g/\∃ la of,c=(none,la,of)/\x+1<=of/\la<of/\la<=hint/\bey R left key (el (hint-la))=false)
   (Q:=fun c st'=>st'=ST κ0 xs pd g/\∃ la of,c=(none,la,of)/\la<of/\la<=hint/\bey R left key (el (hint-la))=false/\(hint+1<=of\/of<=hint/\bey R left key (el (hint-of))=true)) ?_ ?_ ?_) ?_)
  ·rintro x c st' _ hx ⟨rfl,la,of,rfl,h1,h2,h3,h4⟩;dsimp only
   by_cases hge:of ≥ hint+1
   ·rw[if_pos hge];exact DA ⟨rfl,la,of,rfl,h2,h3,h4,.inl hge⟩
   ·rw[if_neg hge];refine Ds (hV T (he (hint-of) (by lia)) (hd _ (by lia)) hk ?_)
    cases hb:bey R left key (el (hint-of)) with
    | true=>exact DA ⟨rfl,la,of,rfl,h2,h3,h4,.inr ⟨by lia,hb⟩⟩
    | false=>exact DA ⟨rfl,of,2*of+1,rfl,by lia,by lia,by lia,hb⟩
  ·rintro c st' ⟨rfl,la,of,rfl,h1,h2,h3,h4⟩;exact⟨rfl,la,of,rfl,h2,h3,h4,.inl (by lia)⟩
  ·exact⟨rfl,0,1,rfl,by lia,by lia,by lia,hr⟩
  ·rintro c st' ⟨rfl,la,of,rfl,h2,h3,h4,h5⟩;dsimp only;have k1:∀ i,i<hint+1-min of (hint+1)->bey R left key (el i)=true:=fun i hi=>by
    rcases h5 with h5|⟨h5,h6⟩
    ·lia
    ·exact mono i (hint-of) (by lia) (by lia) h6
   have k2:∀ i,hint-la<=i->i<n->bey R left key (el i)=false:=fun i h1 hi=>by
    cases hb:bey R left key (el i) with
    | false=>rfl
    | true=>rw[mono _ i h1 hi hb]at h4;exact h4
   have k3:hint+1-min of (hint+1)<=hint-la:=by
    rcases h5 with h5|h5
    ·rw[Nat.min_eq_right h5,Nat.sub_self];exact DZ _
    ·rw[Nat.min_eq_left (Nat.le_succ_of_le h5.1)];exact Ea (Nat.sub_le_sub_left h2 _) (Nat.le_of_eq (Nat.add_sub_add_right hint 1 la))
   have k4:hint-la<=n:=by lia
   refine Ds (ES (sH T hk he hd mono h k1 k2 k3 k4 ?_ ?_) ?_)
   ·exact fun x l r hx=>if_pos hx
   ·intro x l r hx hr Q' q1 q2;dsimp only;rw[if_neg (by lia)]
    refine Ds (hV T (he _ (by lia)) (hd _ (by lia)) hk ?_)
    cases hb:bey R left key (el (l+(r-l) / 2)) with
    | true=>exact DA (q1 hb)
    | false=>exact DA (q2 hb)
   ·rintro c st' ⟨k,rfl,hq⟩;exact DA hq
 ·dsimp only;simp only[if_true];refine Ds (ES (Ex (I:=fun x c st'=>st'=ST κ0 xs pd g/\∃ la of,c=(none,la,of)/\x+1<=of/\la<of/\hint+la<n/\bey R left key (el (hint+la))=true)
   (Q:=fun c st'=>st'=ST κ0 xs pd g/\∃ la of,c=(none,la,of)/\la<of/\hint+la<n/\bey R left key (el (hint+la))=true/\(n-hint<=of\/hint+of<n/\bey R left key (el (hint+of))=false)) ?_ ?_ ?_) ?_)
  ·rintro x c st' _ hx ⟨rfl,la,of,rfl,h1,h2,h3,h4⟩;dsimp only
   by_cases hge:of ≥ n-hint
   ·rw[if_pos hge];exact DA ⟨rfl,la,of,rfl,h2,h3,h4,.inl hge⟩
   ·rw[if_neg hge];refine Ds (hV T (he (hint+of) (by lia)) (hd _ (by lia)) hk ?_)
    cases hb:bey R left key (el (hint+of)) with
    | false=>exact DA ⟨rfl,la,of,rfl,h2,h3,h4,.inr ⟨by lia,hb⟩⟩
    | true=>exact DA ⟨rfl,of,2*of+1,rfl,by lia,by lia,by lia,hb⟩
  ·rintro c st' ⟨rfl,la,of,rfl,h1,h2,h3,h4⟩;exact⟨rfl,la,of,rfl,h2,h3,h4,.inl (by lia)⟩
  ·exact⟨rfl,0,1,rfl,by lia,by lia,by lia,hr⟩
  ·rintro c st' ⟨rfl,la,of,rfl,h2,h3,h4,h5⟩;dsimp only;have k1:∀ i,i<hint+la+1->bey R left key (el i)=true:=fun i hi=>mono i (hint+la) (by lia) (by lia) h4
   have k2:∀ i,hint+min of (n-hint)<=i->i<n->bey R left key (el i)=false:=fun i h1 hi=>by
    rcases h5 with h5|⟨h5,h6⟩
    ·lia
    ·cases hb:bey R left key (el i) with
     | false=>rfl
     | true=>rw[mono (hint+of) i (by lia) hi hb]at h6;exact h6
   have k3:hint+la+1<=hint+min of (n-hint):=by lia
   have k4:hint+min of (n-hint)<=n:=Ea (Nat.add_le_add_left (Nat.min_le_right _ _) _) (Nat.le_of_eq (Nat.add_sub_of_le (Fe hh)));refine Ds (ES (sH T hk he hd mono h k1 k2 k3 k4 ?_ ?_) ?_)
   ·exact fun x l r hx=>if_pos hx
   ·intro x l r hx hr Q' q1 q2;dsimp only;rw[if_neg (by lia)]
    refine Ds (hV T (he _ (by lia)) (hd _ (by lia)) hk ?_)
    cases hb:bey R left key (el (l+(r-l) / 2)) with
    | true=>exact DA (q1 hb)
    | false=>exact DA (q2 hb)
   ·rintro c st' ⟨k,rfl,hq⟩;exact DA hq
end
set_option maxHeartbeats 4000000
structure ML (R:Keyed->Keyed->Bool)(a b out A' B':List Keyed):Prop where
 pm:(out++(A'++B')).Perm (a++b)
 up:out.Pairwise (fun x y=>R y x=false)
 le:∀ x∈out,∀ y∈A'++B',R y x=false
 sa:A'.Pairwise (fun x y=>R y x=false)
 sb:B'.Pairwise (fun x y=>R y x=false)
 hl:∀ y∈B',∀ z∈A'.getLast?,R z y=false
theorem ML.gu{R:Keyed->Keyed->Bool}{a b out P A' B':List Keyed}(h:ML R a b out (P++A') B')(hx:∀ x∈P,∀ y∈B',R y x=false):ML R a b (out++P) A' B':=by
 have s1:=EE.mp h.sa;refine⟨?_,EE.mpr ⟨h.up,s1.1,fun x hx y hy=>h.le x hx y (by simp [hy])⟩,fun x h1 y h2=>?_,s1.2.1,h.sb,fun y hy z hz=>h.hl y hy z ?_⟩
 ·have:=h.pm
  simpa [Ed] using this
 ·rcases Dp.mp h1 with h1|h1
  ·exact h.le x h1 y (by rcases Dp.mp h2 with h2|h2 <;> simp [h2])
  ·rcases Dp.mp h2 with h2|h2
   ·exact s1.2.2 x h1 y h2
   ·exact hx x h1 y h2
 ·rw[List.getLast?_append];rw[Option.mem_def]at hz ⊢;rw[hz];rfl
theorem ML.gr{R:Keyed->Keyed->Bool}{a b out P A' B':List Keyed}(h:ML R a b out A' (P++B'))(hx:∀ y∈P,∀ x∈A',R x y=false):ML R a b (out++P) A' B':=by
 have s1:=EE.mp h.sb;refine⟨?_,EE.mpr ⟨h.up,s1.1,fun x hx y hy=>h.le x hx y (by simp [hy])⟩,fun x h1 y h2=>?_,h.sa,s1.2.1,fun y hy z hz=>h.hl y (by simp [hy]) z hz⟩
 ·refine List.Perm.trans ?_ h.pm;rw[Ed];exact List.Perm.append_left _ (List.perm_append_comm_assoc ..)
 ·rcases Dp.mp h1 with h1|h1
  ·exact h.le x h1 y (by rcases Dp.mp h2 with h2|h2 <;> simp [h2])
  ·rcases Dp.mp h2 with h2|h2
   ·exact hx x h1 y h2
   ·exact s1.2.2 x h1 y h2
noncomputable def Mrg (R:Keyed->Keyed->Bool)(a b m:List Keyed):Prop:=m.Perm (a++b)/\m.Pairwise (fun x y=>R y x=false)
theorem ML.dD{R:Keyed->Keyed->Bool}{a b out A':List Keyed}(h:ML R a b out A' []):Mrg R a b (out++A'):=by
 refine⟨by simpa using h.pm,EE.mpr ⟨h.up,h.sa,fun x hx y hy=>h.le x hx y (by simp [hy])⟩⟩
theorem ML.dM{R:Keyed->Keyed->Bool}{a b out B':List Keyed}(h:ML R a b out [] B'):Mrg R a b (out++B'):=by
 refine⟨by simpa using h.pm,EE.mpr ⟨h.up,h.sb,fun x hx y hy=>h.le x hx y (by simp [hy])⟩⟩
theorem ML.last{R:Keyed->Keyed->Bool}{a b out B':List Keyed}{z:Keyed}(h:ML R a b out [z] B'):Mrg R a b (out++B'++[z]):=by
 have h0:ML R a b out [z] (B'++[]):=by rw[D9];exact h
 have h1:ML R a b (out++B') ([z]++[]) []:=h0.gr fun y hy x hx=>by
  rw[Dj]at hx;subst hx;exact h.hl y hy _ rfl
 have h2:=(h1.gu fun _ _ y hy=>by simp at hy).dD
 rw[D9]at h2;exact h2
theorem et{b:Array Keyed}(h:i<b.size):b.toList.drop i=b[i]::b.toList.drop (i+1):=by
 rw[Er (by simpa using h)]
 simp
theorem upTo{R:Keyed->Keyed->Bool}(W:aX R){x y:Keyed}{l:List Keyed}(hs:(x::l).Pairwise (fun x y=>R y x=false))(h:R x y=false):∀ z∈x::l,R z y=false:=by
 intro z hz;rcases DG.mp hz with rfl|hz
 ·exact h
 ·exact W.le_trans h (List.rel_of_pairwise_cons hs hz)
theorem fG{R:Keyed->Keyed->Bool}(W:aX R){a:Array Keyed}(hs:a.toList.Pairwise (fun x y=>R y x=false))(hij:i<=j)(hj:j<a.size):R (a[j]) (a[i]'(by lia))=false:=by
 rcases Nat.eq_or_lt_of_le hij with rfl|hlt
 ·exact W.ir _
 ·exact List.pairwise_iff_getElem.mp hs i j (by simp;lia) (by simpa using hj) hlt
theorem fZ{R:Keyed->Keyed->Bool}(W:aX R){left:Bool}{key x y:Keyed}(h:R y x=false)(hb:bey R left key y=true):bey R left key x=true:=by
 unfold bey at hb ⊢;cases left with
 | true=>exact W.zK h hb
 | false=>
  simp only[Dx,if_false,Bool.not_eq_true']at hb ⊢;exact W.le_trans h hb
theorem pL{a:Array Keyed}{k:Nat}(h:i+k<=a.size):a.toList.drop i=(a.extract i (i+k)).toList++a.toList.drop (i+k):=by
 rw[EX,E9,show i+k-i=k by lia,<-List.drop_drop,Em]
theorem oG{a:Array Keyed}{k:Nat}{x:Keyed}(hx:x∈(a.extract i (i+k)).toList)(h:i+k<=a.size):∃ j,∃ q:j<k,x=a[i+j]'(by lia):=by
 obtain⟨j,hj,rfl⟩:=EF.mp hx;have hj':j<k:=by simp at hj;lia
 exact⟨j,hj',by simp⟩
theorem n9{a:Array Keyed}{x:Keyed}(hx:x∈a.toList.drop i):∃ j,∃ q:i+j<a.size,x=a[i+j]'q:=by
 obtain⟨j,hj,rfl⟩:=EF.mp hx;have hj':i+j<a.size:=by simp at hj;lia
 exact⟨j,hj',by simp⟩
section
variable {prog:Program}{w:World}{A:Around}{E:Value->Shared->Prop}{s:Shared}{κ0:SortKind}{dom:Keyed->Prop}{R:Keyed->Keyed->Bool}{xs:Array Keyed}{pd:Array (Nat×Nat×Nat)}{g:Nat}
noncomputable def Ab:Array Keyed->Array Keyed->StateT SortSt Sem (Array Keyed):=sortPriv% PySem.Builtin.mergeLo
noncomputable abbrev MLa (R:Keyed->Keyed->Bool)(a b out:Array Keyed)(ia ib:Nat):Prop:=ML R a.toList b.toList out.toList (a.toList.drop ia) (b.toList.drop ib)
theorem fY{a:Array Keyed}:(a.extract i).toList=a.toList.drop i:=by
 rw[EX,E9];exact Ec (by simp)
noncomputable def elD (a:Array Keyed)(d:Keyed)(i:Nat):Keyed:=(a[i]?).getD d
theorem bH{a:Array Keyed}{d:Keyed}(h:i<a.size):elD a d i=a[i]:=by unfold elD;rw[Eo a i h];rfl
theorem fJ{a:Array Keyed}{d:Keyed}(h:i<a.size):a[i]? =some (elD a d i):=by rw[bH h];exact Eo a i h
theorem gb{R:Keyed->Keyed->Bool}{key x:Keyed}:bey R false key x = !(R key x):=rfl
theorem fS{R:Keyed->Keyed->Bool}{key x:Keyed}:bey R true key x=R x key:=rfl
theorem MLa.lM{a b out:Array Keyed}{ia ib k:Nat}(W:aX R)(h:MLa R a b out ia ib)(hb:ib<b.size)(hk:ia+k<=a.size)(hx:∀ i (q:i<k),R b[ib] (a[ia+i]'(by lia))=false):MLa R a b (out++a.extract ia (ia+k)) (ia+k) ib:=by
 unfold MLa at h ⊢;rw[pL hk]at h;rw[Ee];refine h.gu fun x hx' y hy=>?_
 obtain⟨j,q,rfl⟩:=oG hx' hk
 have:=h.sb
 rw[et hb]at this hy;exact upTo W this (hx j q) y hy
theorem MLa.nH{a b out:Array Keyed}{ia ib k:Nat}(W:aX R)(h:MLa R a b out ia ib)(ha:ia<a.size)(hk:ib+k<=b.size)(hx:∀ i (q:i<k),R a[ia] (b[ib+i]'(by lia))=false):MLa R a b (out++b.extract ib (ib+k)) ia (ib+k):=by
 unfold MLa at h ⊢;rw[pL hk]at h;rw[Ee];refine h.gr fun x hx' y hy=>?_
 obtain⟨j,q,rfl⟩:=oG hx' hk
 have:=h.sa
 rw[et ha]at this hy;exact upTo W this (hx j q) y hy
theorem MLa.fP{a b out:Array Keyed}{ia ib:Nat}(W:aX R)(h:MLa R a b out ia ib)(hb:ib<b.size)(hy:∀ x∈a.toList.drop ia,R x b[ib]=false):MLa R a b (out.push b[ib]) ia (ib+1):=by
 unfold MLa at h ⊢;rw[et hb]at h;rw[Array.toList_push];exact ML.gr (P:=[b[ib]]) h fun y hy' x hx=>by rw[Dj]at hy';subst hy';exact hy x hx
theorem MLa.fR{a b out:Array Keyed}{ia ib:Nat}(W:aX R)(h:MLa R a b out ia ib)(ha:ia<a.size)(hx:∀ y∈b.toList.drop ib,R y a[ia]=false):MLa R a b (out.push a[ia]) (ia+1) ib:=by
 unfold MLa at h ⊢;rw[et ha]at h;rw[Array.toList_push];exact ML.gu (P:=[a[ia]]) h fun y hy' x hx'=>by rw[Dj]at hy';subst hy';exact hx x hx'
theorem MLa.dD{a b out:Array Keyed}{ia ib:Nat}(h:MLa R a b out ia ib)(hb:ib=b.size):Mrg R a.toList b.toList (out++a.extract ia++b.extract ib).toList:=by
 unfold MLa at h;rw[Fj (as:=b.toList) (by simp [hb])]at h
 have e:(out++a.extract ia++b.extract ib).toList=out.toList++a.toList.drop ia:=by
  rw[Ee,Ee,fY,fY,Fj (as:=b.toList) (by simp [hb]),D9]
 rw[e];exact h.dD
theorem MLa.dM{a b out:Array Keyed}{ia ib:Nat}(h:MLa R a b out ia ib)(ha:ia=a.size):Mrg R a.toList b.toList (out++a.extract ia++b.extract ib).toList:=by
 unfold MLa at h;rw[Fj (as:=a.toList) (by simp [ha])]at h
 have e:(out++a.extract ia++b.extract ib).toList=out.toList++b.toList.drop ib:=by
  rw[Ee,Ee,fY,fY,Fj (as:=a.toList) (by simp [ha]),D9]
 rw[e];exact h.dM
theorem MLa.last{a b out:Array Keyed}{ia ib:Nat}(h:MLa R a b out ia ib)(ha:ia+1=a.size):Mrg R a.toList b.toList (out++b.extract ib++a.extract ia).toList:=by
 unfold MLa at h;rw[et (show ia<a.size by lia),Fj (as:=a.toList) (i:=ia+1) (by simp [ha])]at h
 have e:(out++b.extract ib++a.extract ia).toList=out.toList++b.toList.drop ib++[a[ia]'(by lia)]:=by
  have e1:a.toList.drop ia=[a[ia]'(by lia)]:=by rw[et (show ia<a.size by lia),Fj (by simp [ha])]
  rw[<-e1];rw[Ee,Ee,fY,fY]
 rw[e];exact h.last
theorem qS{σ' α:Type}{c:Prop}{dc:Decidable c}{G:StateT σ' Sem α}{F:Nat->StateT σ' Sem α}{x:Nat}(y:Nat){Q:α->σ'->Prop}{st:σ'}(h:∀ z,wpS (model prog w) A E s (F z) Q st)(hG:G=F x):wpS (model prog w) A E s (@ite _ c dc G (F y)) Q st:=by
 split
 ·rw[hG];exact h _
 ·exact h _
theorem i3{σ' α:Type}{c:Prop}{dc:Decidable c}{G:StateT σ' Sem α}{F:Array Keyed->Nat->StateT σ' Sem α}(pre:Array Keyed->Nat->Prop)(o:Array Keyed)(i:Nat){Q:α->σ'->Prop}{st:σ'}(h:∀ o' i',pre o' i'->wpS (model prog w) A E s (F o' i') Q st)(hG:c->(∀ o' i',pre o' i'->wpS (model prog w) A E s (F o' i') Q st)->wpS (model prog w) A E s G Q st)(hN:¬ c->pre o i):wpS (model prog w) A E s (@ite _ c dc G (F o i)) Q st:=by
 split
 ·rename_i hc
  exact hG hc h
 ·rename_i hc
  exact h _ _ (hN hc)
theorem xk(T:Told prog w A s κ0 dom R)(W:aX R){a b:Array Keyed}(hb:0<b.size)(ha:0<a.size)(da:∀ p∈a.toList,dom p)(db:∀ p∈b.toList,dom p)(sa:a.toList.Pairwise (fun x y=>R y x=false))(sb:b.toList.Pairwise (fun x y=>R y x=false))(h0:∀ x∈a.toList,R x b[0]=false)(hl:∀ y∈b.toList,∀ z∈a.toList.getLast?,R z y=false){Q:Array Keyed->SortSt->Prop}(h:∀ m g',Mrg R a.toList b.toList m.toList->Q m (ST κ0 xs pd g')) :
  wpS (model prog w) A E s (Ab a b) Q (ST κ0 xs pd g):=by
 have da':∀ i (q:i<a.size),dom a[i]:=fun i q=>da _ (by simp)
 have db':∀ i (q:i<b.size),dom b[i]:=fun i q=>db _ (by simp)
 have start:MLa R a b #[b[0]] 0 1:=by
  have z:MLa R a b #[] 0 0:=⟨by simp,by simp,by simp,sa,sb,hl⟩
  exact z.fP W hb fun x hx=>h0 x (by simpa using hx)
 refine Ds (wpS_lift (Fg ⟨rfl,?_⟩));refine Ds (bx (Eo b 0 hb) ?_);dsimp only
 by_cases h1:(1==b.size)=true
 ·rw[if_pos h1];exact DA (h _ _ (start.dD (by simpa using h1)))
 rw[if_neg h1];have h1':1<b.size:=by simp at h1;lia
 by_cases h2:(0+1==a.size)=true
 ·rw[if_pos h2];exact DA (h _ _ (start.last (by simpa using h2)))
 rw[if_neg h2];have h2':1<a.size:=by simp at h2;lia
 refine Ds (wpS_get ?_);refine Ds (ES (Ex
  (I:=fun x c st'=>∃ out ia ib mg g',c=(none,out,ia,ib,mg)/\st'=ST κ0 xs pd g'/\MLa R a b out ia ib/\ia+1<a.size/\ib<b.size/\(a.size-ia)+(b.size-ib)+x<=a.size+b.size)
  (Q:=fun c st'=>∃ m r g',c=(some m,r)/\st'=ST κ0 xs pd g'/\Mrg R a.toList b.toList m.toList) ?_ ?_ ?_) ?_)
 rotate_left
 ·rintro c st' ⟨out,ia,ib,mg,g',rfl,rfl,k1,k2,k3,k4⟩;lia
 ·exact⟨_,_,_,_,_,rfl,rfl,start,h2',h1',by lia⟩
 ·rintro c st' ⟨m,r,g',rfl,rfl,k⟩;exact DA (h m g' k)
 rintro x c st' _ hx ⟨out,ia,ib,mg,g',rfl,rfl,k1,k2,k3,k4⟩;dsimp only;refine Ds (ES (Ex
  (I:=fun x' c st'=>∃ out ia' ib' ac bc,c=(none,out,ia',ib',ac,bc)/\st'=ST κ0 xs pd g'/\MLa R a b out ia' ib'/\ia'+1<a.size/\ib'<b.size/\(a.size-ia')+(b.size-ib')+x'<=(a.size-ia)+(b.size-ib))
  (Q:=fun c st'=>st'=ST κ0 xs pd g'/\((∃ m r,c=(some m,r)/\Mrg R a.toList b.toList m.toList)\/∃ out ia' ib' ac bc,c=(none,out,ia',ib',ac,bc)/\MLa R a b out ia' ib'/\ia'+1<a.size/\ib'<b.size/\(a.size-ia')+(b.size-ib')+1<=(a.size-ia)+(b.size-ib))) ?_ ?_ ?_) ?_)
 ·rintro x' c st' _ hx' ⟨out,ia',ib',ac,bc,rfl,rfl,m1,m2,m3,m4⟩;dsimp only;refine Ds (bx (Eo b ib' m3) ?_);refine Ds (bx (Eo a ia' (by lia)) ?_)
  refine Ds (gD T (db' _ _) (da' _ _) ?_);cases hw:R b[ib'] (a[ia']'(by lia)) with
  | true=>
   dsimp only;simp only[if_true];refine Ds (bx (Eo b ib' m3) ?_);have m5:=m1.fP W m3 (by
    have:=m1.sa
    rw[et (show ia'<a.size by lia)]at this ⊢
    exact upTo W this (W.le_of_lt hw))
   by_cases q1:(ib'+1==b.size)=true
   ·rw[if_pos q1];exact DA ⟨rfl,.inl ⟨_,_,rfl,m5.dD (by simpa using q1)⟩⟩
   ·rw[if_neg q1];have q1':ib'+1<b.size:=by simp at q1;lia
    split
    ·exact DA ⟨rfl,.inr ⟨_,_,_,_,_,rfl,m5,m2,q1',by lia⟩⟩
    ·exact DA ⟨_,_,_,_,_,rfl,rfl,m5,m2,q1',by lia⟩
  | false=>
   dsimp only;simp only[Dx,if_false];refine Ds (bx (Eo a ia' (by lia)) ?_)
   have m5:=m1.fR W (by lia) (by
    have:=m1.sb
    rw[et m3]at this ⊢;exact upTo W this hw)
   by_cases q1:(ia'+1+1==a.size)=true
   ·rw[if_pos q1];exact DA ⟨rfl,.inl ⟨_,_,rfl,m5.last (by simpa using q1)⟩⟩
   ·rw[if_neg q1];have q1':ia'+1+1<a.size:=by simp at q1;lia
    split
    ·exact DA ⟨rfl,.inr ⟨_,_,_,_,_,rfl,m5,q1',m3,by lia⟩⟩
    ·exact DA ⟨_,_,_,_,_,rfl,rfl,m5,q1',m3,by lia⟩
 ·rintro c st' ⟨out,ia',ib',ac,bc,rfl,rfl,m1,m2,m3,m4⟩;lia
 ·exact⟨_,_,_,_,_,rfl,rfl,k1,k2,k3,by lia⟩
 rintro c st' ⟨rfl,⟨m,r,rfl,hm⟩|⟨out,ia',ib',ac,bc,rfl,m1,m2,m3,m4⟩⟩
 ·exact DA ⟨m,_,_,rfl,rfl,hm⟩
 dsimp only;refine Ds (wpS_lift (Fg ⟨rfl,?_⟩));refine Ds (ES (Ex
  (I:=fun x' c st'=>∃ out ia2 ib2 mg ac bc g',c=(none,out,ia2,ib2,mg,ac,bc)/\st'=ST κ0 xs pd g'/\MLa R a b out ia2 ib2/\ia2+1<a.size/\ib2<b.size/\(a.size-ia2)+(b.size-ib2)+x'<=(a.size-ia')+(b.size-ib'))
  (Q:=fun c st'=>∃ g',st'=ST κ0 xs pd g'/\((∃ m r,c=(some m,r)/\Mrg R a.toList b.toList m.toList)\/∃ out ia2 ib2 mg ac bc,c=(none,out,ia2,ib2,mg,ac,bc)/\MLa R a b out ia2 ib2/\ia2+1<a.size/\ib2<b.size/\(a.size-ia2)+(b.size-ib2)<=(a.size-ia')+(b.size-ib'))) ?_ ?_ ?_) ?_)
 rotate_left
 ·rintro c st' ⟨out,ia',ib',mg,ac,bc,g',rfl,rfl,m1,m2,m3,m4⟩;lia
 ·exact⟨_,_,_,_,_,_,_,rfl,rfl,m1,m2,m3,by lia⟩
 ·rintro c st' ⟨g',rfl,⟨m,r,rfl,hm⟩|⟨out,ia2,ib2,mg,ac,bc,rfl,n1,n2,n3,n4⟩⟩
  ·exact DA ⟨m,_,_,rfl,rfl,hm⟩
  ·refine Ds (EO ?_);exact DA ⟨out,ia2,ib2,_,_,rfl,rfl,n1,n2,n3,by lia⟩
 rintro x' c st' _ hx' ⟨out,ia2,ib2,mg,ac,bc,g',rfl,rfl,n1,n2,n3,n4⟩;dsimp only;apply qS (x:=mg-1) mg
 case hG=>rfl
 intro mg';refine Ds (EO ?_);refine Ds (bx (Eo b ib2 n3) ?_);refine Ds (fK T (db' _ n3) (by lia) (fun i=>elD a b[0] (ia2+i)) (fun i hi=>fJ (by lia)) (fun i hi=>by rw[bH (by lia)];exact da' _ _) ?_ fun k hk1 hk2 hk3=>?_)
 ·intro i j hij hj hb';rw[bH (by lia)]at hb' ⊢
  exact fZ W (fG W sa (by lia) (by lia)) hb'
 have pA:MLa R a b (out++a.extract ia2 (ia2+k)) (ia2+k) ib2:=n1.lM W n3 (by lia) fun i q=>by
  have:=hk2 i q
  rw[bH (by lia),gb]at this
  simpa using this
 have pB:∀ x∈a.toList.drop (ia2+k),R x b[ib2]=false:=fun x hx=>by
  obtain⟨j,q,rfl⟩:=n9 hx
  have:=hk3 (k+j) (by lia) (by lia)
  rw[bH (by lia),gb]at this
  refine W.le_of_lt ?_;simpa only[Nat.add_assoc,Bool.not_eq_false'] using this
 dsimp only;apply i3 (fun o' i'=>MLa R a b o' i' ib2/\i'+1<a.size/\(∀ x∈a.toList.drop i',R x b[ib2]=false)/\ia2<=i') out ia2
 case hN=>
  intro hk0;obtain rfl:k=0:=by lia
  exact⟨n1,n2,pB,Di _⟩
 case hG=>
  intro hk0 hF
  by_cases r1:(ia2+k+1==a.size)=true
  ·rw[if_pos r1];exact DA ⟨_,rfl,.inl ⟨_,_,rfl,pA.last (by simpa using r1)⟩⟩
  rw[if_neg r1]
  by_cases r2:(ia2+k==a.size)=true
  ·rw[if_pos r2];exact DA ⟨_,rfl,.inl ⟨_,_,rfl,pA.dM (by simpa using r2)⟩⟩
  rw[if_neg r2];exact hF _ _ ⟨pA,by simp at r1 r2;lia,pB,by lia⟩
 rintro o1 i1 ⟨p1,p2,p3,p4⟩;refine Ds (bx (Eo b ib2 n3) ?_);have p5:=p1.fP W n3 p3
 by_cases t1:(ib2+1==b.size)=true
 ·rw[if_pos t1];exact DA ⟨_,rfl,.inl ⟨_,_,rfl,p5.dD (by simpa using t1)⟩⟩
 rw[if_neg t1];have t1':ib2+1<b.size:=by simp at t1;lia
 refine Ds (bx (Eo a i1 (by lia)) ?_)
 refine Ds (fK T (da' i1 (by lia)) (by lia) (fun i=>elD b b[0] (ib2+1+i)) (fun i hi=>fJ (by lia)) (fun i hi=>by rw[bH (by lia)];exact db' _ _) ?_ fun k' e1 e2 e3=>?_)
 ·intro i j hij hj hb';rw[bH (by lia)]at hb' ⊢
  exact fZ W (fG W sb (by lia) (by lia)) hb'
 have d1:MLa R a b (o1.push b[ib2]++b.extract (ib2+1) (ib2+1+k')) i1 (ib2+1+k'):=p5.nH W (by lia) (by lia) fun i q=>by
  have:=e2 i q
  rw[bH (by lia),fS]at this
  exact W.le_of_lt this
 have d2:∀ y∈b.toList.drop (ib2+1+k'),R y (a[i1]'(by lia))=false:=fun y hy=>by
  obtain⟨j,q,rfl⟩:=n9 hy
  have:=e3 (k'+j) (by lia) (by lia)
  rw[bH (by lia),fS]at this
  simpa only[Nat.add_assoc] using this
 dsimp only;generalize hq2:o1.push b[ib2]=o2 at p5 d1 ⊢;generalize hj2:ib2+1=j2 at p5 d1 d2 t1' e1 ⊢;apply i3 (fun o' j'=>MLa R a b o' i1 j'/\(∀ y∈b.toList.drop j',R y (a[i1]'(by lia))=false)/\j'<b.size/\j2<=j') o2 j2
 case hN=>
  intro hk0';obtain rfl:k'=0:=by lia
  exact⟨p5,d2,t1',Di _⟩
 case hG=>
  intro hk0' hF
  by_cases t2:(j2+k'==b.size)=true
  ·rw[if_pos t2];exact DA ⟨_,rfl,.inl ⟨_,_,rfl,d1.dD (by simpa using t2)⟩⟩
  rw[if_neg t2];exact hF _ _ ⟨d1,d2,by simp at t2;lia,by lia⟩
 rintro o3 j3 ⟨c1,c2,c4,c5⟩;refine Ds (bx (Eo a i1 (by lia)) ?_)
 have c3:=c1.fR W (by lia) c2
 by_cases t3:(i1+1+1==a.size)=true
 ·rw[if_pos t3];exact DA ⟨_,rfl,.inl ⟨_,_,rfl,c3.last (by simpa using t3)⟩⟩
 ·rw[if_neg t3];have t3':i1+1+1<a.size:=by simp at t3;lia
  split
  ·exact DA ⟨_,rfl,.inr ⟨_,_,_,_,_,_,rfl,c3,t3',c4,by lia⟩⟩
  ·exact DA ⟨_,_,_,_,_,_,_,rfl,rfl,c3,t3',c4,by lia⟩
end
set_option maxHeartbeats 4000000
section
variable {prog:Program}{w:World}{A:Around}{E:Value->Shared->Prop}{s:Shared}{κ0:SortKind}{dom:Keyed->Prop}{R:Keyed->Keyed->Bool}{xs:Array Keyed}{pd:Array (Nat×Nat×Nat)}{g:Nat}
noncomputable def wD:Array Keyed->Array Keyed->StateT SortSt Sem (Array Keyed):=sortPriv% PySem.Builtin.mergeHi
noncomputable abbrev MHa (R:Keyed->Keyed->Bool)(a b out:Array Keyed)(na nb:Nat):Prop:=ML (fun x y=>R y x) b.toList.reverse a.toList.reverse out.toList (b.toList.take nb).reverse (a.toList.take na).reverse
theorem j9{b:Array Keyed}(h:n<b.size):(b.toList.take (n+1)).reverse=b[n]::(b.toList.take n).reverse:=by
 rw[List.take_succ_eq_append_getElem (by simpa using h)]
 simp
theorem iH{a:Array Keyed}{x:Keyed}(hx:x∈a.toList.take n):∃ j,∃ q:j<a.size,j<n/\x=a[j]'q:=by
 obtain⟨j,hj,rfl⟩:=EF.mp hx;have hj':j<n/\j<a.size:=by simp at hj;lia
 exact⟨j,hj'.2,hj'.1,by simp⟩
theorem uh{a:Array Keyed}(h:i<=n)(hn:n<=a.size):(a.toList.take n).reverse=(a.extract i n).reverse.toList++(a.toList.take i).reverse:=by
 rw[Array.toList_reverse,<-List.reverse_append,EX,E9];congr 1;have e:a.toList.take n=(a.toList.take n).take i++(a.toList.take n).drop i:=(Em i _).symm;rw[List.take_take,Nat.min_eq_left h,List.drop_take]at e;exact e
theorem qg{a:Array Keyed}{x:Keyed}(hx:x∈(a.extract i n).reverse.toList)(hn:n<=a.size):∃ j,∃ q:j<a.size,i<=j/\j<n/\x=a[j]'q:=by
 rw[Array.toList_reverse,Fx]at hx;obtain⟨j,hj,rfl⟩:=EF.mp hx;have hj':i+j<n:=by simp at hj;lia
 exact⟨i+j,by lia,by lia,hj',by simp⟩
theorem MHa.fR{a b out:Array Keyed}{na nb:Nat}(h:MHa R a b out (na+1) nb)(ha:na<a.size)(hy:∀ y∈b.toList.take nb,R a[na] y=false):MHa R a b (out.push a[na]) na nb:=by
 unfold MHa at h ⊢;rw[j9 ha]at h;rw[Array.toList_push];exact ML.gr (P:=[a[na]]) h fun y hy' x hx=>by rw[Dj]at hy';subst hy';exact hy x (Fx.mp hx)
theorem MHa.fP{a b out:Array Keyed}{na nb:Nat}(h:MHa R a b out na (nb+1))(hb:nb<b.size)(hx:∀ y∈a.toList.take na,R b[nb] y=false):MHa R a b (out.push b[nb]) na nb:=by
 unfold MHa at h ⊢;rw[j9 hb]at h;rw[Array.toList_push];exact ML.gu (P:=[b[nb]]) h fun y hy' x hx'=>by rw[Dj]at hy';subst hy';exact hx x (Fx.mp hx')
theorem MHa.lM{a b out:Array Keyed}{na nb:Nat}(h:MHa R a b out na nb)(hi:i<=na)(hn:na<=a.size)(hx:∀ j (q:j<a.size),i<=j->j<na->∀ y∈b.toList.take nb,R a[j] y=false):MHa R a b (out++(a.extract i na).reverse) i nb:=by
 unfold MHa at h ⊢;rw[uh hi hn]at h;rw[Ee];refine h.gr fun x hx' y hy=>?_
 obtain⟨j,q,q1,q2,rfl⟩:=qg hx' hn;exact hx j q q1 q2 y (Fx.mp hy)
theorem MHa.nH{a b out:Array Keyed}{na nb:Nat}(h:MHa R a b out na nb)(hi:i<=nb)(hn:nb<=b.size)(hx:∀ j (q:j<b.size),i<=j->j<nb->∀ y∈a.toList.take na,R b[j] y=false):MHa R a b (out++(b.extract i nb).reverse) na i:=by
 unfold MHa at h ⊢;rw[uh hi hn]at h;rw[Ee];refine h.gu fun x hx' y hy=>?_
 obtain⟨j,q,q1,q2,rfl⟩:=qg hx' hn;exact hx j q q1 q2 y (Fx.mp hy)
theorem Mrg.flip{a b m m':List Keyed}(h:Mrg (fun x y=>R y x) b.reverse a.reverse m)(e:m'=m.reverse):Mrg R a b m':=by
 subst e;refine⟨(List.reverse_perm m).trans (h.1.trans ?_),?_⟩
 ·exact(List.perm_append_comm).trans ((List.reverse_perm a).append (List.reverse_perm b))
 ·rw[List.pairwise_reverse];exact h.2
theorem fB{a:Array Keyed}:(a.extract 0 n).toList=a.toList.take n:=by
 rw[EX,E9]
 simp
theorem MHa.dM{a b out:Array Keyed}{na nb:Nat}(h:MHa R a b out na nb)(ha:na=0):Mrg R a.toList b.toList (a.extract 0 na++b.extract 0 nb++out.reverse).toList:=by
 subst ha;refine Mrg.flip (ML.dD (by simpa [MHa] using h)) ?_
 rw[Ee,Ee,fB,fB]
 simp
theorem MHa.dD{a b out:Array Keyed}{na nb:Nat}(h:MHa R a b out na nb)(hb:nb=0):Mrg R a.toList b.toList (a.extract 0 na++b.extract 0 nb++out.reverse).toList:=by
 subst hb;refine Mrg.flip (ML.dM (by simpa [MHa] using h)) ?_
 rw[Ee,Ee,fB,fB]
 simp
theorem MHa.first{a b out:Array Keyed}{na nb:Nat}(h:MHa R a b out na nb)(hb:nb=1)(hn:0<b.size):Mrg R a.toList b.toList (b.extract 0 nb++a.extract 0 na++out.reverse).toList:=by
 subst hb;unfold MHa at h;rw[j9 (n:=0) hn]at h;refine Mrg.flip (ML.last (z:=b[0]) (by simpa using h)) ?_
 rw[Ee,Ee,fB,fB];have e:b.toList.take 1=[b[0]]:=by
  have:=j9 (n:=0) hn
  have e2:=congrArg List.reverse this;simpa using e2
 rw[e]
 simp
theorem xW(T:Told prog w A s κ0 dom R)(W:aX R){a b:Array Keyed}(hb:0<b.size)(ha:0<a.size)(da:∀ p∈a.toList,dom p)(db:∀ p∈b.toList,dom p)(sa:a.toList.Pairwise (fun x y=>R y x=false))(sb:b.toList.Pairwise (fun x y=>R y x=false))(h0:∀ x∈a.toList,R x b[0]=false)(hl:∀ y∈b.toList,∀ z∈a.toList.getLast?,R z y=false){Q:Array Keyed->SortSt->Prop}(h:∀ m g',Mrg R a.toList b.toList m.toList->Q m (ST κ0 xs pd g')) :
  wpS (model prog w) A E s (wD a b) Q (ST κ0 xs pd g):=by
 have da':∀ i (q:i<a.size),dom a[i]:=fun i q=>da _ (by simp)
 have db':∀ i (q:i<b.size),dom b[i]:=fun i q=>db _ (by simp)
 have upA:∀ n (q:n<a.size),∀ y∈a.toList.take (n+1),R a[n] y=false:=fun n q y hy=>by
  obtain⟨j,q1,q2,rfl⟩:=iH hy;exact fG W sa (by lia) q
 have upB:∀ n (q:n<b.size),∀ y∈b.toList.take (n+1),R b[n] y=false:=fun n q y hy=>by
  obtain⟨j,q1,q2,rfl⟩:=iH hy;exact fG W sb (by lia) q
 have start:MHa R a b #[a[a.size-1]'(by lia)] (a.size-1) b.size:=by
  have z:MHa R a b #[] (a.size-1+1) b.size:=by
   refine⟨?_,by simp,by simp,?_,?_,?_⟩
   ·rw[Nat.sub_add_cancel ha,Ec (l:=b.toList) (by simp),Ec (l:=a.toList) (by simp)]
    simp
   ·rw[Ec (by simp),List.pairwise_reverse];exact sb
   ·rw[Ec (by simp;lia),List.pairwise_reverse];exact sa
   ·intro y hy z hz;rw[Ec (by simp),List.getLast?_reverse]at hz
    rw[Ec (by simp;lia),Fx]at hy
    have e:b.toList.head? =some b[0]:=by rw[List.head?_eq_getElem?];simp [hb]
    rw[e]at hz;obtain rfl:=DL hz;exact h0 y hy
  refine z.fR (by lia) fun y hy=>?_
  refine hl y (List.mem_of_mem_take hy) _ ?_;rw[Option.mem_def,List.getLast?_eq_getElem?]
  simp [ha]
 refine Ds (wpS_lift (Fg ⟨rfl,?_⟩));refine Ds (bx (Eo a (a.size-1) (by lia)) ?_)
 dsimp only
 by_cases h1:(a.size-1==0)=true
 ·rw[if_pos h1];exact DA (h _ _ (start.dM (by simpa using h1)))
 rw[if_neg h1];have h1':1<a.size:=by simp at h1;lia
 by_cases h2:(b.size==1)=true
 ·rw[if_pos h2];exact DA (h _ _ (start.first (by simpa using h2) hb))
 rw[if_neg h2];have h2':1<b.size:=by simp at h2;lia
 refine Ds (wpS_get ?_);refine Ds (ES (Ex
  (I:=fun x c st'=>∃ out na nb mg g',c=(none,na+1,nb+2,out,mg)/\st'=ST κ0 xs pd g'/\MHa R a b out (na+1) (nb+2)/\na<a.size/\nb+1<b.size/\na+1+(nb+2)+x<=a.size+b.size)
  (Q:=fun c st'=>∃ m r g',c=(some m,r)/\st'=ST κ0 xs pd g'/\Mrg R a.toList b.toList m.toList) ?_ ?_ ?_) ?_)
 rotate_left
 ·rintro c st' ⟨out,na,nb,mg,g',rfl,rfl,k1,k2,k3,k4⟩;lia
 ·refine⟨#[a[a.size-1]'(by lia)],a.size-2,b.size-2,g,g,?_,rfl,?_,by lia,by lia,by lia⟩
  ·rw[show a.size-2+1=a.size-1 by lia,show b.size-2+2=b.size by lia]
  ·rw[show a.size-2+1=a.size-1 by lia,show b.size-2+2=b.size by lia];exact start
 ·rintro c st' ⟨m,r,g',rfl,rfl,k⟩;exact DA (h m g' k)
 rintro x c st' _ hx ⟨out,na,nb,mg,g',rfl,rfl,k1,k2,k3,k4⟩;dsimp only;refine Ds (ES (Ex
  (I:=fun x' c st'=>∃ out na' nb' ac bc,c=(none,na'+1,nb'+2,out,ac,bc)/\st'=ST κ0 xs pd g'/\MHa R a b out (na'+1) (nb'+2)/\na'<a.size/\nb'+1<b.size/\na'+nb'+x'<=na+nb)
  (Q:=fun c st'=>st'=ST κ0 xs pd g'/\((∃ m r,c=(some m,r)/\Mrg R a.toList b.toList m.toList)\/∃ out na' nb' ac bc,c=(none,na'+1,nb'+2,out,ac,bc)/\MHa R a b out (na'+1) (nb'+2)/\na'<a.size/\nb'+1<b.size/\na'+nb'+1<=na+nb)) ?_ ?_ ?_) ?_)
 ·rintro x' c st' _ hx' ⟨out,na',nb',ac,bc,rfl,rfl,m1,m2,m3,m4⟩;dsimp only;refine Ds (bx (Eo b (nb'+1) m3) ?_);refine Ds (bx (Eo a na' m2) ?_);refine Ds (gD T (db' _ _) (da' _ _) ?_);cases hw:R b[nb'+1] a[na'] with
  | true=>
   dsimp only;simp only[if_true];refine Ds (bx (Eo a na' m2) ?_);have m5:=m1.fR m2 fun y hy=>W.le_trans (upB _ m3 y hy) (W.le_of_lt hw)
   rw[Nat.add_sub_cancel]
   by_cases q1:(na'==0)=true
   ·rw[if_pos q1];exact DA ⟨rfl,.inl ⟨_,_,rfl,m5.dM (by simpa using q1)⟩⟩
   ·rw[if_neg q1];obtain⟨na2,rfl⟩:∃ z,na'=z+1:=⟨na'-1,by simp at q1;lia⟩
    split
    ·exact DA ⟨rfl,.inr ⟨_,na2,nb',_,_,rfl,m5,by lia,m3,by lia⟩⟩
    ·exact DA ⟨_,na2,nb',_,_,rfl,rfl,m5,by lia,m3,by lia⟩
  | false=>
   dsimp only;simp only[Dx,if_false];refine Ds (bx (Eo b (nb'+1) m3) ?_);have m5:=m1.fP m3 fun y hy=>W.le_trans (upA _ m2 y hy) hw
   rw[show nb'+2-1=nb'+1 by lia]
   by_cases q1:(nb'+1==1)=true
   ·rw[if_pos q1];exact DA ⟨rfl,.inl ⟨_,_,rfl,m5.first (by simpa using q1) hb⟩⟩
   ·rw[if_neg q1];obtain⟨nb2,rfl⟩:∃ z,nb'=z+1:=⟨nb'-1,by simp at q1;lia⟩
    split
    ·exact DA ⟨rfl,.inr ⟨_,na',nb2,_,_,rfl,m5,m2,by lia,by lia⟩⟩
    ·exact DA ⟨_,na',nb2,_,_,rfl,rfl,m5,m2,by lia,by lia⟩
 ·rintro c st' ⟨out,ia',ib',ac,bc,rfl,rfl,m1,m2,m3,m4⟩;lia
 ·exact⟨_,na,nb,_,_,rfl,rfl,k1,k2,k3,by lia⟩
 rintro c st' ⟨rfl,⟨m,r,rfl,hm⟩|⟨out,na',nb',ac,bc,rfl,m1,m2,m3,m4⟩⟩
 ·exact DA ⟨m,_,_,rfl,rfl,hm⟩
 dsimp only;refine Ds (wpS_lift (Fg ⟨rfl,?_⟩));refine Ds (ES (Ex
  (I:=fun x' c st'=>∃ out n2 b2 mg ac bc g',c=(none,n2+1,b2+2,out,mg,ac,bc)/\st'=ST κ0 xs pd g'/\MHa R a b out (n2+1) (b2+2)/\n2<a.size/\b2+1<b.size/\n2+b2+x'<=na'+nb')
  (Q:=fun c st'=>∃ g',st'=ST κ0 xs pd g'/\((∃ m r,c=(some m,r)/\Mrg R a.toList b.toList m.toList)\/∃ out n2 b2 mg ac bc,c=(none,n2+1,b2+2,out,mg,ac,bc)/\MHa R a b out (n2+1) (b2+2)/\n2<a.size/\b2+1<b.size/\n2+b2<=na'+nb')) ?_ ?_ ?_) ?_)
 rotate_left
 ·rintro c st' ⟨out,ia',ib',mg,ac,bc,g',rfl,rfl,m1,m2,m3,m4⟩;lia
 ·exact⟨_,na',nb',_,_,_,_,rfl,rfl,m1,m2,m3,by lia⟩
 ·rintro c st' ⟨g',rfl,⟨m,r,rfl,hm⟩|⟨out,n2,b2,mg,ac,bc,rfl,n1,n2',n3,n4⟩⟩
  ·exact DA ⟨m,_,_,rfl,rfl,hm⟩
  ·refine Ds (EO ?_);exact DA ⟨out,n2,b2,_,_,rfl,rfl,n1,n2',n3,by lia⟩
 rintro x' c st' _ hx' ⟨out,n2,b2,mg,ac,bc,g',rfl,rfl,n1,n2',n3,n4⟩;dsimp only;apply qS (x:=mg-1) mg
 case hG=>rfl
 intro mg';refine Ds (EO ?_);refine Ds (bx (Eo b (b2+1) n3) ?_);refine Ds (fK T (db' _ n3) (by lia) (fun i=>elD a b[0] (0+i)) (fun i hi=>fJ (by lia)) (fun i hi=>by rw[bH (by lia)];exact da' _ _) ?_ fun k hk1 hk2 hk3=>?_)
 ·intro i j hij hj hb';rw[bH (by lia)]at hb' ⊢
  exact fZ W (fG W sa (by lia) (by lia)) hb'
 have pA:MHa R a b (out++(a.extract k (n2+1)).reverse) k (b2+2):=n1.lM hk1 (by lia) fun j q q1 q2 y hy=>by
  have:=hk3 j q1 q2
  rw[bH (by lia),gb]at this
  simp only[Nat.zero_add,Bool.not_eq_false']at this;exact W.le_trans (upB (b2+1) n3 y hy) (W.le_of_lt this)
 have pB:∀ x∈a.toList.take k,R b[b2+1] x=false:=fun x hx=>by
  obtain⟨j,q,q1,rfl⟩:=iH hx
  have:=hk2 j q1
  rw[bH (by lia),gb]at this
  simpa using this
 dsimp only;generalize hac:n2+1-k=acv at ⊢;have hk1:k<=n2+1:=by lia
 clear hk2 hk3;have n4':=n4;generalize hN:n2+1=N at n1 pA hk1 hac ⊢;apply i3 (fun o' i'=>MHa R a b o' i' (b2+2)/\(∀ x∈a.toList.take i',R b[b2+1] x=false)/\1<=i'/\i'<=N) out N
 case hN=>
  intro hk0;have hkN:k=N:=by lia
  rw[hkN]at pB;exact⟨n1,pB,by lia,Di _⟩
 case hG=>
  intro hk0 hF
  by_cases r1:(k==0)=true
  ·rw[if_pos r1];exact DA ⟨_,rfl,.inl ⟨_,_,rfl,pA.dM (by simpa using r1)⟩⟩
  rw[if_neg r1];exact hF _ _ ⟨pA,pB,by simp at r1;lia,hk1⟩
 rintro o1 i0 ⟨p1,p3,p4,p6⟩;obtain⟨i1,rfl⟩:∃ z,i0=z+1:=⟨i0-1,by lia⟩
 clear pA pB;refine Ds (bx (Eo b (b2+1) n3) ?_);have p5:=p1.fP n3 p3;rw[show b2+2-1=b2+1 by lia]
 by_cases t1:(b2+1==1)=true
 ·rw[if_pos t1];exact DA ⟨_,rfl,.inl ⟨_,_,rfl,p5.first (by simpa using t1) hb⟩⟩
 rw[if_neg t1];obtain⟨b3,rfl⟩:∃ z,b2=z+1:=⟨b2-1,by simp at t1;lia⟩
 refine Ds (bx (Eo a i1 (by lia)) ?_)
 refine Ds (fK T (da' i1 (by lia)) (by lia) (fun i=>elD b b[0] (0+i)) (fun i hi=>fJ (by lia)) (fun i hi=>by rw[bH (by lia)];exact db' _ _) ?_ fun k' e1 e2 e3=>?_)
 ·intro i j hij hj hb';rw[bH (by lia)]at hb' ⊢
  exact fZ W (fG W sb (by lia) (by lia)) hb'
 have d1:MHa R a b (o1.push (b[b3+1+1]'(by lia))++(b.extract k' (b3+1+1)).reverse) (i1+1) k':=p5.nH (by lia) (by lia) fun j q q1 q2 y hy=>by
  have:=e3 j q1 q2
  rw[bH (by lia),fS]at this
  simp only[Nat.zero_add]at this;exact W.le_trans (upA i1 (by lia) y hy) this
 have d2:∀ y∈b.toList.take k',R (a[i1]'(by lia)) y=false:=fun y hy=>by
  obtain⟨j,q,q1,rfl⟩:=iH hy
  have:=e2 j q1
  rw[bH (by lia),fS]at this
  simp only[Nat.zero_add]at this;exact W.le_of_lt this
 dsimp only;have e1:k'<=b3+1+1:=by lia
 clear e2 e3;generalize hac2:b3+1+1-k'=bcv at ⊢;generalize hq2:o1.push (b[b3+1+1]'(by lia))=o2 at p5 d1 ⊢
 generalize hj2:b3+1+1=j2 at p5 d1 hac2 e1 ⊢;apply i3 (fun o' j'=>MHa R a b o' (i1+1) j'/\(∀ y∈b.toList.take j',R (a[i1]'(by lia)) y=false)/\2<=j'/\j'<=j2) o2 j2
 case hN=>
  intro hk0';have hkJ:k'=j2:=by lia
  rw[hkJ]at d2;exact⟨p5,d2,by lia,Di _⟩
 case hG=>
  intro hk0' hF
  by_cases t2:(k'==1)=true
  ·rw[if_pos t2];exact DA ⟨_,rfl,.inl ⟨_,_,rfl,d1.first (by simpa using t2) hb⟩⟩
  rw[if_neg t2]
  by_cases t4:(k'==0)=true
  ·rw[if_pos t4];exact DA ⟨_,rfl,.inl ⟨_,_,rfl,d1.dD (by simpa using t4)⟩⟩
  rw[if_neg t4];exact hF _ _ ⟨d1,d2,by simp at t2 t4;lia,e1⟩
 rintro o3 j0 ⟨c1,c2,c4,c5⟩;obtain⟨j1,rfl⟩:∃ z,j0=z+2:=⟨j0-2,by lia⟩
 refine Ds (bx (Eo a i1 (by lia)) ?_)
 have c3:=c1.fR (by lia) c2
 rw[Nat.add_sub_cancel]
 by_cases t3:(i1==0)=true
 ·rw[if_pos t3];exact DA ⟨_,rfl,.inl ⟨_,_,rfl,c3.dM (by simpa using t3)⟩⟩
 ·rw[if_neg t3];obtain⟨i2,rfl⟩:∃ z,i1=z+1:=⟨i1-1,by simp at t3;lia⟩
  split
  ·exact DA ⟨_,rfl,.inr ⟨_,i2,j1,_,_,_,rfl,c3,by lia,by lia,by lia⟩⟩
  ·exact DA ⟨_,i2,j1,_,_,_,_,rfl,rfl,c3,by lia,by lia,by lia⟩
end
theorem p0{α:Type}{pre mid post:List α}(h:i<mid.length):(pre++(mid++post))[pre.length+i]? =some mid[i]:=by
 rw[El (by omega),Nat.add_sub_cancel_left,Ep h,Dv h]
theorem tZ{sa:Nat}{post:List Keyed}:∀(m:List Keyed)(j:Nat)(xs:Array Keyed)(pre mid:List Keyed),xs.toList=pre++(mid++post)->mid.length=m.length->sa+j=pre.length →
  ((m.zipIdx j).foldl (fun a p=>a.setIfInBounds (sa+p.2) p.1) xs).toList=pre++(m++post)
 | [],j,xs,pre,mid,e,hl,hp=>by
  obtain rfl:mid=[]:=EC.mp hl;exact e
 | p::m,j,xs,pre,[],e,hl,hp=>by simp at hl
 | p::m,j,xs,pre,c::mid,e,hl,hp=>by
  rw[List.zipIdx_cons,List.foldl_cons];have e2:(xs.setIfInBounds (sa+j) p).toList=(pre++[p])++(mid++post):=by
   rw[Array.toList_setIfInBounds,e,hp,List.set_append_right _ _ (Di _),Nat.sub_self]
   simp
  rw[tZ m (j+1) _ (pre++[p]) mid e2 (by simpa using hl) (by simp;omega)]
  simp
theorem fT{R:Keyed->Keyed->Bool}(W:aX R){a:List Keyed}(hs:a.Pairwise (fun x y=>R y x=false))(hij:i<=j)(hj:j<a.length):R (a[j]) (a[i]'(by omega))=false:=by
 rcases Nat.eq_or_lt_of_le hij with rfl|hlt
 ·exact W.ir _
 ·exact List.pairwise_iff_getElem.mp hs i j (by omega) hj hlt
theorem di{a:List Keyed}{d:Keyed}(h:i<a.length):a.getD i d=a[i]:=by
 rw[EJ,Dv h];rfl
theorem lJ{a:List Keyed}{k:Nat}{x:Keyed}(hx:x∈a.drop k):∃ j,∃ q:j<a.length,k<=j/\x=a[j]:=by
 obtain⟨j,hj,rfl⟩:=EF.mp hx;have hj':k+j<a.length:=by simp at hj;omega
 exact⟨k+j,hj',by omega,by simp⟩
theorem kD{a:List Keyed}{k:Nat}{x:Keyed}(hx:x∈a.take k):∃ j,∃ q:j<a.length,j<k/\x=a[j]:=by
 obtain⟨j,hj,rfl⟩:=EF.mp hx;have hj':j<k/\j<a.length:=by simp at hj;omega
 exact⟨j,hj'.2,hj'.1,by simp⟩
section
variable {prog:Program}{w:World}{A:Around}{E:Value->Shared->Prop}{s:Shared}{κ0:SortKind}{dom:Keyed->Prop}{R:Keyed->Keyed->Bool}{xs:Array Keyed}{pd:Array (Nat×Nat×Nat)}{g:Nat}
theorem wO{σ:Type}{M:Model}{x:σ}{Q:PUnit->σ->Prop}{st:σ}(h:Q ⟨⟩ x):wpS M A E s (set x:StateT σ Sem PUnit) Q st:=by
 unfold wpS;rw[StateT.run_set];exact Df ⟨rfl,h⟩
theorem AB(T:Told prog w A s κ0 dom R)(W:aX R){pw sb pw':Nat}{pre Ra Rb post:List Keyed}(hx:xs.toList=pre++(Ra++(Rb++post)))(hd:∀ p∈xs.toList,dom p)(h1:pd[i]? =some (pre.length,Ra.length,pw))(h2:pd[i+1]? =some (sb,Rb.length,pw'))(hsb:sb=pre.length+Ra.length)(na:0<Ra.length)(nb:0<Rb.length)(sa:Ra.Pairwise (fun x y=>R y x=false))(sb':Rb.Pairwise (fun x y=>R y x=false)){Q:Bool->SortSt->Prop}(h:∀(M:List Keyed)(xs':Array Keyed) g',M.Perm (Ra++Rb)->M.Pairwise (fun x y=>R y x=false)->xs'.toList=pre++(M++post) →
   Q true (ST κ0 xs' ((pd.setIfInBounds i (pre.length,Ra.length+Rb.length,pw)).eraseIdxIfInBounds (i+1)) g')) :
  wpS (model prog w) A E s (mergeAt' i) Q (ST κ0 xs pd g):=by
 have hda:∀ j (q:j<Ra.length),dom Ra[j]:=fun j q=>hd _ (by rw[hx];simp)
 have hdb:∀ j (q:j<Rb.length),dom Rb[j]:=fun j q=>hd _ (by rw[hx];simp)
 have ea:∀ j (q:j<Ra.length),xs[pre.length+j]? =some Ra[j]:=fun j q=>by
  rw[<-DK,hx];exact p0 q
 have eb:∀ j (q:j<Rb.length),xs[sb+j]? =some Rb[j]:=fun j q=>by
  rw[<-DK,hx,hsb,<-Dl,<-Ed];exact p0 q
 refine Ds (wpS_get ?_);dsimp only;rw[h1,h2];refine Ds (wO ?_);have ce:∀ j,j<Ra.length->xs[pre.length+j]? =some (Ra.getD j Rb[0]):=fun j q=>by rw[di q];exact ea j q
 have cb:∀ j,j<Rb.length->xs[sb+j]? =some (Rb.getD j Rb[0]):=fun j q=>by rw[di q];exact eb j q
 have dC:(∀ x∈Ra,∀ y∈Rb,R y x=false)->∀ g',Q true (ST κ0 xs ((pd.setIfInBounds i (pre.length,Ra.length+Rb.length,pw)).eraseIdxIfInBounds (i+1)) g'):=fun hc g'=>
  h (Ra++Rb) xs g' (List.Perm.refl _) (EE.mpr ⟨sa,sb',hc⟩) (by rw[hx,Ed])
 refine Ds (bx (eb 0 nb) ?_);refine Ds (fK T (hdb 0 nb) na (fun j=>Ra.getD j Rb[0]) ce (fun j q=>by rw[di q];exact hda j q) ?_ fun k k1 k2 k3=>?_)
 ·intro x y hxy hy hb;rw[di (by omega)]at hb ⊢
  exact fZ W (fT W sa hxy hy) hb
 have k2':∀ j (q:j<Ra.length),j<k->R Rb[0] Ra[j]=false:=fun j q hj=>by
  have:=k2 j hj
  rw[di q,gb]at this;simpa using this
 have k3':∀ j (q:j<Ra.length),k<=j->R Rb[0] Ra[j]=true:=fun j q hj=>by
  have:=k3 j hj q
  rw[di q,gb]at this;simpa using this
 have lob:∀ y∈Rb,R y Rb[0]=false:=fun y hy=>by
  obtain⟨j,q,rfl⟩:=EF.mp hy;exact fT W sb' (DZ _) q
 dsimp only
 by_cases r1:(Ra.length-k==0)=true
 ·rw[if_pos r1];refine DA (dC (fun x hx' y hy=>?_) g)
  obtain⟨j,q,rfl⟩:=EF.mp hx';exact W.le_trans (k2' j q (by simp at r1;omega)) (lob y hy)
 rw[if_neg r1];have r1':k<Ra.length:=by simp at r1;omega
 have elast:xs[pre.length+k+(Ra.length-k)-1]? =some (Ra[Ra.length-1]'(by omega)):=by
  rw[show pre.length+k+(Ra.length-k)-1=pre.length+(Ra.length-1) by rw[Nat.add_assoc,Nat.add_sub_of_le (Fe r1'),Nat.add_sub_assoc na]]
  exact ea _ _
 refine Ds (bx elast ?_);refine Ds (fK T (hda _ _) (by omega) (fun j=>Rb.getD j Rb[0]) cb (fun j q=>by rw[di q];exact hdb j q) ?_ fun n n1 n2 n3=>?_)
 ·intro x y hxy hy hb;rw[di (by omega)]at hb ⊢
  exact fZ W (fT W sb' hxy hy) hb
 have n2':∀ j (q:j<Rb.length),j<n->R Rb[j] (Ra[Ra.length-1]'(by omega))=true:=fun j q hj=>by
  have:=n2 j hj
  rw[di q,fS]at this;exact this
 have n3':∀ j (q:j<Rb.length),n<=j->R Rb[j] (Ra[Ra.length-1]'(by omega))=false:=fun j q hj=>by
  have:=n3 j hj q
  rw[di q,fS]at this;exact this
 have hia:∀ x∈Ra,R (Ra[Ra.length-1]'(by omega)) x=false:=fun x hx'=>by
  obtain⟨j,q,rfl⟩:=EF.mp hx';exact fT W sa (by omega) (by omega)
 dsimp only
 by_cases r2:(n==0)=true
 ·rw[if_pos r2];refine DA (dC (fun x hx' y hy=>?_) g)
  obtain⟨j,q,rfl⟩:=EF.mp hy;exact W.le_trans (hia x hx') (n3' j q (by simp at r2;omega))
 rw[if_neg r2];have r2':0<n:=by simp at r2;omega
 have ex:(xs.extract (pre.length+k) sb).toList=Ra.drop k:=by
  rw[EX,hx,E9,hsb,List.drop_append,List.drop_of_length_le (l:=pre) (by omega),List.nil_append,Nat.add_sub_cancel_left,List.drop_append_of_le_length (by omega),Fc (by simp;omega)]
  exact Ec (by simp;omega)
 have ey:(xs.extract sb (sb+n)).toList=Rb.take n:=by
  rw[EX,hx,E9,hsb,<-Ed,List.drop_append_of_le_length (by simp),Nat.add_sub_cancel_left,<-Dl,List.drop_length,List.nil_append,Fc n1]
 generalize xs.extract (pre.length+k) sb=ax at ex ⊢;generalize xs.extract sb (sb+n)=by' at ey ⊢;have zx:ax.size=Ra.length-k:=by rw[<-DJ,ex];simp
 have zy:by'.size=n:=by rw[<-DJ,ey];simp;omega
 have dx:∀ p∈ax.toList,dom p:=fun p hp=>by
  rw[ex]at hp;exact hd p (by rw[hx];simp [List.mem_of_mem_drop hp])
 have dy:∀ p∈by'.toList,dom p:=fun p hp=>by
  rw[ey]at hp;exact hd p (by rw[hx];simp [List.mem_of_mem_take hp])
 have sx:ax.toList.Pairwise (fun x y=>R y x=false):=by rw[ex];exact sa.sublist (List.drop_sublist ..)
 have sy:by'.toList.Pairwise (fun x y=>R y x=false):=by rw[ey];exact sb'.sublist (List.take_sublist ..)
 have y0:by'[0]'(by omega)=Rb[0]:=by
  have:by'.toList[0]'(by simp;omega)=Rb[0]:=by simp only[ey,List.getElem_take]
  simpa using this
 have hx0:∀ x∈ax.toList,R x (by'[0]'(by omega))=false:=fun x hx'=>by
  rw[y0];rw[ex]at hx'
  obtain⟨j,q,q1,rfl⟩:=lJ hx';exact W.le_of_lt (k3' j q q1)
 have hyl:∀ y∈by'.toList,∀ z∈ax.toList.getLast?,R z y=false:=fun y hy z hz=>by
  rw[ey]at hy;rw[ex,List.getLast?_drop,if_neg (by omega),List.getLast?_eq_getElem?,Dv (by omega)]at hz
  obtain rfl:=DL hz;obtain⟨j,q,q1,rfl⟩:=kD hy;exact W.le_of_lt (n2' j q q1)
 have fin:∀(m:Array Keyed) g',Mrg R ax.toList by'.toList m.toList->Q true (ST κ0 (m.toList.zipIdx.foldl (fun a x=>a.setIfInBounds (pre.length+k+x.snd) x.fst) xs) ((pd.setIfInBounds i (pre.length,Ra.length+Rb.length,pw)).eraseIdxIfInBounds (i+1)) g'):=fun m g' hm=>by
  rw[ex,ey]at hm;have hml:m.toList.length=(Ra.drop k++Rb.take n).length:=hm.1.length_eq;have pmA:(Ra.take k++(m.toList++Rb.drop n)).Perm (Ra++Rb):=by
   have e1:(Ra.take k++((Ra.drop k++Rb.take n)++Rb.drop n))=Ra++Rb:=by
    rw[Ed,Em,<-Ed,Em]
   rw[<-e1]
   exact(hm.1.append_right _).append_left _
  have mm:∀ x∈m.toList,x∈Ra.drop k\/x∈Rb.take n:=fun x hx'=>Dp.mp (hm.1.mem_iff.mp hx')
  have sp:(Ra.take k++(m.toList++Rb.drop n)).Pairwise (fun x y=>R y x=false):=by
   refine EE.mpr ⟨sa.sublist (List.take_sublist ..),EE.mpr ⟨hm.2,sb'.sublist (List.drop_sublist ..),fun x hx' y hy=>?_⟩,fun x hx' y hy=>?_⟩
   ·obtain⟨j,q,q1,rfl⟩:=lJ hy;rcases mm x hx' with hx'|hx'
    ·exact W.le_trans (hia x (List.mem_of_mem_drop hx')) (n3' j q q1)
    ·obtain⟨j',q',q1',rfl⟩:=kD hx';exact fT W sb' (by omega) q
   ·obtain⟨j,q,q1,rfl⟩:=kD hx';have viaB:∀ y∈Rb,R y Ra[j]=false:=fun y hy=>W.le_trans (k2' j q q1) (lob y hy)
    rcases Dp.mp hy with hy|hy
    ·rcases mm y hy with hy|hy
     ·obtain⟨j',q',q1',rfl⟩:=lJ hy;exact fT W sa (by omega) q'
     ·exact viaB y (List.mem_of_mem_take hy)
    ·exact viaB y (List.mem_of_mem_drop hy)
  refine h _ _ g' pmA sp ?_;have ew:=tZ (sa:=pre.length+k) (post:=Rb.drop n++post) m.toList 0 xs (pre++Ra.take k) (Ra.drop k++Rb.take n) (by
   rw[hx];have e1:Ra=Ra.take k++Ra.drop k:=(Em k Ra).symm;have e2:Rb=Rb.take n++Rb.drop n:=(Em n Rb).symm
   conv=>lhs;rw[e1,e2]
   simp only[Ed]) hml.symm (by simp;omega)
  rw[ew];simp only[Ed]
 by_cases r3:Ra.length-k<=n
 ·rw[if_pos r3];refine Ds (xk T W (by omega) (by omega) dx dy sx sy hx0 hyl fun m g' hm=>?_)
  refine Ds (EO (Ds (wpS_get (DA ?_))));exact fin m g' hm
 ·rw[if_neg r3];refine Ds (xW T W (by omega) (by omega) dx dy sx sy hx0 hyl fun m g' hm=>?_)
  refine Ds (EO (Ds (wpS_get (DA ?_))));exact fin m g' hm
end
set_option maxHeartbeats 4000000
noncomputable abbrev eA (xs:Array Keyed)(k:Nat):Keyed:=elD xs (Value.none,Value.none) k
structure Sl (xs0 xs:Array Keyed)(lo:Nat):Prop where
 pm:xs.Perm xs0
 pr:∀ k,k<lo->xs[k]? = xs0[k]?
theorem Sl.refl{xs:Array Keyed}:Sl xs xs lo:=⟨Array.Perm.refl _,fun _ _=>rfl⟩
theorem Sl.size{xs0 xs:Array Keyed}(h:Sl xs0 xs lo):xs.size=xs0.size:=h.pm.size_eq
theorem Sl.dom{xs0 xs:Array Keyed}(h:Sl xs0 xs lo){dom:Keyed->Prop}(hd:∀ p∈xs0.toList,dom p):∀ p∈xs.toList,dom p:=fun p hp=>
 hd p ((Fm.mp h.pm).mem_iff.mp hp)
theorem Sl.mirror{xs0 xs:Array Keyed}(h:Sl xs0 xs lo)(hi:lo<=i)(hj:j<=xs.size):Sl xs0 (mirror xs i j ((j-i) / 2)) lo:=
 ⟨(mirror_perm _ _ _ _).trans h.pm,fun k hk=>by rw[getElem?_mirror_all hj,if_neg (by lia)];exact h.pr k hk⟩
theorem Sl.bubble{xs0 xs:Array Keyed}{src d:Nat}(h:Sl xs0 xs lo)(hi:lo+d<=src)(hj:src<xs.size):Sl xs0 (bubble xs src d) lo:=
 ⟨(bubble_perm _ _ _).trans h.pm,fun k hk=>by rw[getElem?_bubble hj d (by lia),if_neg (by lia),if_neg (by lia)];exact h.pr k hk⟩
theorem jn{xs:Array Keyed}(hj:j<=xs.size)(k:Nat):eA (mirror xs i j ((j-i) / 2)) k=if i<=k/\k<j then eA xs (i+j-1-k) else eA xs k:=by
 show((mirror xs i j ((j-i) / 2))[k]?).getD _=_
 rw[getElem?_mirror_all hj]
 split <;> rfl
theorem ub{xs:Array Keyed}{src d:Nat}(hs:src<xs.size)(hd:d<=src)(k:Nat):eA (bubble xs src d) k=if k=src-d then eA xs src else if src-d<k/\k<=src then eA xs (k-1) else eA xs k:=by
 show((bubble xs src d)[k]?).getD _=_
 rw[getElem?_bubble hs d hd]
 split
 ·rfl
 ·split <;> rfl
noncomputable def Asc (R:Keyed->Keyed->Bool)(xs:Array Keyed)(lo n:Nat):Prop:=∀ i j,i<=j->j<n->R (eA xs (lo+j)) (eA xs (lo+i))=false
noncomputable def Dsc (R:Keyed->Keyed->Bool)(xs:Array Keyed)(lo n:Nat):Prop:=∀ i j,i<=j->j<n->R (eA xs (lo+i)) (eA xs (lo+j))=false
noncomputable def Alk (R:Keyed->Keyed->Bool)(xs:Array Keyed)(lo p q:Nat):Prop:=∀ i j,p<=i->i<q->p<=j->j<q->R (eA xs (lo+i)) (eA xs (lo+j))=false
theorem Asc.one{R:Keyed->Keyed->Bool}(W:aX R){xs:Array Keyed}:Asc R xs lo 1:=fun i j h1 h2=>by
 have:i=j:=by lia
 subst this;exact W.ir _
theorem Asc.more{R:Keyed->Keyed->Bool}(W:aX R){xs:Array Keyed}(h:Asc R xs lo n)(h1:1<=n)(hn:R (eA xs (lo+n)) (eA xs (lo+n-1))=false):Asc R xs lo (n+1):=fun i j hij hj=>by
 by_cases q:j<n
 ·exact h i j hij q
 ·obtain rfl:j=n:=by lia
  by_cases q':i=j
  ·subst q';exact W.ir _
  ·have:=h i (j-1) (by lia) (by lia)
   rw[show lo+(j-1)=lo+j-1 by lia]at this
   exact W.le_trans this hn
theorem Dsc.more{R:Keyed->Keyed->Bool}(W:aX R){xs:Array Keyed}(h:Dsc R xs lo n)(h1:1<=n)(hn:R (eA xs (lo+n-1)) (eA xs (lo+n))=false):Dsc R xs lo (n+1):=fun i j hij hj=>by
 by_cases q:j<n
 ·exact h i j hij q
 ·obtain rfl:j=n:=by lia
  by_cases q':i=j
  ·subst q';exact W.ir _
  ·have:=h i (j-1) (by lia) (by lia)
   rw[show lo+(j-1)=lo+j-1 by lia]at this
   exact W.le_trans hn this
theorem Dsc.turn{R:Keyed->Keyed->Bool}{xs:Array Keyed}{p q a b:Nat}(h:Dsc R xs lo n)(hb:Alk R xs lo p q)(hpq:p<=q)(hq:q<=n)(hs:lo+n<=xs.size)(ea:a=lo+p)(eb:b=lo+q) :
  Dsc R (mirror xs a b ((b-a) / 2)) lo n:=by
 subst ea eb;intro i j hij hj;rw[jn (by lia),jn (by lia)]
 by_cases c1:p<=i/\i<q
 ·rw[if_pos (by lia),show lo+p+(lo+q)-1-(lo+i)=lo+(p+q-1-i) by lia]
  by_cases c2:p<=j/\j<q
  ·rw[if_pos (by lia),show lo+p+(lo+q)-1-(lo+j)=lo+(p+q-1-j) by lia]
   exact hb _ _ (by lia) (by lia) (by lia) (by lia)
  ·rw[if_neg (by lia)]
   exact h _ _ (by lia) hj
 ·rw[if_neg (by lia)]
  by_cases c2:p<=j/\j<q
  ·rw[if_pos (by lia),show lo+p+(lo+q)-1-(lo+j)=lo+(p+q-1-j) by lia]
   exact h _ _ (by lia) (by lia)
  ·rw[if_neg (by lia)]
   exact h _ _ hij hj
theorem Dsc.over{R:Keyed->Keyed->Bool}{xs:Array Keyed}(h:Dsc R xs lo n)(hs:lo+n<=xs.size):Asc R (mirror xs lo (lo+n) ((lo+n-lo) / 2)) lo n:=by
 intro i j hij hj;rw[jn (by lia),jn (by lia),if_pos (by lia),if_pos (by lia),show lo+(lo+n)-1-(lo+i)=lo+(n-1-i) by lia,show lo+(lo+n)-1-(lo+j)=lo+(n-1-j) by lia]
 exact h _ _ (by lia) (by lia)
section
variable {prog:Program}{w:World}{A:Around}{E:Value->Shared->Prop}{s:Shared}{κ0:SortKind}{dom:Keyed->Prop}{R:Keyed->Keyed->Bool}{xs xs0:Array Keyed}{pd:Array (Nat×Nat×Nat)}{g:Nat}
theorem dP(T:Told prog w A s κ0 dom R)(hd:∀ p∈xs.toList,dom p)(hi:i<xs.size)(hj:j<xs.size){Q:Option Bool->SortSt->Prop}(h:Q (some (R (eA xs i) (eA xs j))) (ST κ0 xs pd g)) :
  wpS (model prog w) A E s (ltAt' i j) Q (ST κ0 xs pd g):=
 yV T (fJ hi) (fJ hj) (hd _ (by rw[bH hi];simp)) (hd _ (by rw[bH hj];simp)) h
theorem xm(T:Told prog w A s κ0 dom R)(W:aX R)(hd:∀ p∈xs.toList,dom p){nrem:Nat}(hn:lo+nrem<=xs.size)(h1:1<=nrem){Q:Option Nat->SortSt->Prop}(h:∀ m xs',1<=m->m<=nrem->Sl xs xs' lo->Asc R xs' lo m->Q (some m) (ST κ0 xs' pd g)) :
  wpS (model prog w) A E s (countRun' lo nrem) Q (ST κ0 xs pd g):=by
 refine Ds (ES (Ex (I:=fun x c st'=>c=(none,x)/\st'=ST κ0 xs pd g/\Asc R xs lo x)
  (Q:=fun c st'=>st'=ST κ0 xs pd g/\∃ n,c=(none,n)/\1<=n/\n<=nrem/\Asc R xs lo n/\(n=nrem\/R (eA xs (lo+n)) (eA xs (lo+n-1))=true)) ?_ ?_ ?_) ?_)
 ·rintro x c st' hx1 hx2 ⟨rfl,rfl,k1⟩;dsimp only;refine Ds (dP T hd (by lia) (by lia) ?_)
  cases hw:R (eA xs (lo+x)) (eA xs (lo+x-1)) with
  | true=>exact DA ⟨rfl,x,rfl,hx1,by lia,k1,.inr hw⟩
  | false=>exact DA ⟨rfl,rfl,k1.more W hx1 hw⟩
 ·rintro c st' ⟨rfl,rfl,k1⟩;rw[show max 1 nrem=nrem by lia]at k1 ⊢
  exact⟨rfl,nrem,rfl,h1,Di _,k1,.inl rfl⟩
 ·exact⟨rfl,rfl,Asc.one W⟩
 rintro c st' ⟨rfl,n,rfl,n1,n2,n3,n4⟩;dsimp only
 by_cases hnn:(n==nrem)=true
 ·rw[if_pos hnn];exact DA (h n xs n1 n2 .refl n3)
 rw[if_neg hnn];have hnn':n<nrem:=by simp at hnn;lia
 have hlt:=n4.resolve_left (by lia)
 by_cases hgt:n > 1
 ·rw[if_pos hgt];refine Ds (dP T hd (by lia) (by lia) ?_)
  cases hr:R (eA xs lo) (eA xs (lo+n-1)) with
  | true=>
   exact DA (h n xs n1 n2 .refl n3)
  | false=>
   dsimp only;simp only[Dx,if_false];have alk:Alk R xs lo 0 n:=fun i j _ hi _ hj=>by
    have a1:=n3 0 i (DZ _) hi;have a2:=n3 j (n-1) (by lia) (by lia)
    rw[show lo+(n-1)=lo+n-1 by lia]at a2
    rw[Nat.add_zero]at a1;have a3:=n3 0 j (DZ _) hj;have a4:=n3 i (n-1) (by lia) (by lia)
    rw[show lo+(n-1)=lo+n-1 by lia]at a4
    rw[Nat.add_zero]at a3;exact W.le_trans a2 (W.le_trans hr a1)
   refine Ds (EO ?_);have D0:Dsc R xs lo n:=fun i j hij hj=>alk i j (by lia) (by lia) (by lia) hj
   have S:Sl xs (mirror xs lo (lo+n) ((lo+n-lo) / 2)) lo:=Sl.refl.mirror (Di _) (by lia)
   have D:Dsc R (mirror xs lo (lo+n) ((lo+n-lo) / 2)) lo (n+1):=Dsc.turn (p:=0) (q:=n) (D0.more W n1 (W.le_of_lt hlt)) alk (by lia) (by lia) (by lia) rfl rfl
   refine Ds (wpS_lift (Fg ⟨rfl,?_⟩));refine Ds (ES (Ex (I:=fun x c st'=>∃ neq zs,c=(none,x,neq)/\st'=ST κ0 zs pd g/\Sl xs zs lo/\Dsc R zs lo x/\neq+1<=x/\Alk R zs lo (x-(neq+1)) x)
    (Q:=fun c st'=>∃ m neq zs,c=(none,m,neq)/\st'=ST κ0 zs pd g/\n+1<=m/\m<=nrem/\Sl xs zs lo/\Dsc R zs lo m/\neq+1<=m/\Alk R zs lo (m-(neq+1)) m) ?_ ?_ ?_) ?_)
   ·rintro x c st' hx1 hx2 ⟨neq,zs,rfl,rfl,S',D',q1,q2⟩;have hz:=S'.size;dsimp only;refine Ds (dP T (S'.dom hd) (by lia) (by lia) ?_)
    cases hw:R (eA zs (lo+x)) (eA zs (lo+x-1)) with
    | true=>
     dsimp only;simp only[if_true];have D2:=D'.more W (by lia) (W.le_of_lt hw)
     by_cases hq:neq > 0
     ·rw[if_pos hq];refine Ds (EO (DA ⟨0,_,rfl,rfl,S'.mirror (by lia) (by lia),D2.turn q2 (by lia) (by lia) (by lia) (by lia) rfl,by lia,fun i j a1 a2 a3 a4=>?_⟩))
      obtain rfl:i=x:=by lia
      obtain rfl:j=i:=by lia
      exact W.ir _
     ·rw[if_neg hq];refine DA ⟨0,zs,rfl,rfl,S',D2,by lia,fun i j a1 a2 a3 a4=>?_⟩
      obtain rfl:i=x:=by lia
      obtain rfl:j=i:=by lia
      exact W.ir _
    | false=>
     dsimp only;simp only[Dx,if_false];refine Ds (dP T (S'.dom hd) (by lia) (by lia) ?_)
     cases hw2:R (eA zs (lo+x-1)) (eA zs (lo+x)) with
     | true=>exact DA ⟨x,neq,zs,rfl,rfl,hx1,by lia,S',D',q1,q2⟩
     | false=>
      refine DA ⟨neq+1,zs,rfl,rfl,S',D'.more W (by lia) hw2,by lia,fun i j a1 a2 a3 a4=>?_⟩
      have e1:lo+x-1=lo+(x-1):=by lia
      rw[e1]at hw hw2
      by_cases b1:i=x
      ·subst b1
       by_cases b2:j=i
       ·subst b2;exact W.ir _
       ·exact W.le_trans (q2 (i-1) j (by lia) (by lia) (by lia) (by lia)) hw
      ·by_cases b2:j=x
       ·subst b2;exact W.le_trans hw2 (q2 i (j-1) (by lia) (by lia) (by lia) (by lia))
       ·exact q2 i j (by lia) (by lia) (by lia) (by lia)
   ·rintro c st' ⟨neq,zs,rfl,rfl,S',D',q1,q2⟩;rw[show max (n+1) nrem=nrem by lia]at *
    exact⟨nrem,neq,zs,rfl,rfl,by lia,Di _,S',D',q1,q2⟩
   ·refine⟨0,_,rfl,rfl,S,D,by lia,fun i j a1 a2 a3 a4=>?_⟩
    obtain rfl:i=n:=by lia
    obtain rfl:j=i:=by lia
    exact W.ir _
   rintro c st' ⟨m,neq,zs,rfl,rfl,m1,m2,S2,D2,q1,q2⟩;dsimp only;have hz:=S2.size
   by_cases hq:neq > 0
   case' pos=>
    rw[if_pos hq];refine Ds (EO ?_);have D3:Dsc R (mirror zs (lo+m-(neq+1)) (lo+m) ((lo+m-(lo+m-(neq+1))) / 2)) lo m:=D2.turn q2 (by lia) (by lia) (by lia) (by lia) rfl
    have S3:Sl xs (mirror zs (lo+m-(neq+1)) (lo+m) ((lo+m-(lo+m-(neq+1))) / 2)) lo:=S2.mirror (by lia) (by lia)
    show wpS _ _ _ _ _ _ (ST κ0 (mirror zs (lo+m-(neq+1)) (lo+m) ((lo+m-(lo+m-(neq+1))) / 2)) pd g)
    generalize mirror zs (lo+m-(neq+1)) (lo+m) ((lo+m-(lo+m-(neq+1))) / 2)=y3 at D3 S3 ⊢
   case' neg=>
    rw[if_neg hq];have D3:=D2;have S3:=S2;generalize zs=y3 at D3 S3 ⊢
   all_goals
    refine Ds (EO ?_);have hz3:=S3.size;have A4:=D3.over (by lia)
    have S4:=S3.mirror (i:=lo) (j:=lo+m) (Di _) (by lia)
    show wpS _ _ _ _ _ _ (ST κ0 (mirror y3 lo (lo+m) ((lo+m-lo) / 2)) pd g)
    generalize mirror y3 lo (lo+m) ((lo+m-lo) / 2)=y4 at A4 S4 ⊢;have hz4:=S4.size;refine Ds (ES (Ex (I:=fun x c st'=>c=(none,x)/\st'=ST κ0 y4 pd g/\Asc R y4 lo x)
     (Q:=fun c st'=>st'=ST κ0 y4 pd g/\∃ n,c=(none,n)/\1<=n/\n<=nrem/\Asc R y4 lo n) ?_ ?_ ⟨rfl,rfl,A4⟩) ?_)
    ·rintro x c st' hx1 hx2 ⟨rfl,rfl,k1⟩;dsimp only;refine Ds (dP T (S4.dom hd) (by lia) (by lia) ?_)
     cases hw:R (eA y4 (lo+x)) (eA y4 (lo+x-1)) with
     | true=>exact DA ⟨rfl,x,rfl,by lia,by lia,k1⟩
     | false=>exact DA ⟨rfl,rfl,k1.more W (by lia) hw⟩
    ·rintro c st' ⟨rfl,rfl,k1⟩;rw[show max m nrem=nrem by lia]at k1 ⊢
     exact⟨rfl,nrem,rfl,by lia,Di _,k1⟩
    rintro c st' ⟨rfl,n',rfl,b1,b2,b3⟩;exact DA (h n' _ b1 b2 S4 b3)
 ·rw[if_neg hgt];have hn1:n=1:=by lia
  have S:Sl xs xs lo:=.refl;have D:Dsc R xs lo (n+1):=by
   refine Dsc.more W (fun i j hij hj=>?_) (by lia) (W.le_of_lt hlt)
   have:i=j:=by lia
   subst this;exact W.ir _
  refine Ds (wpS_lift (Fg ⟨rfl,?_⟩));refine Ds (ES (Ex (I:=fun x c st'=>∃ neq zs,c=(none,x,neq)/\st'=ST κ0 zs pd g/\Sl xs zs lo/\Dsc R zs lo x/\neq+1<=x/\Alk R zs lo (x-(neq+1)) x)
   (Q:=fun c st'=>∃ m neq zs,c=(none,m,neq)/\st'=ST κ0 zs pd g/\n+1<=m/\m<=nrem/\Sl xs zs lo/\Dsc R zs lo m/\neq+1<=m/\Alk R zs lo (m-(neq+1)) m) ?_ ?_ ?_) ?_)
  ·rintro x c st' hx1 hx2 ⟨neq,zs,rfl,rfl,S',D',q1,q2⟩;have hz:=S'.size;dsimp only;refine Ds (dP T (S'.dom hd) (by lia) (by lia) ?_)
   cases hw:R (eA zs (lo+x)) (eA zs (lo+x-1)) with
   | true=>
    dsimp only;simp only[if_true];have D2:=D'.more W (by lia) (W.le_of_lt hw)
    by_cases hq:neq > 0
    ·rw[if_pos hq];refine Ds (EO (DA ⟨0,_,rfl,rfl,S'.mirror (by lia) (by lia),D2.turn q2 (by lia) (by lia) (by lia) (by lia) rfl,by lia,fun i j a1 a2 a3 a4=>?_⟩))
     obtain rfl:i=x:=by lia
     obtain rfl:j=i:=by lia
     exact W.ir _
    ·rw[if_neg hq];refine DA ⟨0,zs,rfl,rfl,S',D2,by lia,fun i j a1 a2 a3 a4=>?_⟩
     obtain rfl:i=x:=by lia
     obtain rfl:j=i:=by lia
     exact W.ir _
   | false=>
    dsimp only;simp only[Dx,if_false];refine Ds (dP T (S'.dom hd) (by lia) (by lia) ?_)
    cases hw2:R (eA zs (lo+x-1)) (eA zs (lo+x)) with
    | true=>exact DA ⟨x,neq,zs,rfl,rfl,hx1,by lia,S',D',q1,q2⟩
    | false=>
     refine DA ⟨neq+1,zs,rfl,rfl,S',D'.more W (by lia) hw2,by lia,fun i j a1 a2 a3 a4=>?_⟩
     have e1:lo+x-1=lo+(x-1):=by lia
     rw[e1]at hw hw2
     by_cases b1:i=x
     ·subst b1
      by_cases b2:j=i
      ·subst b2;exact W.ir _
      ·exact W.le_trans (q2 (i-1) j (by lia) (by lia) (by lia) (by lia)) hw
     ·by_cases b2:j=x
      ·subst b2;exact W.le_trans hw2 (q2 i (j-1) (by lia) (by lia) (by lia) (by lia))
      ·exact q2 i j (by lia) (by lia) (by lia) (by lia)
  ·rintro c st' ⟨neq,zs,rfl,rfl,S',D',q1,q2⟩;rw[show max (n+1) nrem=nrem by lia]at *
   exact⟨nrem,neq,zs,rfl,rfl,by lia,Di _,S',D',q1,q2⟩
  ·refine⟨0,_,rfl,rfl,S,D,by lia,fun i j a1 a2 a3 a4=>?_⟩
   obtain rfl:i=n:=by lia
   obtain rfl:j=i:=by lia
   exact W.ir _
  rintro c st' ⟨m,neq,zs,rfl,rfl,m1,m2,S2,D2,q1,q2⟩;dsimp only;have hz:=S2.size
  by_cases hq:neq > 0
  case' pos=>
   rw[if_pos hq];refine Ds (EO ?_);have D3:Dsc R (mirror zs (lo+m-(neq+1)) (lo+m) ((lo+m-(lo+m-(neq+1))) / 2)) lo m:=D2.turn q2 (by lia) (by lia) (by lia) (by lia) rfl
   have S3:Sl xs (mirror zs (lo+m-(neq+1)) (lo+m) ((lo+m-(lo+m-(neq+1))) / 2)) lo:=S2.mirror (by lia) (by lia)
   show wpS _ _ _ _ _ _ (ST κ0 (mirror zs (lo+m-(neq+1)) (lo+m) ((lo+m-(lo+m-(neq+1))) / 2)) pd g)
   generalize mirror zs (lo+m-(neq+1)) (lo+m) ((lo+m-(lo+m-(neq+1))) / 2)=y3 at D3 S3 ⊢
  case' neg=>
   rw[if_neg hq];have D3:=D2;have S3:=S2;generalize zs=y3 at D3 S3 ⊢
  all_goals
   refine Ds (EO ?_);have hz3:=S3.size;have A4:=D3.over (by lia)
   have S4:=S3.mirror (i:=lo) (j:=lo+m) (Di _) (by lia)
   show wpS _ _ _ _ _ _ (ST κ0 (mirror y3 lo (lo+m) ((lo+m-lo) / 2)) pd g)
   generalize mirror y3 lo (lo+m) ((lo+m-lo) / 2)=y4 at A4 S4 ⊢;have hz4:=S4.size;refine Ds (ES (Ex (I:=fun x c st'=>c=(none,x)/\st'=ST κ0 y4 pd g/\Asc R y4 lo x)
    (Q:=fun c st'=>st'=ST κ0 y4 pd g/\∃ n,c=(none,n)/\1<=n/\n<=nrem/\Asc R y4 lo n) ?_ ?_ ⟨rfl,rfl,A4⟩) ?_)
   ·rintro x c st' hx1 hx2 ⟨rfl,rfl,k1⟩;dsimp only;refine Ds (dP T (S4.dom hd) (by lia) (by lia) ?_)
    cases hw:R (eA y4 (lo+x)) (eA y4 (lo+x-1)) with
    | true=>exact DA ⟨rfl,x,rfl,by lia,by lia,k1⟩
    | false=>exact DA ⟨rfl,rfl,k1.more W (by lia) hw⟩
   ·rintro c st' ⟨rfl,rfl,k1⟩;rw[show max m nrem=nrem by lia]at k1 ⊢
    exact⟨rfl,nrem,rfl,by lia,Di _,k1⟩
   rintro c st' ⟨rfl,n',rfl,b1,b2,b3⟩;exact DA (h n' _ b1 b2 S4 b3)
end
set_option maxHeartbeats 4000000
section
variable {prog:Program}{w:World}{A:Around}{E:Value->Shared->Prop}{s:Shared}{κ0:SortKind}{dom:Keyed->Prop}{R:Keyed->Keyed->Bool}{xs xs0:Array Keyed}{pd:Array (Nat×Nat×Nat)}{g:Nat}
theorem Sl.trans{a b c:Array Keyed}(h1:Sl a b lo)(h2:Sl b c lo):Sl a c lo:=⟨h2.pm.trans h1.pm,fun k hk=>(h2.pr k hk).trans (h1.pr k hk)⟩
theorem xI(T:Told prog w A s κ0 dom R)(W:aX R)(hd:∀ p∈xs.toList,dom p){ok:Nat}(hn:lo+n<=xs.size)(hok:ok<=n)(ha:Asc R xs lo ok){Q:Bool->SortSt->Prop}(h:∀ xs',Sl xs xs' lo->Asc R xs' lo n->Q true (ST κ0 xs' pd g)) :
  wpS (model prog w) A E s (binarySort' lo n ok) Q (ST κ0 xs pd g):=by
 refine Ds (ES (Ex (I:=fun k c st'=>c=(none,())/\∃ ys,st'=ST κ0 ys pd g/\Sl xs ys lo/\Asc R ys lo (min k n))
  (Q:=fun c st'=>c=(none,())/\∃ ys,st'=ST κ0 ys pd g/\Sl xs ys lo/\Asc R ys lo n) ?_ ?_ ?_) ?_)
 ·rintro k c st' hk1 hk2 ⟨rfl,ys,rfl,S,As⟩;rw[Nat.min_eq_left (Fe hk2)]at As;have hz:=S.size;refine Ds (ES (Ex (I:=fun x c st'=>st'=ST κ0 ys pd g/\∃ l r,c=(none,l,r)/\l<=r/\r<=k/\r-l<=k-x/\(∀ i,i<l->R (eA ys (lo+k)) (eA ys (lo+i))=false)/\(∀ i,r<=i->i<k->R (eA ys (lo+k)) (eA ys (lo+i))=true))
   (Q:=fun c st'=>st'=ST κ0 ys pd g/\∃ l r,c=(none,l,r)/\l<=k/\(∀ i,i<l->R (eA ys (lo+k)) (eA ys (lo+i))=false)/\(∀ i,l<=i->i<k->R (eA ys (lo+k)) (eA ys (lo+i))=true)) ?_ ?_ ?_) ?_)
  ·rintro x c st' _ hx ⟨rfl,l,r,rfl,h1,h2,h3,h4,h5⟩;dsimp only
   by_cases hge:l ≥ r
   ·rw[if_pos hge];obtain rfl:l=r:=by lia
    exact DA ⟨rfl,l,l,rfl,h2,h4,h5⟩
   ·rw[if_neg hge];refine Ds (dP T (S.dom hd) (by lia) (by lia) ?_)
    cases hw:R (eA ys (lo+k)) (eA ys (lo+(l+r) / 2)) with
    | true=>
     refine DA ⟨rfl,l,(l+r) / 2,rfl,by lia,by lia,by lia,h4,fun i q1 q2=>?_⟩
     exact W.Ac hw (As ((l+r) / 2) i q1 q2)
    | false=>
     refine DA ⟨rfl,(l+r) / 2+1,r,rfl,by lia,h2,by lia,fun i q=>?_,h5⟩
     exact W.le_trans (As i ((l+r) / 2) (by lia) (by lia)) hw
  ·rintro c st' ⟨rfl,l,r,rfl,h1,h2,h3,h4,h5⟩;obtain rfl:l=r:=by lia
   exact⟨rfl,l,l,rfl,h2,h4,h5⟩
  ·exact⟨rfl,0,k,rfl,by lia,by lia,by lia,fun i q=>by lia,fun i q1 q2=>by lia⟩
  ·rintro c st' ⟨rfl,l,r,rfl,h2,h4,h5⟩;dsimp only;refine Ds (EO (DA ⟨rfl,bubble ys (lo+k) (lo+k-(lo+l)),rfl,S.trans (Sl.refl.bubble (by lia) (by lia)),?_⟩))
   rw[show min (k+1) n=k+1 by lia]
   intro i j hij hj;rw[ub (by lia) (by lia),ub (by lia) (by lia),show lo+k-(lo+k-(lo+l))=lo+l by lia]
   have e1:∀ z,l<z->lo+z-1=lo+(z-1):=fun z hz=>by lia
   by_cases c1:i=l
   ·rw[if_pos (show lo+i=lo+l by lia)]
    by_cases c2:j=l
    ·rw[if_pos (by lia)];exact W.ir _
    ·rw[if_neg (by lia),if_pos (by lia),e1 j (by lia)]
     exact W.le_of_lt (h5 (j-1) (by lia) (by lia))
   ·rw[if_neg (show ¬ lo+i=lo+l by lia)]
    by_cases c2:j=l
    ·rw[if_pos (by lia),if_neg (by lia)]
     exact h4 i (by lia)
    ·rw[if_neg (show ¬ lo+j=lo+l by lia)]
     by_cases c3:l<i
     ·rw[if_pos (by lia),if_pos (by lia),e1 i c3,e1 j (by lia)]
      exact As _ _ (by lia) (by lia)
     ·rw[if_neg (show ¬ (lo+l<lo+i/\lo+i<=lo+k) by lia)]
      by_cases c4:l<j
      ·rw[if_pos (by lia),e1 j c4]
       exact As _ _ (by lia) (by lia)
      ·rw[if_neg (by lia)]
       exact As _ _ hij (by lia)
 ·rintro c st' ⟨rfl,ys,rfl,S,As⟩;rw[show min (max (max ok 1) n) n=n by lia]at As
  exact⟨rfl,ys,rfl,S,As⟩
 ·refine⟨rfl,xs,rfl,.refl,fun i j hij hj=>?_⟩
  by_cases q:j<ok
  ·exact ha i j hij q
  ·obtain rfl:i=j:=by lia
   exact W.ir _
 ·rintro c st' ⟨rfl,ys,rfl,S,As⟩;exact DA (h ys S As)
noncomputable def starts:Nat->List (List Keyed)->List (Nat×Nat)
 | _,[]=>[]
 | s,r::rs=>(s,r.length)::starts (s+r.length) rs
theorem starts_app:∀(s:Nat)(a b:List (List Keyed)),starts s (a++b)=starts s a++starts (s+a.flatten.length) b
 | s,[],b=>by simp [starts]
 | s,r::a,b=>by
  simp only[List.cons_append,starts,starts_app (s+r.length) a b]
  simp [Nat.add_assoc]
theorem kU:∀(s:Nat)(a:List (List Keyed)),(starts s a).length=a.length
 | s,[]=>rfl
 | s,r::a=>by simp [starts,kU (s+r.length) a]
structure Runs (R:Keyed->Keyed->Bool)(xs0 xs:Array Keyed)(pd:Array (Nat×Nat×Nat))(lo:Nat)(runs:List (List Keyed))(rest:List Keyed):Prop where
 ls:xs.toList=runs.flatten++rest
 pm:xs.Perm xs0
 ln:runs.flatten.length=lo
 ne:∀ r∈runs,0<r.length
 up:∀ r∈runs,r.Pairwise (fun x y=>R y x=false)
 pd:pd.toList.map (fun t=>(t.1,t.2.1))=starts 0 runs
theorem Runs.size{runs:List (List Keyed)}{rest:List Keyed}(h:Runs R xs0 xs pd lo runs rest):pd.size=runs.length:=by
 have:=congrArg List.length h.pd
 rw[Dd,kU]at this;simpa using this
theorem Runs.mergeAt(T:Told prog w A s κ0 dom R)(W:aX R)(hd:∀ p∈xs0.toList,dom p){runs:List (List Keyed)}{rest:List Keyed}(h:Runs R xs0 xs pd lo runs rest)(hi:i+1<runs.length){Q:Bool->SortSt->Prop}(hq:∀ xs' pd' g' runs',Runs R xs0 xs' pd' lo runs' rest->runs'.length+1=runs.length->Q true (ST κ0 xs' pd' g')) :
  wpS (model prog w) A E s (mergeAt' i) Q (ST κ0 xs pd g):=by
 obtain⟨P,Ra,Rb,S,rfl,hP⟩:∃ P Ra Rb S,runs=P++Ra::Rb::S/\P.length=i:=by
  refine⟨runs.take i,runs[i],runs[i+1],runs.drop (i+2),?_,by simp;lia⟩
  have e1:=Er (show i<runs.length by lia)
  have e2:=Er hi;rw[<-e2,<-e1,Em]
 have hpd:=h.pd;rw[starts_app]at hpd;obtain⟨X,Y,eX,e1,e2⟩:=List.map_eq_append_iff.mp hpd;simp only[starts,Nat.zero_add]at e2;obtain⟨⟨a1,a2,pw⟩,Y,rfl,e3,e4⟩:=List.map_eq_cons_iff.mp e2;obtain⟨⟨b1,b2,pw'⟩,Z,rfl,e5,e6⟩:=List.map_eq_cons_iff.mp e4;obtain⟨rfl,rfl⟩:=Prod.mk.inj e3;obtain⟨rfl,rfl⟩:=Prod.mk.inj e5;have hX:X.length=i:=by
  have:=congrArg List.length e1
  rw[Dd,kU]at this;lia
 have hl:xs.toList=P.flatten++(Ra++(Rb++(S.flatten++rest))):=by
  rw[h.ls];simp [Ed]
 refine AB T W (pw:=pw) (pw':=pw') hl (fun p hp=>hd p ((Fm.mp h.pm).mem_iff.mp hp)) ?_ ?_ rfl (h.ne _ (by simp)) (h.ne _ (by simp)) (h.up _ (by simp)) (h.up _ (by simp)) fun M xs' g' m1 m2 m3=>?_
 ·rw[<-DK,eX,El (by lia)]
  simp [hX]
 ·rw[<-DK,eX,El (by lia)]
  simp [hX]
 ·have hM:M.length=Ra.length+Rb.length:=by rw[m1.length_eq,Dl]
  refine hq xs' _ g' (P++M::S) ⟨by rw[m3];simp [Ed],?_,?_,?_,?_,?_⟩ (by simp;lia)
  ·refine Array.Perm.trans ?_ h.pm;rw[Fm,m3,hl,<-Ed Ra]
   exact(m1.append_right _).append_left _
  ·have:=h.ln
   simp only[List.flatten_append,List.flatten_cons,Dl]at this ⊢;lia
  ·intro r hr;rcases Dp.mp hr with hr|hr
   ·exact h.ne r (by simp [hr])
   ·rcases DG.mp hr with rfl|hr
    ·have:=h.ne Ra (by simp)
     lia
    ·exact h.ne r (by simp [hr])
  ·intro r hr;rcases Dp.mp hr with hr|hr
   ·exact h.up r (by simp [hr])
   ·rcases DG.mp hr with rfl|hr
    ·exact m2
    ·exact h.up r (by simp [hr])
  ·rw[Array.toList_eraseIdxIfInBounds,Array.toList_setIfInBounds,eX,List.set_append_right _ _ (by lia),hX,Nat.sub_self,List.set_cons_zero,List.eraseIdx_append_of_length_le (by lia)]
   rw[show i+1-X.length=1 by lia]
   simp only[List.eraseIdx_cons_succ,List.eraseIdx_cons_zero];rw[Dn,e1,Dk,e6,starts_app];simp only[starts,hM,Nat.zero_add,Nat.add_assoc]
theorem Runs.cut{runs:List (List Keyed)}{rest:List Keyed}{ys:Array Keyed}(h:Runs R xs0 xs pd lo runs rest)(S:Sl xs ys lo)(ha:Asc R ys lo n)(hn:lo+n<=ys.size) :
  ∃ run rest2,run.length=n/\run.Pairwise (fun x y=>R y x=false)/\Runs R xs0 ys pd lo runs (run++rest2):=by
 refine⟨(ys.toList.drop lo).take n,ys.toList.drop (lo+n),by simp;lia,?_,⟨?_,S.pm.trans h.pm,h.ln,h.ne,h.up,h.pd⟩⟩
 ·refine List.pairwise_iff_getElem.mpr fun i j hi hj hij=>?_
  have hj':j<n:=by simp at hj;lia
  have:=ha i j (Fe hij) hj'
  unfold eA at this;rw[bH (show lo+j<ys.size by lia),bH (show lo+i<ys.size by lia)]at this
  simpa using this
 ·rw[<-List.drop_drop,Em];have e:ys.toList.take lo=runs.flatten:=by
   have e1:runs.flatten=xs.toList.take lo:=by
    rw[h.ls,<-h.ln,List.take_left'];rfl
   rw[e1];apply List.ext_getElem?;intro k
   by_cases q:k<lo
   ·rw[List.getElem?_take_of_lt q,List.getElem?_take_of_lt q,DK,DK];exact S.pr k q
   ·rw[Eg.mpr (by simp;lia),Eg.mpr (by simp;lia)]
  rw[<-e,Em]
theorem Runs.push{runs:List (List Keyed)}{run rest:List Keyed}(h:Runs R xs0 xs pd lo runs (run++rest))(hn:run.length=n)(h0:0<n)(hs:run.Pairwise (fun x y=>R y x=false)):Runs R xs0 xs (pd.push (lo,n,0)) (lo+n) (runs++[run]) rest:=by
 refine⟨by rw[h.ls];simp,h.pm,?_,?_,?_,?_⟩
 ·have:=h.ln
  simp only[List.flatten_append,List.flatten_cons,List.flatten_nil,Dl,E8]at this ⊢;lia
 ·intro r hr;rcases Dp.mp hr with hr|hr
  ·exact h.ne r hr
  ·rw[Dj]at hr;subst hr;lia
 ·intro r hr;rcases Dp.mp hr with hr|hr
  ·exact h.up r hr
  ·rw[Dj]at hr;subst hr;exact hs
 ·rw[Array.toList_push,Dn,h.pd,starts_app,Nat.zero_add,h.ln];simp only[starts,hn];rfl
theorem Runs.pow{pw:Nat}{runs:List (List Keyed)}{rest:List Keyed}(h:Runs R xs0 xs pd lo runs rest):Runs R xs0 xs (pd.modify i fun x=>(x.1,x.2.1,pw)) lo runs rest:=by
 refine⟨h.ls,h.pm,h.ln,h.ne,h.up,?_⟩;rw[<-h.pd];apply List.ext_getElem?;intro k;rw[Dq,Dq,DK,DK,Array.getElem?_modify]
 split
 ·cases pd[k]? <;> rfl
 ·rfl
theorem ug:∀(runs:List (List Keyed)),(∀ r∈runs,0<r.length)->runs.length<=runs.flatten.length
 | [],_=>Di _
 | r::rs,h=>by
  have h1:=h r (by simp)
  have h2:=ug rs fun x hx=>h x (by simp [hx])
  simp only[List.flatten_cons,Dl,DR];lia
theorem CO(T:Told prog w A s κ0 dom R)(W:aX R)(hd:∀ p∈xs.toList,dom p){Q:Unit->SortSt->Prop}(h:∀ xs' pd' g',xs'.Perm xs->xs'.toList.Pairwise (fun x y=>R y x=false)->Q () (ST κ0 xs' pd' g')) :
  wpS (model prog w) A E s sortRuns' Q (ST κ0 xs #[] g):=by
 refine Ds (wpS_get ?_);dsimp only;generalize (sortPriv% PySem.Builtin.minRun) xs.size xs.size 0=mr;refine Ds (ES (Ex (I:=fun x c st'=>∃ lo ys pd' g' runs rest,c=(none,lo)/\st'=ST κ0 ys pd' g'/\Runs R xs ys pd' lo runs rest/\x<=lo)
  (Q:=fun c st'=>∃ lo ys pd' g' runs,c=(none,lo)/\st'=ST κ0 ys pd' g'/\Runs R xs ys pd' lo runs []) ?_ ?_ ?_) ?_)
 ·rintro x c st' _ hx ⟨lo,ys,pd',g',runs,rest,rfl,rfl,K,hlo⟩;dsimp only;have hsz:ys.size=xs.size:=K.pm.size_eq;have hlen:ys.toList.length=xs.size:=by rw[DJ,hsz]
  by_cases hge:lo ≥ xs.size
  ·rw[if_pos hge];refine DA ⟨lo,ys,pd',g',runs,rfl,rfl,?_⟩
   have:rest=[]:=by
    have e:=hlen;rw[K.ls,Dl,K.ln]at e;exact EC.mp (by lia)
   subst this;exact K
  rw[if_neg hge];have hdy:∀ p∈ys.toList,dom p:=fun p hp=>hd p ((Fm.mp K.pm).mem_iff.mp hp)
  refine Ds (xm T W hdy (by lia) (by lia) fun m ys1 m1 m2 S1 A1=>?_)
  have hz1:=S1.size;dsimp only
  by_cases hmr:m<mr
  case' pos=>
   rw[if_pos hmr];refine Ds (wpS_lift (Fg ⟨rfl,?_⟩));refine Ds (xI T W (S1.dom hdy) (by lia) (by lia) A1 fun ys2 S2 A2=>?_)
   have hz2:=S2.size;have hNN:1<=min (xs.size-lo) mr:=by lia
   show wpS _ _ _ _ (if (!true)=true then _ else _) _ _
   rw[if_neg (by decide)]
   obtain⟨run,rest2,r1,r2,K2⟩:=K.cut (S1.trans S2) A2 (by lia)
   generalize min (xs.size-lo) mr=N at hNN r1 ⊢
  case' neg=>
   rw[if_neg hmr];obtain⟨run,rest2,r1,r2,K2⟩:=K.cut S1 A1 (by lia)
   obtain⟨ys2,hys⟩:∃ z,z=ys1:=⟨_,rfl⟩;subst hys;have hNN:=m1;generalize m=N at hNN r1 ⊢
  all_goals
   refine Ds (wpS_get ?_);cases hbk:pd'.back? with
   | none=>
    dsimp only;refine Ds (EO (DA ⟨lo+N,ys2,pd'.push (lo,N,0),g',runs++[run],rest2,rfl,rfl,K2.push r1 hNN r2,by lia⟩))
   | some t=>
    obtain⟨s1,n1,p1⟩:=t;dsimp only;generalize (sortPriv% PySem.Builtin.power) xs.size (2*s1+n1) (2*s1+n1+n1+N) xs.size=pw;refine Ds (ES (Ex (I:=fun _ c st'=>c=(none,())/\∃ ys pd' g' runs,st'=ST κ0 ys pd' g'/\Runs R xs ys pd' lo runs (run++rest2))
     (Q:=fun c st'=>c=(none,())/\∃ ys pd' g' runs,st'=ST κ0 ys pd' g'/\Runs R xs ys pd' lo runs (run++rest2)) ?_ (fun _ _ q=>q) ⟨rfl,ys2,pd',g',runs,rfl,K2⟩) ?_)
    ·rintro x' c st' _ hx' ⟨rfl,ys3,pd3,g3,runs3,rfl,K3⟩;refine Ds (wpS_get ?_);dsimp only
     by_cases hp:pd3.size > 1
     ·rw[if_pos hp];have hp2:pd3.size-2<pd3.size:=by lia
      rw[Eo pd3 (pd3.size-2) hp2];generalize pd3[pd3.size-2]=t3;obtain⟨u1,u2,u3⟩:=t3;dsimp only
      by_cases ho:u3<=pw
      ·rw[if_pos ho];exact DA ⟨rfl,ys3,pd3,g3,runs3,rfl,K3⟩
      ·rw[if_neg ho];have hs3:=K3.size;refine Ds (K3.mergeAt T W hd (by lia) fun ys4 pd4 g4 runs4 K4 _=>?_)
       exact DA ⟨rfl,ys4,pd4,g4,runs4,rfl,K4⟩
     ·rw[if_neg hp];exact DA ⟨rfl,ys3,pd3,g3,runs3,rfl,K3⟩
    ·rintro c st' ⟨rfl,ys3,pd3,g3,runs3,rfl,K3⟩;dsimp only;refine Ds (EO (Ds (EO (DA ?_))));exact⟨lo+N,ys3,_,g3,runs3++[run],rest2,rfl,rfl,(K3.pow).push r1 hNN r2,by lia⟩
 ·rintro c st' ⟨lo,ys,pd',g',runs,rest,rfl,rfl,K,hlo⟩;refine⟨lo,ys,pd',g',runs,rfl,rfl,?_⟩;have hlen:ys.toList.length=xs.size:=by rw[DJ];exact K.pm.size_eq
  have:rest=[]:=by
   rw[K.ls,Dl,K.ln]at hlen;exact EC.mp (by lia)
  subst this;exact K
 ·exact⟨0,xs,#[],g,[],xs.toList,rfl,rfl,⟨rfl,Array.Perm.refl _,rfl,by simp,by simp,rfl⟩,Di _⟩
 ·rintro c st' ⟨lo,ys,pd',g',runs,rfl,rfl,K⟩;dsimp only;have hlen:runs.flatten.length=xs.size:=by
   have e:ys.toList.length=xs.size:=by rw[DJ];exact K.pm.size_eq
   rw[K.ls,D9]at e;exact e
  have hrl:=ug runs K.ne;refine Ds (ES (Ex (I:=fun x c st'=>c=(none,())/\∃ ys pd' g' runs,st'=ST κ0 ys pd' g'/\Runs R xs ys pd' lo runs []/\runs.length+x<=xs.size+1)
   (Q:=fun c st'=>c=(none,())/\∃ ys pd' g' runs,st'=ST κ0 ys pd' g'/\Runs R xs ys pd' lo runs []/\runs.length<=1) ?_ ?_ ⟨rfl,ys,pd',g',runs,rfl,K,by lia⟩) ?_)
  ·rintro x c st' _ hx ⟨rfl,ys,pd',g',runs,rfl,K,hl⟩;refine Ds (wpS_get ?_);have hs:=K.size;dsimp only
   by_cases hp:pd'.size<=1
   ·rw[if_pos hp];exact DA ⟨rfl,ys,pd',g',runs,rfl,K,by lia⟩
   ·rw[if_neg hp]
    split
    ·refine Ds (K.mergeAt T W hd (by split <;> lia) fun ys4 pd4 g4 runs4 K4 l4=>?_)
     exact DA ⟨rfl,ys4,pd4,g4,runs4,rfl,K4,by lia⟩
    ·refine Ds (K.mergeAt T W hd (by split <;> lia) fun ys4 pd4 g4 runs4 K4 l4=>?_)
     exact DA ⟨rfl,ys4,pd4,g4,runs4,rfl,K4,by lia⟩
  ·rintro c st' ⟨rfl,ys,pd',g',runs,rfl,K,hl⟩;exact⟨rfl,ys,pd',g',runs,rfl,K,by lia⟩
  ·rintro c st' ⟨rfl,ys,pd',g',runs,rfl,K,hl⟩;refine DA (h ys pd' g' K.pm ?_);rw[K.ls,D9]
   match runs,hl,K.up with
   | [],_,_=>simp
   | [r],_,u=>simpa using u r (by simp)
   | _::_::_,hl,_=>simp at hl
end
section
variable {prog:Program}{w:World}{A:Around}{E:Value->Shared->Prop}{s:Shared}
open Classical in
noncomputable def fc {α:Type}(ys:List (α×Value))(d:α)(p:Keyed):α:=if h:∃ q∈ys,q.2=p.1 then(Classical.choose h).1 else d
theorem i8{α:Type}{ys:List (α×Value)}{d:α}(hf:∀ p∈ys,∀ q∈ys,p.2=q.2->p.1=q.1){p:α×Value}(hp:p∈ys)(v:Value):fc ys d (p.2,v)=p.1:=by
 unfold fc;have h:∃ q∈ys,q.2=(p.2,v).1:=⟨p,hp,rfl⟩;rw[dif_pos h];exact hf _ (Classical.choose_spec h).1 _ hp (Classical.choose_spec h).2
theorem yq{α:Type}{ok:α->Prop}{ys:List (α×Value)}{d:α}(hk:∀ p∈ys,ok p.1)(hd:ok d)(p:Keyed):ok (fc ys d p):=by
 unfold fc
 by_cases h:∃ q∈ys,q.2=p.1
 ·rw[dif_pos h];exact hk _ (Classical.choose_spec h).1
 ·rw[dif_neg h];exact hd
theorem Cg{α:Type}{ok:α->Prop}{lt:α->α->Bool}(L:bS ok lt){f:Keyed->α}(hf:∀ p,ok (f p)):aX (fun p q=>lt (f p) (f q)) where
 ir:=fun p=>by
  cases h:lt (f p) (f p) with
  | false=>rfl
  | true=>have:=L.asy _ _ (hf p) (hf p) h;rw[h]at this;exact this
 tr:=fun p q r h1 h2=>L.tr _ _ _ (hf p) (hf q) (hf r) h1 h2
 ng:=fun p q r h=>by
  cases h1:lt (f p) (f q) with
  | true=>exact .inl rfl
  | false=>
   refine .inr ?_
   by_cases e:f p=f q
   ·rw[<-e];exact h
   ·exact L.tr _ _ _ (hf q) (hf p) (hf r) (L.tot _ _ (hf p) (hf q) e h1) h
theorem sD{α:Type}:∀ ys:List (α×Value),(ys.map (·.2)).zip (ys.map (·.2))=ys.map (fun p=>((p.2,p.2):Keyed))
 | []=>rfl
 | y::ys=>by rw[Dk,List.zip_cons_cons,sD ys];rfl
theorem sR{P:PySem.Fin->Shared->Prop}{α:Type}{ok:α->Prop}{lt:α->α->Bool}(L:bS ok lt){ys:List (α×Value)}(ho:s.heap.get? a=some (seqObj "list" (ys.map (·.2)).toArray n)) (hsz:ys.length<=sizeLine) (hk:∀ p∈ys,ok p.1) (nd:(ys.map (·.1)).Nodup) (hf:∀ p∈ys,∀ q∈ys,p.2=q.2->p.1=q.1) (κ0:SortKind) (hkind:2<=ys.length->∀ s1:Shared,(∀ b o,b≠a->s.heap.get? b=some o->s1.heap.get? b=some o)->∀ Q:SortKind->Shared->Prop,Q κ0 s1->wpAny (model prog w) A (keyKind' (ys.map (·.2)).toArray) Q (fun _ _=>False) s1) (hcmp:∀ s1:Shared,(∀ b o,b≠a->s.heap.get? b=some o->s1.heap.get? b=some o)->∀ p∈ys,∀ q∈ys,∀ C:Bool->Shared->Prop,C (lt p.1 q.1) s1->wpAny (model prog w) A (keyLt' κ0 p.2 q.2) C (fun _ _=>False) s1) (h:∀(out:List (α×Value)) (h':Heap) (c:Nat),out.Perm ys->(out.map (·.1)).Pairwise (fun x y=>lt x y=true)->(∀ b o,b≠a->s.heap.get? b=some o->h'.get? b=some o)->s.heap.objs.size<=h'.objs.size->h'.get? a=some (seqObj "list" (out.map (·.2)).toArray c)->P (.done (.ret .none)) { s with heap:=h' }) :
  wpAny (model prog w) A (Builtin.«list.sort» ⟨[.ref a],[]⟩) P E s:=by
 rw[list_sort_plain];generalize hvs:ys.map (·.2)=vs at ho hkind;have ha:a<s.heap.objs.size:=Dz ho;have hz:vs.toArray.size=ys.length:=by rw[<-hvs];simp
 refine De (listItems_at ho rfl ?_);refine De (listUpdate_at ho rfl ?_ (by rw[hz];exact hsz) (DZ _))
 obtain⟨e1,ho1⟩:∃ e1,(s.heap.update a (Obj.mapSeq fun _=>(#[]:Array Value))).get? a=some (seqObj "list" #[] e1):=⟨_,get?_update_seq ho fun _=>#[]⟩
 refine De (seqEpoch_at ho1 rfl ?_);refine De (wpAny_newTuple ?_ (by rw[DJ,hz];exact hsz))
 refine De (wpAny_newList ?_ (DZ _));refine Ew ?_;generalize hH:((s.heap.update a (Obj.mapSeq fun _=>(#[]:Array Value))).push (seqObj "tuple" vs.toArray 0)).push (seqObj "list" #[] 0)=H6
 have ho6:H6.get? a=some (seqObj "list" #[] e1):=by rw[<-hH];exact Dh _ (Dh _ ho1)
 have keep6:∀ b o,b≠a->s.heap.get? b=some o->H6.get? b=some o:=fun b o hb e=>by
  rw[<-hH];exact Dh _ (Dh _ ((Fz _ _ (Ne.symm hb)).trans e))
 have size6:s.heap.objs.size<=H6.objs.size:=by rw[<-hH,size_push',size_push',Heap.size_update];exact Nat.le_succ_of_le (Nat.le_succ _)
 show wpAny (model prog w) A _ P E { s with heap:=H6 }
 dsimp only;have fin:∀(out:List (α×Value)),out.Perm ys->(out.map (·.1)).Pairwise (fun x y=>lt x y=true)->∀(st:SortSt),(arrOf st).map (·.2)=(out.map (·.2)).toArray->failedOf st=none->wpAny (model prog w) A (do
   let touched:=(<-seqEpoch a) !=e1
   Builtin.List.listUpdate (.ref a) fun _=>(arrOf st).map (·.2)
   if let some e:=failedOf st then rule "list.sort.comparison-raised";throw e
   if touched then rule "list.sort.modified";raiseError "ValueError" "list modified during sort"
   ret .none) P E { s with heap:=H6 }:=fun out po uo st hout hfl=>by
  refine De (seqEpoch_at ho6 rfl ?_);rw[hout];refine De (listUpdate_at ho6 rfl ?_ (DZ _) (by show(out.map (·.2)).toArray.size<=_;rw[D8,Dd,po.length_eq];exact Nat.le_succ_of_le hsz))
  rw[hfl];simp only[bne_self_eq_false,Dx,if_false];exact Df (h out _ _ po uo (fun b o hb e=>(Fz _ _ (Ne.symm hb)).trans (keep6 b o hb e)) (by rw[Heap.size_update];exact size6) (get?_update_seq ho6 fun _=>(out.map (·.2)).toArray))
 have hzip:(vs.toArray.zip vs.toArray).toList=ys.map (fun p=>((p.2,p.2):Keyed)):=by
  have e:(vs.toArray.zip vs.toArray).toList=vs.zip vs:=by simp
  rw[e,<-hvs];exact sD ys
 by_cases h2:vs.toArray.size<2
 ·rw[if_pos h2,if_pos h2];refine De (Df ?_);rw[StateT.run_pure];refine De (Df ?_);dsimp only;refine fin ys (List.Perm.refl _) ?_ (SortSt.mk' general' (vs.toArray.zip vs.toArray) #[] 7 none) ?_ rfl
  ·match ys,(show ys.length<2 by lia) with
   | [],_=>exact List.Pairwise.nil
   | [_],_=>exact List.pairwise_singleton _ _
   | _::_::_,hl=>exact absurd hl (by simp)
  ·apply Array.toList_inj.mp
   show((vs.toArray.zip vs.toArray).map (·.2)).toList=_
   rw[Array.toList_map,hzip,Du];rfl
 ·rw[if_neg h2,if_neg h2];have h2':2<=ys.length:=by lia
  refine De (EA (hkind h2' { s with heap:=H6 } keep6 (fun κ s0=>κ=κ0/\s0={ s with heap:=H6 }) ⟨rfl,rfl⟩) ?_ fun _ _ x=>x.elim)
  rintro κ s0 ⟨rfl,rfl⟩;obtain⟨d,hd⟩:∃ d,d∈ys:=by
   match ys,h2' with
   | k::_,_=>exact⟨k,Dm ..⟩
  have W:=Cg L (f:=fc ys d.1) (yq hk (hk d hd));have T:Told prog w A { s with heap:=H6 } κ (fun p=>∃ q∈ys,p=(q.2,q.2)) (fun p q=>lt (fc ys d.1 p) (fc ys d.1 q)):=by
   rintro p q ⟨p',hp',rfl⟩ ⟨q',hq',rfl⟩ C hC;dsimp only at hC;rw[i8 hf hp',i8 hf hq']at hC;exact hcmp _ keep6 p' hp' q' hq' C hC
  have run:=CO (E:=E) (g:=7) (xs:=vs.toArray.zip vs.toArray) T W (fun p hp=>by
    rw[hzip]at hp;obtain⟨q,hq,rfl⟩:=Dg.mp hp;exact⟨q,hq,rfl⟩)
   (Q:=fun _ st=>failedOf st=none/\∃ out:List (α×Value),out.Perm ys/\(out.map (·.1)).Pairwise (fun x y=>lt x y=true)/\(arrOf st).map (·.2)=(out.map (·.2)).toArray) fun xs' pd' g' hpm hup=>by
    refine⟨rfl,?_⟩;have hp:=Fm.mp hpm;rw[hzip]at hp;obtain⟨out,hpo,e⟩:=fW hp;refine⟨out,hpo,?_,?_⟩
    ·rw[e,ED]at hup;have ndo:(out.map (·.1)).Nodup:=(hpo.map (·.1)).nodup_iff.mpr nd;have nd2:=ED.mp ndo;rw[ED];refine(hup.and nd2).imp_of_mem fun {x y} hx hy hxy=>?_
     have hx':=hpo.mem_iff.mp hx;have hy':=hpo.mem_iff.mp hy;have h1:=hxy.1;rw[i8 hf hx',i8 hf hy']at h1;exact L.tot _ _ (hk _ hy') (hk _ hx') (fun z=>hxy.2 z.symm) h1
    ·apply Array.toList_inj.mp;rw[Array.toList_map];show xs'.toList.map _=_
     rw[e,Du];rfl
  unfold wpS at run;refine De (EA run ?_ fun _ _ e=>e)
  rintro⟨⟨⟩,st'⟩ s' ⟨rfl,hfl,out,po,uo,hout⟩;exact fin out po uo st' hout hfl
theorem qt{es:Array (Int×Value)}{t:SetTable}(hh:A.handled=none)(S:bG w s.heap a o es ep t){α:Type}{ok:α->Prop}{lt:α->α->Bool}(L:bS ok lt){xs:List (α×Value)}(hval:es.toList.map (·.2)=xs.map (·.2))(h64:xs.length<64)(nd:(xs.map (·.1)).Nodup)(hf:∀ p∈xs,∀ q∈xs,p.2=q.2->p.1=q.1)(hok:∀ p∈xs,ok p.1)(κ0:SortKind)(hkind:∀(s1:Shared)(ys:List (α×Value)),ys.Perm xs->(∀ b o,s.heap.get? b=some o->s1.heap.get? b=some o)->2<=ys.length->∀ Q:SortKind->Shared->Prop,Q κ0 s1->wpAny (model prog w) A.in1.in1 (keyKind' (ys.map (·.2)).toArray) Q (fun _ _=>False) s1)(hcmp:∀(s1:Shared),(∀ b o,s.heap.get? b=some o->s1.heap.get? b=some o)->∀ p∈xs,∀ q∈xs,∀ C:Bool->Shared->Prop,C (lt p.1 q.1) s1->wpAny (model prog w) A.in1.in1 (keyLt' κ0 p.2 q.2) C (fun _ _=>False) s1)(h:∀(h':Heap)(d:Drawn)(tk:Nat)(D:Addr)(c:Nat)(out:List (α×Value)),out.Perm xs->(out.map (·.1)).Pairwise (fun x y=>lt x y=true)->(∀ b o,s.heap.get? b=some o->h'.get? b=some o)->s.heap.objs.size<=D →
   h'.get? D=some (seqObj "list" (out.map (·.2)).toArray c)->Q (.ref D) { s with heap:=h',drawn:=d,toks:=tk }) :
  wpAny (model prog w) A (call (.builtin "sorted") [.ref a]) Q E s:=by
 have hsz:es.size=xs.length:=by
  have:=congrArg List.length hval
  simpa using this
 refine Calls.call_function_entry kind_sorted plain_sorted entry_sorted (args_sorted1 _) ?_;unfold Builtin.«sorted»;refine De (m:=checkCount "sorted" 1 1 _) (Df ?_)
 refine De (uH (by simp [hh]) S (by lia) fun h1 d tk vs hp keep1 size1=>?_)
 rw[hval]at hp;obtain⟨ys,hpy,rfl⟩:=fW hp;have hyl:ys.length=xs.length:=hpy.length_eq;refine De (wpAny_newList ?_ (by rw[Dd,DV];lia))
 have hoL:(h1.push (seqObj "list" (ys.map (·.2)).toArray 0)).get? h1.objs.size=some (seqObj "list" (ys.map (·.2)).toArray 0):=DE _ rfl
 have keep2:∀ b o,s.heap.get? b=some o->b≠h1.objs.size:=fun b o e=>DO (D6 (Dz e) size1)
 refine De (Ew (EB slot_list_sort ⟨_,hoL,rfl⟩ entry_list_sort ?_ (args_list_sort _)));refine sR (s:={ s with heap:=h1.push (seqObj "list" (ys.map (·.2)).toArray 0),drawn:=d,toks:=tk }) L hoL (by rw[DV];lia) (fun p hp=>hok p (hpy.mem_iff.mp hp)) ((hpy.map (·.1)).nodup_iff.mpr nd) (fun p hp q hq e=>hf p (hpy.mem_iff.mp hp) q (hpy.mem_iff.mp hq) e) κ0 ?_ ?_ ?_
 ·intro h2 s1 k1 Q' q;exact hkind s1 ys hpy (fun b o e=>k1 b o (keep2 b o e) (Dh _ (keep1 b o e))) h2 Q' q
 ·intro s1 k1 p hp q hq C hC;exact hcmp s1 (fun b o e=>k1 b o (keep2 b o e) (Dh _ (keep1 b o e))) p (hpy.mem_iff.mp hp) q (hpy.mem_iff.mp hq) C hC
 ·intro out h' c po uo k1 size2 ho';refine⟨_,rfl,Df ⟨_,rfl,?_⟩⟩;exact h h' d tk _ c out (po.trans hpy) uo (fun b o e=>k1 b o (keep2 b o e) (Dh _ (keep1 b o e))) size1 ho'
end
noncomputable abbrev Ky:=Sum Int Str
noncomputable def kLt:Ky->Ky->Bool
 | .inl a,.inl b=>decide (a<b)
 | .inr a,.inr b=>decide (a.cps.toList<b.cps.toList)
 | _,_=>false
noncomputable def isI:Ky->Bool
 | .inl _=>true
 | .inr _=>false
theorem Cc{a b:Str}(h:a.cps.toList=b.cps.toList):a=b:=by
 cases a;cases b
 simp only at h
 congr 1;exact Array.toList_inj.mp h
theorem cI(b:Bool):bS (fun k=>isI k=b) kLt where
 tr:=fun x y z hx hy hz h1 h2=>by
  cases x <;> cases y <;> cases z <;> simp_all [kLt,isI]
  ·lia
  ·exact List.lt_trans h1 h2
 tot:=fun x y hx hy hne h=>by
  cases x <;> cases y <;> simp_all [kLt,isI]
  ·lia
  ·rename_i a c
   rcases List.le_iff_lt_or_eq.mp h with q|q
   ·exact q
   ·exact absurd (Cc q.symm) hne
 asy:=fun x y hx hy h=>by
  cases x <;> cases y <;> simp_all [kLt,isI]
  ·lia
  ·exact List.le_of_lt h
noncomputable def cD:List Ky->List Ky->Bool
 | [],[]=>false
 | x::xs,y::ys=>if x=y then cD xs ys else kLt x y
 | [],_::_=>true
 | _::_,[]=>false
theorem iM:∀ sh:List Bool,bS (fun ks=>ks.map isI=sh) cD
 | []=>by
  have nil:∀{x:List Ky},x.map isI=[]->x=[]:=fun h=>List.map_eq_nil_iff.mp h
  refine⟨fun x y z hx hy hz h1 h2=>?_,fun x y hx hy hne h=>?_,fun x y hx hy h=>?_⟩
  ·rw[nil hx,nil hy]at h1;exact absurd h1 (by decide)
  ·exact absurd ((nil hx).trans (nil hy).symm) hne
  ·rw[nil hx,nil hy]at h;exact absurd h (by decide)
 | b::sh=>by
  have ih:=iM sh;have kb:=cI b;have open1:∀{x:List Ky},x.map isI=b::sh->∃ k r,x=k::r/\isI k=b/\r.map isI=sh:=fun {x} h=>by
   cases x with
   | nil=>cases h
   | cons k r=>rw[Dk]at h;injection h with h1 h2;exact⟨k,r,rfl,h1,h2⟩
  refine⟨fun x y z hx hy hz h1 h2=>?_,fun x y hx hy hne h=>?_,fun x y hx hy h=>?_⟩
  ·obtain⟨k1,r1,rfl,a1,b1⟩:=open1 hx;obtain⟨k2,r2,rfl,a2,b2⟩:=open1 hy;obtain⟨k3,r3,rfl,a3,b3⟩:=open1 hz;unfold cD at h1 h2 ⊢
   by_cases q12:k1=k2
   ·subst q12;rw[if_pos rfl]at h1
    by_cases q13:k1=k3
    ·subst q13;rw[if_pos rfl]at h2 ⊢;exact ih.tr _ _ _ b1 b2 b3 h1 h2
    ·rw[if_neg q13]at h2 ⊢;exact h2
   ·rw[if_neg q12]at h1
    by_cases q23:k2=k3
    ·subst q23;rw[if_pos rfl]at h2;rw[if_neg q12];exact h1
    ·rw[if_neg q23]at h2;have h3:=kb.tr _ _ _ a1 a2 a3 h1 h2
     by_cases q13:k1=k3
     ·subst q13
      have:=kb.asy _ _ a1 a2 h1
      rw[h2]at this;cases this
     ·rw[if_neg q13];exact h3
  ·obtain⟨k1,r1,rfl,a1,b1⟩:=open1 hx;obtain⟨k2,r2,rfl,a2,b2⟩:=open1 hy;unfold cD at h ⊢
   by_cases q:k1=k2
   ·subst q;rw[if_pos rfl]at h ⊢;exact ih.tot _ _ b1 b2 (fun z=>hne (by rw[z])) h
   ·rw[if_neg q]at h;rw[if_neg fun z=>q z.symm]
    exact kb.tot _ _ a1 a2 q h
  ·obtain⟨k1,r1,rfl,a1,b1⟩:=open1 hx;obtain⟨k2,r2,rfl,a2,b2⟩:=open1 hy;unfold cD at h ⊢
   by_cases q:k1=k2
   ·subst q;rw[if_pos rfl]at h ⊢;exact ih.asy _ _ b1 b2 h
   ·rw[if_neg q]at h;rw[if_neg fun z=>q z.symm]
    exact kb.asy _ _ a1 a2 h
end SB
end
section
namespace L2
open PySem PySem.Spec PyProof.Rows
noncomputable abbrev Key:=Sum Int Str
noncomputable def bq:Key->Value->Bool
 | .inl k,v=>Value.isInt k v
 | .inr x,v=>Value.isStrOf x v
noncomputable def ro (w:World):Key->Int
 | .inl k=>hashInt k
 | .inr x=>hashStr w x
theorem br:∀{k:Key}{v:Value},bq k v=true->(∃ i t,k=Sum.inl i/\v=Value.int i t)\/(∃ x t,k=Sum.inr x/\v=Value.str x t)
 | .inl i,v,h=>by
  obtain⟨t,e⟩:=Value.isInt_shape (k:=i) (v:=v) h;exact .inl ⟨i,t,rfl,e⟩
 | .inr x,v,h=>by
  obtain⟨t,e⟩:=Value.isStrOf_shape (x:=x) (v:=v) h;exact .inr ⟨x,t,rfl,e⟩
theorem gQ(i:Int)(t:Tok):bq (.inl i) (.int i t)=true:=by simp [bq,Value.isInt]
theorem iO(x:Str)(t:Tok):bq (.inr x) (.str x t)=true:=by simp [bq,Value.isStrOf]
theorem ik(a b:Int):decide ((Sum.inl a:Key)=Sum.inl b)=(a==b):=by
 by_cases e:a=b
 ·subst e;simp
 ·have h:¬ (Sum.inl a:Key)=Sum.inl b:=fun q=>e (Sum.inl.inj q)
  rw[DT h]
  exact(beq_eq_false_iff_ne.mpr e).symm
theorem tX(a b:Str):decide ((Sum.inr a:Key)=Sum.inr b)=decide (a=b):=by
 by_cases e:a=b
 ·subst e;simp
 ·have h:¬ (Sum.inr a:Key)=Sum.inr b:=fun q=>e (Sum.inr.inj q)
  rw[DT h,DT e]
theorem k9(a:Int)(b:Str):decide ((Sum.inl a:Key)=Sum.inr b)=false:=DT (fun q=>nomatch q)
theorem kK(a:Str)(b:Int):decide ((Sum.inr a:Key)=Sum.inl b)=false:=DT (fun q=>nomatch q)
noncomputable def au (prog:Program)(w:World):PySem.KeyKind prog w Key where
 is:=bq
 hash:=ro w
 inj:=fun v a b ha hb=>by
  rcases br ha with⟨i,t,rfl,rfl⟩|⟨x,t,rfl,rfl⟩
  ·rcases br hb with⟨j,u,rfl,e⟩|⟨y,u,rfl,e⟩
   ·injection e with e1 _;rw[e1]
   ·exact nomatch e
  ·rcases br hb with⟨j,u,rfl,e⟩|⟨y,u,rfl,e⟩
   ·exact nomatch e
   ·injection e with e1 _;rw[e1]
 byValue:=fun k v h=>by
  rcases br h with⟨i,t,rfl,rfl⟩|⟨x,t,rfl,rfl⟩ <;> rfl
 pyHash:=fun hv h=>by
  rcases br hv with⟨i,t,rfl,rfl⟩|⟨x,t,rfl,rfl⟩
  ·exact wpAny_pyHash_int h
  ·exact wpAny_pyHash_str h
 eqBool:=fun hu hv h=>by
  rcases br hu with⟨i,t,rfl,rfl⟩|⟨x,t,rfl,rfl⟩
  ·rcases br hv with⟨j,u,rfl,rfl⟩|⟨y,u,rfl,rfl⟩
   ·rw[ik]at h;exact wpAny_eqBool_int h
   ·rw[k9]at h;exact SeqAt.EqAt.int_str i t y u _ _ _ _ h
  ·rcases br hv with⟨j,u,rfl,rfl⟩|⟨y,u,rfl,rfl⟩
   ·rw[kK]at h;exact SeqAt.EqAt.str_int x t j u _ _ _ _ h
   ·rw[tX]at h;exact wpAny_eqBool_str h
 «strs»:=fun k x t v h=>by
  rcases br h with⟨i,u,rfl,e⟩|⟨y,u,rfl,e⟩
  ·exact nomatch e
  ·injection e with e1 _;subst e1;cases v <;> rfl
theorem wR(prog:Program)(w:World)(i:Int)(t:Tok):(au prog w).is (.inl i) (.int i t)=true:=gQ i t
theorem CG(prog:Program)(w:World)(x:Str)(t:Tok):(au prog w).is (.inr x) (.str x t)=true:=iO x t
inductive V where
 | non|bl (b:Bool)|int (i:Int)|str (x:Str)|byt (b:Array UInt8)|flt (b:UInt64)|ref (a:Addr)|ty (n:String)
 deriving DecidableEq
noncomputable def RelV:V->Value->Prop
 | .non,u=>u=Value.none
 | .bl b,u=>u=Value.bool b
 | .int i,u=>∃ t,u=Value.int i t
 | .str x,u=>∃ t,u=Value.str x t
 | .byt b,u=>∃ t,u=Value.bytes b t
 | .flt b,u=>∃ t,u=Value.float b t
 | .ref a,u=>u=Value.ref a
 | .ty n,u=>u=Value.type n
noncomputable abbrev Vals:List V->List Value->Prop:=Paired RelV
theorem Vals.length{xs:List V}(r:Vals xs us):xs.length=us.length:=Paired.length r
theorem Vals.get:∀{xs:List V}{us:List Value}{i:Nat}{x:V},Vals xs us->xs[i]? =some x->∃ u,us[i]? =some u/\RelV x u
 | _,_,_,_,.nil,e=>by simp at e
 | _,_,0,_,.cons r _,e=>by simp at e;subst e;exact⟨_,rfl,r⟩
 | _,_,i+1,x,.cons _ t,e=>by
  obtain⟨u,h1,h2⟩:=Vals.get (i:=i) (x:=x) t (by simpa using e)
  exact⟨u,by simpa using h1,h2⟩
theorem Vals.set{x:V}(r:RelV x u):∀{xs:List V}{us:List Value}(i:Nat),Vals xs us->Vals (xs.set i x) (us.set i u)
 | _,_,_,.nil=>.nil
 | _,_,0,.cons _ t=>.cons r t
 | _,_,i+1,.cons q t=>.cons q (Vals.set r i t)
theorem Vals.append:∀{xs ys:List V}{us ws:List Value},Vals xs us->Vals ys ws->Vals (xs++ys) (us++ws)
 | _,_,_,_,.nil,s=>s
 | _,_,_,_,.cons r t,s=>.cons r (Vals.append t s)
theorem Vals.take:∀{xs:List V}{us:List Value}(n:Nat),Vals xs us->Vals (xs.take n) (us.take n)
 | _,_,0,_=>.nil
 | _,_,_+1,.nil=>.nil
 | _,_,n+1,.cons r t=>.cons r (Vals.take n t)
theorem Vals.drop:∀{xs:List V}{us:List Value}(n:Nat),Vals xs us->Vals (xs.drop n) (us.drop n)
 | _,_,0,r=>r
 | _,_,_+1,.nil=>.nil
 | _,_,n+1,.cons _ t=>Vals.drop n t
noncomputable def bK:Option V->Option Value->Prop
 | some v,some u=>RelV v u
 | none,none=>True
 | _,_=>False
noncomputable def KV {κ:Type}:List (κ×V)->List (κ×Value)->Prop:=Paired fun(p:κ×V)(q:κ×Value)=>p.1=q.1/\RelV p.2 q.2
noncomputable def kV:Key->V
 | .inl i=>.int i
 | .inr x=>.str x
inductive HO where
  | lst (xs:List V)
  | tup (xs:List V)
  | dK (kvs:List (Key×V))|dT (kvs:List (List Key×V))
  | set (S:Int->Bool) (n:Nat)
  | ins (C dx:Addr) (fs:List (Str×V))
  | own (x:Addr)
  | xd (fs:List (Str×V))
  | met (f x:Addr)
  | rng (lo hi:Int)
  | frz (o:Obj) (u:HO)
  | tbl (ps:Array Value)
  | ext (φ:Heap->Prop)
noncomputable abbrev Hp:=Addr->Option HO
noncomputable def upd (H:Hp)(a:Addr)(o:HO):Hp:=fun b=>if b=a then some o else H b
theorem aW{H:Hp}{o:HO}:upd H a o a=some o:=by unfold upd;rw[if_pos rfl]
theorem ao{H:Hp}{o:HO}(h:b≠a):upd H a o b=H b:=by unfold upd;rw[if_neg h]
theorem bo{H:Hp}{o u:HO}(h:H a=some o)(h':H b=some u)(d:o≠u):a≠b:=by
 intro e;subst e;rw[h]at h';exact d (DL h')
theorem aB{H:Hp}{o:HO}(h:H a=some o)(h':H b=none):a≠b:=by
 intro e;subst e;rw[h]at h';cases h'
section
variable (P:Program)(w:World)
noncomputable def aj (H:Hp)(h:Heap)(a:Addr):HO->Prop
 | .lst xs=>xs.length<=sizeLine/\∃(its:List Value) (n:Nat),Vals xs its/\h.get? a=some { cls:=.type "list",data:=.seq its.toArray n }
 | .tup xs=>xs.length<=sizeLine/\∃ its:List Value,Vals xs its/\IsTup h a its.toArray
 | .dK kvs=>kvs.length<=sizeLine/\(a==sysModules)=false/\∃ vs,KV kvs vs/\h.DictOf (au P w) a vs
 | .dT kvs=>kvs.length<=sizeLine/\(a==sysModules)=false/\∃ xs:List (List Key×Addr×Value),
   Paired (fun(p:List Key×V) (q:List Key×Addr×Value)=>p.1=q.1/\H q.2.1=some (.tup (p.1.map kV))/\RelV p.2 q.2.2) kvs xs ∧
   ∃ o es ep,h.get? a=some o/\o.ExactDict/\o.data=.dict es ep/\es.toList=xs.map (entryOfKey (tupleKind (au P w)))/\(xs.map (·.1)).Nodup
 | .set S n=>h.SetOf (intKind P w) a S n
 | .ins C dx fs=>H dx=some (.own a)/\fs.length<=1000/\dx≠a/\h.get? a=some (PySem.W.instObj C dx) ∧
   ∃ mA,h.Ns1 dx mA/\(∀ f,bK (fs.lookup f) (mA f))/\PySem.Within mA (fs.map (·.1))
 | .own _=>∃ o,h.get? a=some o
 | .xd fs=>∃ mA,h.Ns1 a mA/\∀ f,bK (fs.lookup f) (mA f)
 | .rng lo hi=>∃ t u v,h.get? a=some { cls:=.type "range",data:=.fields #[.int lo t,.int hi u,.int 1 v] }
 | .frz o u=>h.get? a=some o/\aj H h a u
 | .tbl ps=>h.get? a=some { cls:=.none,data:=.fields ps }
 | .met f x=>h.get? a=some (PySem.W.methodObj (.ref f) (.ref x))
 | .ext φ=>φ h/\(∃ o,h.get? a=some o)/\∀ h1 h2:Heap,φ h1->(∀ o,h1.get? a=some o->h2.get? a=some o)->φ h2
noncomputable def HOk (H:Hp)(h:Heap):Prop:=∀ a o,H a=some o->aj P w H h a o
end
section
variable {P:Program}{w:World}{H H':Hp}{h h':Heap}{a:Addr}{o:HO}
theorem aj.lt(x:aj P w H h a o):a<h.objs.size:=by
 cases o with
 | lst xs=>obtain⟨_,_,_,_,e⟩:=x;exact Dz e
 | tup xs=>obtain⟨_,_,_,p⟩:=x;exact p.lt
 | dK kvs=>obtain⟨_,_,_,_,o,_,_,e,_⟩:=x;exact Dz e
 | dT kvs=>obtain⟨_,_,_,_,o,_,_,e,_⟩:=x;exact Dz e
 | set S n=>obtain⟨o,_,_,_,e,_⟩:=x;exact Dz e
 | ins C dx fs=>obtain⟨_,_,_,e,_⟩:=x;exact Dz e
 | own y=>obtain⟨_,e⟩:=x;exact Dz e
 | xd fs=>obtain⟨_,⟨_,_,_,e,_⟩,_⟩:=x;exact Dz e
 | rng lo hi=>obtain⟨_,_,_,e⟩:=x;exact Dz e
 | frz ob u=>obtain⟨e,_⟩:=x;exact Dz e
 | tbl ps=>exact Dz (show h.get? a=some _ from x)
 | met f y=>exact Dz (show h.get? a=some _ from x)
 | ext φ=>obtain⟨_,⟨_,e⟩,_⟩:=x;exact Dz e
theorem Paired.m9{α β:Type}{F G:α->β->Prop}:∀{l₁:List α}{l₂:List β},Paired F l₁ l₂->(∀ a b,F a b->G a b)->Paired G l₁ l₂
 | _,_,.nil,_=>.nil
 | _,_,.cons r t,f=>.cons (f _ _ r) (Paired.m9 t f)
theorem aj.dC(x:aj P w H h a o)(k:∀ b u,(b=a\/H b=some (.own a))->h.get? b=some u->h'.get? b=some u)(ho:∀ b,H b=some (.own a)->H' b=some (.own a))(ht:∀ b xs,H b=some (.tup xs)->H' b=some (.tup xs)):aj P w H' h' a o:=by
 induction o with
 | lst xs=>obtain⟨z,its,n,r,e⟩:=x;exact⟨z,its,n,r,k _ _ (.inl rfl) e⟩
 | tup xs=>obtain⟨z,its,r,ob,e,c⟩:=x;exact⟨z,its,r,ob,k _ _ (.inl rfl) e,c⟩
 | dK kvs=>obtain⟨z,y,vs,r,ob,es,ep,e,c⟩:=x;exact⟨z,y,vs,r,ob,es,ep,k _ _ (.inl rfl) e,c⟩
 | dT kvs=>
  obtain⟨z,y,xs,r,ob,es,ep,e,c⟩:=x;exact⟨z,y,xs,Paired.m9 r fun p q z=>⟨z.1,ht _ _ z.2.1,z.2.2⟩,ob,es,ep,k _ _ (.inl rfl) e,c⟩
 | set S n=>obtain⟨ob,es,ep,t,e,c⟩:=x;exact⟨ob,es,ep,t,k _ _ (.inl rfl) e,c⟩
 | ins C dx fs=>
  obtain⟨d,z,ne,e,mA,⟨od,es,ep,e2,c⟩,r⟩:=x;exact⟨ho _ d,z,ne,k _ _ (.inl rfl) e,mA,⟨od,es,ep,k _ _ (.inr d) e2,c⟩,r⟩
 | own y=>obtain⟨ob,e⟩:=x;exact⟨ob,k _ _ (.inl rfl) e⟩
 | xd fs=>obtain⟨mA,⟨od,es,ep,e,c⟩,r⟩:=x;exact⟨mA,⟨od,es,ep,k _ _ (.inl rfl) e,c⟩,r⟩
 | rng lo hi=>obtain⟨t,u,v,e⟩:=x;exact⟨t,u,v,k _ _ (.inl rfl) e⟩
 | frz ob u ih=>obtain⟨e,q⟩:=x;exact⟨k _ _ (.inl rfl) e,ih q⟩
 | tbl ps=>
  have e:h.get? a=some { cls:=.none,data:=.fields ps }:=x;show h'.get? a=some { cls:=.none,data:=.fields ps }
  exact k a _ (.inl rfl) e
 | met f y=>
  have e:h.get? a=some (PySem.W.methodObj (.ref f) (.ref y)):=x;show h'.get? a=some (PySem.W.methodObj (.ref f) (.ref y))
  exact k a _ (.inl rfl) e
 | ext φ=>obtain⟨p,⟨o,e⟩,st⟩:=x;exact⟨st _ _ p fun o q=>k _ _ (.inl rfl) q,⟨o,k _ _ (.inl rfl) e⟩,st⟩
theorem HOk.lt(x:HOk P w H h)(e:H a=some o):a<h.objs.size:=(x a o e).lt
theorem HOk.fresh(x:HOk P w H h)(e:h.objs.size<=a):H a=none:=by
 cases q:H a with
 | none=>rfl
 | some u=>exact absurd (D6 (x.lt q) e) (EG _)
theorem HOk.kept(x:HOk P w H h)(k:∀ b u,h.get? b=some u->h'.get? b=some u):HOk P w H h':=fun a o e=>
 (x a o e).dC (fun b u _ q=>k b u q) (fun _ q=>q) fun _ _ q=>q
theorem HOk.laid(x:HOk P w H h)(k:∀ b u,h.get? b=some u->h'.get? b=some u)(hp:h.objs.size<=a)(new:aj P w (upd H a o) h' a o):HOk P w (upd H a o) h':=fun b u e=>by
 have hn:=x.fresh hp
 by_cases hb:b=a
 ·subst hb;rw[aW]at e;cases e;exact new
 ·rw[ao hb]at e
  exact(x b u e).dC (fun c v _ q=>k c v q) (fun c q=>by rw[ao (aB q hn)];exact q) fun c xs q=>by rw[ao (aB q hn)];exact q
end
noncomputable def Rd (H:Hp)(a:Addr)(u:HO):Prop:=H a=some u\/∃ o,H a=some (.frz o u)
theorem Rd.of{H:Hp}{u:HO}(h:H a=some u):Rd H a u:=.inl h
theorem Rd.ok{H:Hp}{u:HO}(r:Rd H a u)(x:HOk P w H h):aj P w H h a u:=by
 rcases r with r|⟨o,r⟩
 ·exact x a u r
 ·obtain⟨_,q⟩:=x a _ r;exact q
noncomputable def Mut:Option HO->Prop
 | some (.lst _)=>True
 | some (.dK _)=>True
 | some (.dT _)=>True
 | some (.set _ _)=>True
 | some (.ins _ _ _)=>True
 | some (.ext _)=>True
 | _=>False
section
variable {P:Program}{w:World}{H:Hp}{h h':Heap}{x e:Addr}{o':HO}
theorem HOk.write(ok:HOk P w H h)(mu:Mut (H x))(he:e=x\/H e=some (.own x))(k:∀ b u,b≠e->h.get? b=some u->h'.get? b=some u)(heo:∃ u,h'.get? e=some u)(new:aj P w (upd H x o') h' x o'):HOk P w (upd H x o') h':=fun b u q=>by
 have nown:∀ c y,H c=some (.own y)->c≠x:=fun c y r z=>by subst z;rw[r]at mu;exact mu
 have ntup:∀ c xs,H c=some (.tup xs)->c≠x:=fun c xs r z=>by subst z;rw[r]at mu;exact mu
 by_cases hb:b=x
 ·subst hb;rw[aW]at q;cases q;exact new
 ·rw[ao hb]at q
  by_cases hbe:b=e
  ·have q':H b=some (.own x):=by
    rcases he with z|z
    ·exact absurd (hbe.trans z) hb
    ·rw[hbe];exact z
   rw[q]at q';cases q'
   obtain⟨v,hv⟩:=heo;exact⟨v,by rw[hbe];exact hv⟩
  ·refine(ok b u q).dC (fun c v hc r=>k c v ?_ r) (fun c r=>by rw[ao (nown c b r)];exact r) fun c xs r=>by rw[ao (ntup c xs r)];exact r
   rcases hc with rfl|hc
   ·exact hbe
   ·rintro rfl;rcases he with z|z
    ·exact nown c b hc z
    ·rw[hc]at z;cases z;exact hb rfl
end
structure Un (fs ex:List Addr)(H H':Hp)(h h':Heap):Prop where
 keep:∀ b o,h.get? b=some o->H b=none->b∉fs->b∉ex->h'.get? b=some o
 slot:∀ b o,h.get? b=some o->H b=none->b∈fs->b∉ex->∃ sl,h'.get? b=some { o with slots:=sl }
 free:∀ b o,h.get? b=some o->H b=none->b∉ex->H' b=none
 there:∀ b o,h.get? b=some o->b∉ex->∃ o',h'.get? b=some o'
 tups:∀ b xs,H b=some (.tup xs)->H' b=some (.tup xs)
 frzs:∀ b o u,H b=some (.frz o u)->H' b=some (.frz o u)
 tbls:∀ b ps,H b=some (.tbl ps)->∃ more,H' b=some (.tbl (ps++more))
section
variable {fs fs' ex ex':List Addr}{H H1 H2:Hp}{h h1 h2 h':Heap}{a x e:Addr}{o:HO}
theorem Un.any(u:Un fs ex H H1 h h1){ob:Obj}(q:h.get? b=some ob)(n:H b=none)(hx:b∉ex):∃ sl,h1.get? b=some { ob with slots:=sl }:=by
 by_cases hb:b∈fs
 ·exact u.slot b ob q n hb hx
 ·exact⟨ob.slots,u.keep b ob q n hb hx⟩
theorem Un.trans(a:Un fs ex H H1 h h1)(b:Un fs ex H1 H2 h1 h2):Un fs ex H H2 h h2 where
 keep:=fun c ob q n hc hx=>b.keep c ob (a.keep c ob q n hc hx) (a.free c ob q n hx) hc hx
 slot:=fun c ob q n hc hx=>by
  obtain⟨sl,e1⟩:=a.slot c ob q n hc hx;obtain⟨sl',e2⟩:=b.slot c _ e1 (a.free c ob q n hx) hc hx;exact⟨sl',e2⟩
 free:=fun c ob q n hx=>by
  obtain⟨o',e1⟩:=a.there c ob q hx;exact b.free c o' e1 (a.free c ob q n hx) hx
 there:=fun c ob q hx=>by
  obtain⟨o',e1⟩:=a.there c ob q hx;exact b.there c o' e1 hx
 tups:=fun c xs q=>b.tups c xs (a.tups c xs q)
 frzs:=fun c ob xs q=>b.frzs c ob xs (a.frzs c ob xs q)
 tbls:=fun c ps q=>by
  obtain⟨m1,e1⟩:=a.tbls c ps q;obtain⟨m2,e2⟩:=b.tbls c _ e1;exact⟨m1++m2,by rw[e2,Array.append_assoc]⟩
theorem Un.kept(k:∀ b u,h.get? b=some u->h'.get? b=some u):Un fs ex H H h h':=
 ⟨fun b ob q _ _ _=>k b ob q,fun b ob q _ _ _=>⟨ob.slots,k b ob q⟩,fun _ _ _ n _=>n,fun b ob q _=>⟨ob,k b ob q⟩,fun _ _ q=>q,fun _ _ _ q=>q,fun _ ps q=>⟨#[],by rw[q];simp⟩⟩
theorem Un.refl:Un fs ex H H h h:=Un.kept fun _ _ q=>q
theorem Un.laid(k:∀ b u,h.get? b=some u->h'.get? b=some u)(hp:h.objs.size<=a)(hn:H a=none):Un fs ex H (upd H a o) h h' where
 keep:=fun b u q _ _ _=>k b u q
 slot:=fun b u q _ _ _=>⟨u.slots,k b u q⟩
 free:=fun b u q n _=>by rw[ao (DO (D6 (Dz q) hp))];exact n
 there:=fun b u q _=>⟨u,k b u q⟩
 tups:=fun b xs q=>by rw[ao (aB q hn)];exact q
 frzs:=fun b u xs q=>by rw[ao (aB q hn)];exact q
 tbls:=fun b ps q=>⟨#[],by rw[ao (aB q hn),q];simp⟩
theorem Un.write(mu:Mut (H x))(he:e=x\/H e=some (.own x))(k:∀ b u,b≠e->h.get? b=some u->h'.get? b=some u)(heo:∃ u,h'.get? e=some u):Un fs ex H (upd H x o) h h':=by
 have hx:∀ b,H b=none->b≠x:=fun b n z=>by subst z;rw[n]at mu;exact mu
 have hb:∀ b,H b=none->b≠e:=fun b n z=>by
  subst z;rcases he with r|r
  ·exact hx b n r
  ·rw[n]at r;cases r
 have hm:∀ b u,H b=some u->¬ Mut (some u)->b≠x:=fun b u q nm z=>by subst z;rw[q]at mu;exact nm mu
 refine⟨fun b u q n _ _=>k b u (hb b n) q,fun b u q n _ _=>⟨u.slots,k b u (hb b n) q⟩,fun b u q n _=>by rw[ao (hx b n)];exact n,fun b u q _=>?_,
  fun b xs q=>by rw[ao (hm b _ q fun z=>z)];exact q,fun b u xs q=>by rw[ao (hm b _ q fun z=>z)];exact q,fun b ps q=>⟨#[],by rw[ao (hm b _ q fun z=>z),q];simp⟩⟩
 by_cases hbe:b=e
 ·subst hbe;exact heo
 ·exact⟨u,k b u hbe q⟩
theorem Un.mono(u:Un fs ex H H1 h h1)(hs:∀ b∈fs,b∈fs')(hx:∀ b∈ex,b∈ex'):Un fs' ex' H H1 h h1:=
 ⟨fun b ob q n hb he=>u.keep b ob q n (fun z=>hb (hs b z)) fun z=>he (hx b z),fun _ _ q n _ he=>u.any q n fun z=>he (hx _ z),fun b ob q n he=>u.free b ob q n fun z=>he (hx b z),fun b ob q he=>u.there b ob q fun z=>he (hx b z),u.tups,u.frzs,u.tbls⟩
end
noncomputable def trk (h:Heap)(H:Hp):List Addr:=(List.range h.objs.size).filter fun a=>(H a).isSome
noncomputable def de (h:Heap)(H:Hp):Heap:=PySem.W.hideAll h (trk h H)
theorem qU(h:Heap)(H:Hp):(de h H).objs.size=h.objs.size:=PySem.W.hideAll_size _ _
theorem qG{H:Hp}(e:h.get? b=some o)(n:H b=none):(de h H).get? b=some o:=
 PySem.W.hideAll_get _ e fun hm=>by
  have q:(H b).isSome=true:=(Eb.mp hm).2;rw[n]at q;simp at q
theorem oo{H:Hp}(e:(de h H).get? b=some o):h.get? b=some o/\H b=none:=by
 have e':h.get? b=some o:=PySem.W.of_hideAll (trk h H) e;refine⟨e',?_⟩;cases q:H b with
 | none=>rfl
 | some x=>
  have hm:b∈trk h H:=Eb.mpr ⟨Eh.mpr (Dz e'),by simp [q]⟩
  have z:(de h H).get? b=none:=PySem.W.hideAll_none (trk h H) hm;rw[z]at e;cases e
noncomputable def uU (g h:Heap)(L:Addr):List (Addr×Obj):=(List.range h.objs.size).filterMap fun a=>if a=L\/(g.get? a).isSome=true then none else(h.get? a).map fun o=>(a,o)
noncomputable def rest (g h:Heap)(L d:Addr):List (Addr×Obj):=(uU g h L).filter fun p=>decide (p.1≠d)
structure Mod (K:PySem.W.Frag)(mg:Str->Option Value)(base:Heap):Prop where
 kin:K.In base
 glob:base.Ns mainGlobals mg
 blt:∃ mb,base.Ns builtinsNs mb/\∀ x:Str,x≠"__name__"->mb x=bootBuiltins x
 nolimit:base.NoLimit
structure Cx where
 prog:Program
 w:World
 K:PySem.W.Frag
 mg:Str->Option Value
 base:Heap
 A:Around
 N:List Str
 s₀:Shared
 H₀:Hp
 env:Env
 outer:List Env
 stack:List Env
 ex:List Addr
 fn:Str->Bool
 calm:Bool
 pn:List (Addr×Obj)
 xe:Value->Shared->Prop
noncomputable def frs (l:List Env):List Addr:=l.filterMap (·.frame)
noncomputable abbrev Cx.fs (X:Cx):List Addr:=frs X.outer
noncomputable def Vis (sc:Scope)(x:Str):Prop:=sc.names.lookup x=some .local\/sc.names.lookup x=some .cell\/sc.names.lookup x=some .free
noncomputable def Loc (sc:Scope)(x:Str):Prop:=sc.names.lookup x=some .local\/sc.names.lookup x=some .cell
noncomputable def Look (env:Env)(h:Heap)(m:Str->Option Value)(x:Str)(u:Value):Prop:=
 (env.kindOf x=some .local/\m x=some u)\/((env.kindOf x=some .cell\/env.kindOf x=some .free)/\∃ c,env.cells.lookup x=some c/\h.IsCell c (some u))
structure Cx.Ok (X:Cx):Prop where
 mod:Mod X.K X.mg X.base
 kind:X.env.scope.kind=.function
 glob:X.env.globals=mainGlobals
 blt:X.env.builtins=builtinsNs
 above:X.s₀.heap.objs.size<=X.env.locals
 inj:∀ x y c,X.env.cells.lookup x=some c->X.env.cells.lookup y=some c->x=y
 has:∀ x,(X.env.kindOf x=some .cell\/X.env.kindOf x=some .free)->∃ c,X.env.cells.lookup x=some c
 cab:∀ x c,X.fn x=true->X.env.cells.lookup x=some c->X.s₀.heap.objs.size<=c
 hd:X.calm=true->X.A.handled=none
 frames:X.A.frames=some X.stack
 stk:X.stack=X.outer\/(X.stack=X.env::X.outer/\X.env.frame=some X.env.locals)
 exf:∀ b∈X.ex,b≠X.env.locals/\∀ x c,X.env.cells.lookup x=some c->c≠b
 bs:∀ b o,X.base.get? b=some o->X.s₀.heap.get? b=some o/\X.H₀ b=none
 bsz:X.base.objs.size<=X.s₀.heap.objs.size
 noex:∀ b o,X.base.get? b=some o->b∉X.ex
 exfs:∀ b∈X.ex,b∉X.fs
 cm:X.s₀.heap.FunFrames X.base X.outer
 frf:∀ b∈X.fs,X.H₀ b=none
structure Inv (X:Cx)(pins:List (Addr×Obj))(σ:List (Option V))(H:Hp)(s:Shared):Prop where
 ok:X.Ok
 os:s.os=X.s₀.os
 bare:AllBare s.gens
 base:Un X.fs X.ex X.H₀ H X.s₀.heap s.heap
 loc:∃ m,s.heap.Ns X.env.locals m/\∀(i:Nat) (x:Str) (v:V),X.N[i]? =some x->σ[i]? =some (some v)->Vis X.env.scope x->∃ u,RelV v u/\Look X.env s.heap m x u
 cell:∀ x c,X.env.cells.lookup x=some c->∃ v,s.heap.IsCell c v
 free:H X.env.locals=none
 freeC:∀ x c,X.env.cells.lookup x=some c->H c=none
 pin:∀ p∈X.pn++pins,s.heap.get? p.1=some p.2/\H p.1=none/\p.1≠X.env.locals/\p.1∉X.fs/\∀ v,p.2.data≠.cell v
 hok:HOk X.prog X.w H s.heap
 len:σ.length=X.N.length
section
variable {X:Cx}{pins:List (Addr×Obj)}{σ:List (Option V)}{H H':Hp}{s:Shared}{h':Heap}
theorem Cx.Ok.sI(ok:X.Ok)(e:X.base.get? b=some o):b∉X.fs:=fun hb=>by
 have:=(ok.cm.mem hb).1
 rw[e]at this;cases this
theorem Inv.bs(I:Inv X pins σ H s):∀ b o,X.base.get? b=some o->s.heap.get? b=some o/\H b=none:=fun b o e=>
 ⟨I.base.keep b o (I.ok.bs b o e).1 (I.ok.bs b o e).2 (I.ok.sI e) (I.ok.noex b o e),I.base.free b o (I.ok.bs b o e).1 (I.ok.bs b o e).2 (I.ok.noex b o e)⟩
theorem Inv.bk(I:Inv X pins σ H s):∀ b o,X.base.get? b=some o->s.heap.get? b=some o:=fun b o e=>(I.bs b o e).1
theorem Inv.mod(I:Inv X pins σ H s):Mod X.K X.mg X.base:=I.ok.mod
theorem Inv.kIn(I:Inv X pins σ H s):X.K.In s.heap:=I.ok.mod.kin.keeps I.bk
theorem Inv.lt(I:Inv X pins σ H s):X.env.locals<s.heap.objs.size:=let ⟨_,hn,_⟩:=I.loc;hn.lt
theorem Inv.sz(I:Inv X pins σ H s):X.s₀.heap.objs.size<=s.heap.objs.size:=Ea I.ok.above (Fe I.lt)
theorem Inv.AY(I:Inv X pins σ H s)(h:s.heap.objs.size<=a):a∉X.fs:=fun hb=>by
 obtain⟨_,o,ho,_⟩:=I.ok.cm.mem hb;exact absurd (D6 (Dz ho) (Ea I.sz h)) (EG _)
theorem Inv.cne(I:Inv X pins σ H s):∀ x c,X.env.cells.lookup x=some c->c≠X.env.locals:=fun x c e z=>by
 obtain⟨v,o,ho,hd⟩:=I.cell x c e;obtain⟨m,⟨o',es,ep,ho',hd',_⟩,_⟩:=I.loc;rw[z,ho']at ho;cases ho;rw[hd']at hd;cases hd
theorem Inv.cm(I:Inv X pins σ H s):s.heap.FunFrames X.base X.outer:=by
 have all:∀(l:List Env),(∀ b∈frs l,b∈X.fs)->X.s₀.heap.FunFrames X.base l->s.heap.FunFrames X.base l:=by
  intro l;induction l with
  | nil=>intro _ _;trivial
  | cons env r ih=>
   intro hs hl;obtain⟨hk,⟨L,o,hf,hn,ho,hd⟩,hr⟩:=hl;have hL:L∈X.fs:=hs L (by unfold frs;rw[Es,hf];exact Dm)
   obtain⟨sl,e⟩:=I.base.slot L o ho (I.ok.frf L hL) hL fun z=>I.ok.exfs L z hL
   exact⟨hk,⟨L,_,hf,hn,e,hd⟩,ih (fun b hb=>hs b (by unfold frs;rw[Es,hf];exact Dr _ hb)) hr⟩
 exact all X.outer (fun _ hb=>hb) I.ok.cm
theorem Inv.stack(I:Inv X pins σ H s):s.heap.FunFrames X.base X.stack:=by
 rcases I.ok.stk with e|⟨e,hf⟩
 ·rw[e];exact I.cm
 ·rw[e];obtain⟨m,hn,_⟩:=I.loc;refine .cons (by rw[I.ok.kind];decide) hf hn ?_ I.cm
  exact Heap.get?_none_of_le (Ea I.ok.bsz I.ok.above)
theorem Inv.ez(I:Inv X pins σ H s):∀ b∈frs X.stack,b∈X.env.locals::X.fs:=fun b hb=>by
 rcases I.ok.stk with e|⟨e,hf⟩
 ·rw[e]at hb;exact Dr _ hb
 ·rw[e]at hb;unfold frs at hb;rw[Es,hf]at hb;exact hb
theorem Inv.k8(I:Inv X pins σ H s):∀ b∈frs X.stack,H b=none:=fun b hb=>by
 rcases DG.mp (I.ez b hb) with e|hb
 ·rw[e];exact I.free
 ·obtain⟨_,o,ho,_⟩:=I.ok.cm.mem hb;exact I.base.free b o ho (I.ok.frf b hb) fun z=>I.ok.exfs b z hb
theorem Inv.step{g':Array GenState}{d':Drawn}{ch:List Addr}(I:Inv X pins σ H s)(hch:∀ b∈ch,(b∈X.ex\/X.s₀.heap.objs.size<=b)/\b≠X.env.locals/\(∀ x c,X.env.cells.lookup x=some c->c≠b)/\∀ p∈X.pn++pins,p.1≠b)(keep:∀ b o,b≠X.env.locals->b∉X.fs->b∉ch->s.heap.get? b=some o->H b=none->h'.get? b=some o)(slot:∀ b o,b≠X.env.locals->b∈X.fs->b∉ch->s.heap.get? b=some o->H b=none->∃ sl,h'.get? b=some { o with slots:=sl })(free:∀ b o,b∉ch->s.heap.get? b=some o->H b=none->H' b=none)(there:∀ b o,b∉ch->s.heap.get? b=some o->∃ o',h'.get? b=some o')(tups:∀ b xs,H b=some (.tup xs)->H' b=some (.tup xs))(frzs:∀ b o u,H b=some (.frz o u)->H' b=some (.frz o u))(tbls:∀ b ps,H b=some (.tbl ps)->∃ more,H' b=some (.tbl (ps++more)))(ns:∀ m,s.heap.Ns X.env.locals m->h'.Ns X.env.locals m)(hok:HOk X.prog X.w H' h')(hg:AllBare g') :
  Inv X pins σ H' { s with heap:=h',gens:=g',drawn:=d',toks:=t' }:=by
 have neL:∀ b o,X.s₀.heap.get? b=some o->b≠X.env.locals:=fun b o e=>DO (D6 (Dz e) I.ok.above)
 have neC:∀ b o,X.s₀.heap.get? b=some o->b∉X.ex->b∉ch:=fun b o e hx hb=>by
  rcases(hch b hb).1 with z|z
  ·exact hx z
  ·exact absurd (D6 (Dz e) z) (EG _)
 have cellK:∀ x c,X.env.cells.lookup x=some c->∀ v,s.heap.IsCell c v->h'.IsCell c v:=fun x c e v ⟨o,ho,hd⟩=>by
  have nch:c∉ch:=fun z=>(hch c z).2.2.1 x c e rfl
  by_cases hc:c∈X.fs
  ·obtain⟨sl,q⟩:=slot c o (I.cne x c e) hc nch ho (I.freeC x c e);exact⟨_,q,hd⟩
  ·exact⟨o,keep c o (I.cne x c e) hc nch ho (I.freeC x c e),hd⟩
 refine⟨I.ok,I.os,hg,⟨fun b o e n hb hx=>?_,fun b o e n hb hx=>?_,fun b o e n hx=>?_,fun b o e hx=>?_,fun b xs e=>tups b xs (I.base.tups b xs e),fun b o xs e=>frzs b o xs (I.base.frzs b o xs e),fun b ps e=>?_⟩,?_,fun x c e=>?_,?_,fun x c e=>?_,fun p hp=>?_,hok,I.len⟩
 ·exact keep b o (neL b o e) hb (neC b o e hx) (I.base.keep b o e n hb hx) (I.base.free b o e n hx)
 ·obtain⟨sl,e1⟩:=I.base.slot b o e n hb hx;obtain⟨sl',e2⟩:=slot b _ (neL b o e) hb (neC b o e hx) e1 (I.base.free b o e n hx);exact⟨sl',e2⟩
 ·obtain⟨o',e1⟩:=I.base.there b o e hx;exact free b o' (neC b o e hx) e1 (I.base.free b o e n hx)
 ·obtain⟨o',e1⟩:=I.base.there b o e hx;exact there b o' (neC b o e hx) e1
 ·obtain⟨m1,e1⟩:=I.base.tbls b ps e;obtain⟨m2,e2⟩:=tbls b _ e1;exact⟨m1++m2,by rw[e2,Array.append_assoc]⟩
 ·obtain⟨m,hn,hl⟩:=I.loc;refine⟨m,ns m hn,fun i x v e1 e2 e3=>?_⟩
  obtain⟨u,r,l⟩:=hl i x v e1 e2 e3;refine⟨u,r,?_⟩;rcases l with l|⟨k,c,e,z⟩
  ·exact .inl l
  ·exact .inr ⟨k,c,e,cellK x c e _ z⟩
 ·obtain⟨v,z⟩:=I.cell x c e;exact⟨v,cellK x c e v z⟩
 ·obtain⟨m,⟨o,_,_,ho,_⟩,_⟩:=I.loc;exact free _ o (fun z=>(hch _ z).2.1 rfl) ho I.free
 ·obtain⟨v,o,ho,hd⟩:=I.cell x c e;exact free c o (fun z=>(hch c z).2.2.1 x c e rfl) ho (I.freeC x c e)
 ·obtain⟨e,n,ne,nf,d⟩:=I.pin p hp;have nch:p.1∉ch:=fun z=>(hch p.1 z).2.2.2 p hp rfl
  exact⟨keep p.1 p.2 ne nf nch e n,free p.1 p.2 nch e n,ne,nf,d⟩
theorem Inv.un(I:Inv X pins σ H s)(u:Un X.fs [] H H' s.heap h')(hok:HOk X.prog X.w H' h'):Inv X pins σ H' { s with heap:=h',toks:=t' }:=by
 obtain⟨m,⟨o,es,ep,ho,r⟩,_⟩:=id I.loc;obtain⟨sl,hL⟩:=u.any ho I.free (by simp)
 exact I.step (g':=s.gens) (d':=s.drawn) (ch:=[]) (fun _ z=>nomatch z) (fun b o _ hb _ e n=>u.keep b o e n hb (by simp)) (fun b o _ hb _ e n=>u.slot b o e n hb (by simp)) (fun b o _ e n=>u.free b o e n (by simp)) (fun b o _ e=>u.there b o e (by simp)) u.tups u.frzs u.tbls (fun m' hm=>by
  obtain⟨o',es',ep',ho',r'⟩:=hm;rw[ho]at ho';cases ho'
  exact⟨_,es',ep',hL,r'⟩) hok I.bare
theorem Inv.call{g':Array GenState}{d':Drawn}{ch:List Addr}(I:Inv X pins σ H s)(u:Un (frs X.stack) ch H H' s.heap h')(hok:HOk X.prog X.w H' h')(hg:AllBare g')(hch:∀ b∈ch,(b∈X.ex\/X.s₀.heap.objs.size<=b)/\b≠X.env.locals/\(∀ x c,X.env.cells.lookup x=some c->c≠b)/\∀ p∈X.pn++pins,p.1≠b) :
  Inv X pins σ H' { s with heap:=h',gens:=g',drawn:=d',toks:=t' }:=by
 obtain⟨m,⟨o,es,ep,ho,r⟩,_⟩:=id I.loc;obtain⟨sl,hL⟩:=u.any ho I.free fun z=>(hch _ z).2.1 rfl
 exact I.step (ch:=ch) hch (fun b o hL hb hc e n=>u.keep b o e n (fun z=>(DG.mp (I.ez b z)).elim hL hb) hc) (fun b o _ _ hc e n=>u.any e n hc) (fun b o hc e n=>u.free b o e n hc) (fun b o hc e=>u.there b o e hc) u.tups u.frzs u.tbls (fun m' hm=>by
  obtain⟨o',es',ep',ho',r'⟩:=hm;rw[ho]at ho';cases ho'
  exact⟨_,es',ep',hL,r'⟩) hok hg
theorem Inv.turned(I:Inv X pins σ H s)(k:∀ b o,b≠it->s.heap.get? b=some o->h'.get? b=some o)(hn:H it=none)(hL:it≠X.env.locals)(h1:it∈X.ex\/X.s₀.heap.objs.size<=it)(h2:∀ x c,X.env.cells.lookup x=some c->c≠it)(h3:∀ p∈X.pn++pins,p.1≠it):Inv X pins σ H { s with heap:=h',toks:=t' }:=by
 have nit:∀ b u,H b=some u->b≠it:=fun b u e z=>by rw[z,hn]at e;cases e
 refine I.step (g':=s.gens) (d':=s.drawn) (ch:=[it]) (fun b hb=>?_) (fun b o _ _ hc e _=>k b o (fun z=>hc (by simp [z])) e) (fun b o _ _ hc e _=>⟨o.slots,k b o (fun z=>hc (by simp [z])) e⟩) (fun _ _ _ _ n=>n)
  (fun b o hc e=>⟨o,k b o (fun z=>hc (by simp [z])) e⟩) (fun _ _ e=>e) (fun _ _ _ e=>e) (fun b ps e=>⟨#[],by rw[e];simp⟩) (fun m hm=>?_) (fun b u e=>?_) I.bare
 ·have e:b=it:=by simpa using hb
  subst e;exact⟨h1,hL,h2,h3⟩
 ·obtain⟨o,es,ep,ho,r⟩:=hm;exact⟨o,es,ep,k _ o (Ne.symm hL) ho,r⟩
 ·refine(I.hok b u e).dC (fun c v hc q=>k c v ?_ q) (fun _ q=>q) fun _ _ q=>q
  rcases hc with z|z
  ·rw[z];exact nit b u e
  ·exact nit c _ z
theorem Inv.tok(I:Inv X pins σ H s)(t:Nat):Inv X pins σ H { s with toks:=t }:=I.un (h':=s.heap) (t':=t) Un.refl I.hok
theorem Inv.kept(I:Inv X pins σ H s)(k:∀ b u,s.heap.get? b=some u->h'.get? b=some u):Inv X pins σ H { s with heap:=h',toks:=t' }:=I.un (Un.kept k) (I.hok.kept k)
theorem Inv.laid{o:HO}(I:Inv X pins σ H s)(k:∀ b u,s.heap.get? b=some u->h'.get? b=some u)(hp:s.heap.objs.size<=a)(new:aj X.prog X.w (upd H a o) h' a o) :
  Inv X pins σ (upd H a o) { s with heap:=h',toks:=t' }:=I.un (Un.laid k hp (I.hok.fresh hp)) (I.hok.laid k hp new)
theorem Inv.write{x e:Addr}{o:HO}(I:Inv X pins σ H s)(mu:Mut (H x))(he:e=x\/H e=some (.own x))(k:∀ b u,b≠e->s.heap.get? b=some u->h'.get? b=some u)(heo:∃ u,h'.get? e=some u)(new:aj X.prog X.w (upd H x o) h' x o):Inv X pins σ (upd H x o) { s with heap:=h',toks:=t' }:=I.un (Un.write mu he k heo) (I.hok.write mu he k heo new)
theorem Inv.weak{σ':List (Option V)}(I:Inv X pins σ H s)(hl:σ'.length=σ.length)(w:∀(i:Nat) v,σ'[i]? =some (some v)->σ[i]? =some (some v)):Inv X pins σ' H s:=
 ⟨I.ok,I.os,I.bare,I.base,let ⟨m,hn,hl'⟩:=I.loc;⟨m,hn,fun i x v e1 e2 e3=>hl' i x v e1 (w i v e2) e3⟩,I.cell,I.free,I.freeC,I.pin,I.hok,hl.trans I.len⟩
theorem Inv.ua{pins':List (Addr×Obj)}(I:Inv X pins σ H s)(h:∀ p∈pins',s.heap.get? p.1=some p.2/\H p.1=none/\p.1≠X.env.locals/\p.1∉X.fs/\∀ v,p.2.data≠.cell v):Inv X pins' σ H s:=
 ⟨I.ok,I.os,I.bare,I.base,I.loc,I.cell,I.free,I.freeC,fun p hp=>(Dp.mp hp).elim (fun z=>I.pin p (Ft _ z)) (h p),I.hok,I.len⟩
theorem rL(hN:N.Nodup)(a:N[i]? =some x)(b:N[j]? =some x):i=j:=by
 obtain⟨h1,e1⟩:=DI.mp a;obtain⟨h2,e2⟩:=DI.mp b
 exact(List.getElem_inj hN).mp (e1.trans e2.symm)
theorem pI{M:Model}{v:V}{Q:Unit->Shared->Prop}(I:Inv X pins σ H s)(hN:X.N.Nodup)(hi:X.N[i]? =some x)(hx:Loc X.env.scope x)(r:RelV v u)(h:∀ s',Inv X pins (σ.set i (some v)) H s'->(∃ a,Heap.SameBut a s.heap s'.heap/\(a=X.env.locals\/X.env.cells.lookup x=some a))->Q () s')(hf:X.fn x=true\/X.env.scope.names.lookup x=some .local:=by first|exact .inl rfl|exact .inr rfl|assumption):wpAny M A (storeName X.env x u) Q E s:=by
 obtain⟨m,hn,hl⟩:=id I.loc;have hcls:(X.env.scope.kind==.class||(X.env.scope.kind==.module&&X.env.locals !=X.env.globals))=false:=by rw[I.ok.kind];rfl
 have hiσ:i<σ.length:=by rw[I.len];exact(DI.mp hi).1
 have cne:=I.cne;have tracked:∀{a:Addr} {h':Heap},(∃ o,s.heap.get? a=some o/\H a=none)->Heap.SameBut a s.heap h'->HOk X.prog X.w H h':=fun {a h'} ha hs b ob e=>by
  obtain⟨_,_,hfree⟩:=ha;refine(I.hok b ob e).dC (fun c w' hc q=>(hs.2 c ?_).trans q) (fun _ q=>q) fun _ _ q=>q
  rintro rfl;rcases hc with rfl|hc
  ·rw[hfree]at e;cases e
  ·rw[hfree]at hc;cases hc
 rcases hx with hk|hk
 ·refine wpAny_storeName_local hk hn (fun h' hn' hs=>?_) hcls
  obtain⟨oL,_,_,hoL,_⟩:=id hn;refine h _ ⟨I.ok,I.os,I.bare,⟨fun b o e n hb hx=>?_,fun b o e n hb hx=>?_,I.base.free,fun b o e hx=>?_,I.base.tups,I.base.frzs,I.base.tbls⟩,⟨_,hn',fun j y v' e1 e2 e3=>?_⟩,fun y c e=>?_,I.free,I.freeC,fun p hp=>?_,tracked ⟨oL,hoL,I.free⟩ hs,by simpa using I.len⟩ ⟨_,hs,.inl rfl⟩
  ·exact(hs.2 b (DO (D6 (Dz e) I.ok.above))).trans (I.base.keep b o e n hb hx)
  ·obtain⟨sl,e1⟩:=I.base.slot b o e n hb hx;exact⟨sl,(hs.2 b (DO (D6 (Dz e) I.ok.above))).trans e1⟩
  ·obtain⟨o',e1⟩:=I.base.there b o e hx;exact⟨o',(hs.2 b (DO (D6 (Dz e) I.ok.above))).trans e1⟩
  ·by_cases hj:j=i
   ·subst hj;rw[hi]at e1;cases e1
    rw[List.getElem?_set_self hiσ]at e2;cases e2
    exact⟨u,r,.inl ⟨hk,by simp⟩⟩
   ·rw[List.getElem?_set_ne (Ne.symm hj)]at e2;obtain⟨u',r',q⟩:=hl j y v' e1 e2 e3;refine⟨u',r',?_⟩;rcases q with⟨k,e⟩|⟨k,c,e,z⟩
    ·refine .inl ⟨k,?_⟩
     have:y≠x:=fun e=>hj (rL hN e1 (e▸hi))
     simp [this,e]
    ·exact .inr ⟨k,c,e,z.sameBut hs (cne y c e)⟩
  ·obtain⟨w',z⟩:=I.cell y c e;exact⟨w',z.sameBut hs (cne y c e)⟩
  ·obtain⟨e,n,ne,nf,d⟩:=I.pin p hp;exact⟨(hs.2 p.1 ne).trans e,n,ne,nf,d⟩
 ·have hfn:X.fn x=true:=by
   rcases hf with z|z
   ·exact z
   ·rw[z]at hk;cases hk
  obtain⟨c,hc⟩:=I.ok.has x (.inl hk);obtain⟨w',z⟩:=I.cell x c hc;refine wpAny_storeName_cell I.ok.kind hk hc z (fun h' hc' hs=>?_)
  obtain⟨oc,hoc,hocd⟩:=id z;refine h { s with heap:=h' } ⟨I.ok,I.os,I.bare,⟨fun b o e n hb hx=>?_,fun b o e n hb hx=>?_,I.base.free,fun b o e hx=>?_,I.base.tups,I.base.frzs,I.base.tbls⟩,⟨m,hn.sameBut hs (Ne.symm (cne x c hc)),fun j y v' e1 e2 e3=>?_⟩,fun y c' e=>?_,I.free,I.freeC,fun p hp=>?_,tracked ⟨oc,hoc,I.freeC x c hc⟩ hs,by simpa using I.len⟩ ⟨c,hs,.inr hc⟩
  ·exact(hs.2 b (DO (D6 (Dz e) (I.ok.cab x c hfn hc)))).trans (I.base.keep b o e n hb hx)
  ·obtain⟨sl,e1⟩:=I.base.slot b o e n hb hx;exact⟨sl,(hs.2 b (DO (D6 (Dz e) (I.ok.cab x c hfn hc)))).trans e1⟩
  ·obtain⟨o',e1⟩:=I.base.there b o e hx;exact⟨o',(hs.2 b (DO (D6 (Dz e) (I.ok.cab x c hfn hc)))).trans e1⟩
  ·by_cases hj:j=i
   ·subst hj;rw[hi]at e1;cases e1
    rw[List.getElem?_set_self hiσ]at e2;cases e2
    exact⟨u,r,.inr ⟨.inl hk,c,hc,hc'⟩⟩
   ·rw[List.getElem?_set_ne (Ne.symm hj)]at e2;obtain⟨u',r',q⟩:=hl j y v' e1 e2 e3;refine⟨u',r',?_⟩;rcases q with q|⟨k,c',e,z'⟩
    ·exact .inl q
    ·refine .inr ⟨k,c',e,z'.sameBut hs ?_⟩;rintro rfl;exact hj (rL hN e1 (I.ok.inj _ _ _ e hc▸hi))
  ·by_cases hcc:c'=c
   ·subst hcc;exact⟨_,hc'⟩
   ·obtain⟨w2,z2⟩:=I.cell y c' e;exact⟨w2,z2.sameBut hs hcc⟩
  ·obtain⟨e,n,ne,nf,d⟩:=I.pin p hp;refine⟨(hs.2 p.1 ?_).trans e,n,ne,nf,d⟩;intro q;rw[q,hoc]at e;have q':oc=p.2:=DL e;exact d w' (by rw[<-q'];exact hocd)
theorem o8{M:Model}{v:V}{Q:Unit->Shared->Prop}(I:Inv X pins σ H s)(hN:X.N.Nodup)(hi:X.N[i]? =some x)(hx:Loc X.env.scope x)(r:RelV v u)(h:∀ s',Inv X pins (σ.set i (some v)) H s'->Q () s')(hf:X.fn x=true\/X.env.scope.names.lookup x=some .local:=by first|exact .inl rfl|exact .inr rfl|assumption):wpAny M A (storeName X.env x u) Q E s:=
 pI I hN hi hx r (fun s' I' _=>h s' I') hf
theorem Inv.Bw{s':Shared}{ch:List Addr}(I:Inv X pins σ H s)(ho:s'.os=s.os)(u:Un (frs X.stack) ch H H' s.heap s'.heap)(hok:HOk X.prog X.w H' s'.heap)(hg:AllBare s'.gens)(hch:∀ b∈ch,(b∈X.ex\/X.s₀.heap.objs.size<=b)/\b≠X.env.locals/\(∀ x c,X.env.cells.lookup x=some c->c≠b)/\∀ p∈X.pn++pins,p.1≠b):Inv X pins σ H' s':=by
 obtain⟨h',g',d',t',o'⟩:=s';have e:o'=s.os:=ho;subst e;exact I.call (g':=g') (t':=t') (d':=d') u hok hg hch
end
noncomputable abbrev XK:=Value->Option Addr->Hp->Prop
noncomputable abbrev St:=List (Option V)
noncomputable abbrev VK:=V->Hp->Prop
noncomputable abbrev TE:=St->Hp->VK->Prop
noncomputable abbrev TT:=St->Hp->(Bool->Hp->Prop)->Prop
noncomputable abbrev TA:=St->Hp->(List V->Hp->Prop)->Prop
structure Ends where
 nx:St->Hp->Prop
 rt:VK
 bk:St->Hp->Prop:=fun _ _=>False
 ct:St->Hp->Prop:=fun _ _=>False
noncomputable abbrev TS:=Ends->St->Hp->Prop
noncomputable def EP (X:Cx)(pins:List (Addr×Obj))(σ:St)(Q:VK)(u:Value)(s':Shared):Prop:=∃ v H',Inv X pins σ H' s'/\RelV v u/\Q v H'
noncomputable def TP (X:Cx)(pins:List (Addr×Obj))(σ:St)(Q:Bool->Hp->Prop)(b:Bool)(s':Shared):Prop:=∃ H',Inv X pins σ H' s'/\Q b H'
noncomputable def AP (X:Cx)(pins:List (Addr×Obj))(σ:St)(Q:List V->Hp->Prop)(us:List Value)(s':Shared):Prop:=∃ vs H',Inv X pins σ H' s'/\Vals vs us/\Q vs H'
noncomputable def SP (X:Cx)(pins:List (Addr×Obj))(D:Ends)(f:Flow)(s':Shared):Prop:=
 match f with
 | .next=>∃ σ' H',Inv X pins σ' H' s'/\D.nx σ' H'
 | .brk=>∃ σ' H',Inv X pins σ' H' s'/\D.bk σ' H'
 | .cont=>∃ σ' H',Inv X pins σ' H' s'/\D.ct σ' H'
 | .ret u=>∃ v σ' H',Inv X pins σ' H' s'/\RelV v u/\D.rt v H'
noncomputable def PE (X:Cx)(e:Expr)(t:TE):Prop:=
 ∀(pins:List (Addr×Obj)) (s:Shared) (σ:St) (H:Hp) (Q:VK),Inv X pins σ H s->t σ H Q->wpAny (model X.prog X.w) X.A (eval e X.env) (EP X pins σ Q) X.xe s
noncomputable def PT (X:Cx)(e:Expr)(t:TT):Prop:=
 ∀(pins:List (Addr×Obj)) (s:Shared) (σ:St) (H:Hp) (Q:Bool->Hp->Prop),Inv X pins σ H s->t σ H Q->wpAny (model X.prog X.w) X.A (isTrue e X.env (eval e X.env)) (TP X pins σ Q) X.xe s
noncomputable def PW (X:Cx)(e:Expr)(t:TT):Prop:=
 ∀(whole:Sem Value) (pins:List (Addr×Obj)) (s:Shared) (σ:St) (H:Hp) (Q:Bool->Hp->Prop),Inv X pins σ H s->t σ H Q->wpAny (model X.prog X.w) X.A (isTrue e X.env whole) (TP X pins σ Q) X.xe s
theorem PW.pt{X:Cx}{t:TT}(h:PW X e t):PT X e t:=h _
noncomputable def PA (X:Cx)(es:List Expr)(t:TA):Prop:=
 ∀(pos:Pos) (pins:List (Addr×Obj)) (s:Shared) (σ:St) (H:Hp) (Q:List V->Hp->Prop),Inv X pins σ H s->t σ H Q->wpAny (model X.prog X.w) X.A (spliced (backTo pos (starEach es X.env))) (AP X pins σ Q) X.xe s
noncomputable def PS (X:Cx)(st:Stmt)(t:TS):Prop:=
 ∀(pins:List (Addr×Obj)) (s:Shared) (σ:St) (H:Hp) (D:Ends),Inv X pins σ H s->t D σ H->wpAny (model X.prog X.w) X.A (exec st X.env) (SP X pins D) X.xe s
noncomputable def PSs (X:Cx)(st:List Stmt)(t:TS):Prop:=
 ∀(pins:List (Addr×Obj)) (s:Shared) (σ:St) (H:Hp) (D:Ends),Inv X pins σ H s->t D σ H->wpAny (model X.prog X.w) X.A (execs st X.env) (SP X pins D) X.xe s
theorem thn{α:Type}{t:Sem α}{Q Q':α->Shared->Prop}{M:Model}(h:wpAny M A t Q E s)(hQ:∀ a s,Q a s->Q' a s):wpAny M A t Q' E s:=EA h hQ fun _ _ x=>x
section
variable {X:Cx}
noncomputable def lY (i:Nat):TE:=fun σ H Q=>∃ v,σ[i]? =some (some v)/\Q v H
noncomputable def tC (v:V):TE:=fun _ H Q=>Q v H
theorem AU(hN:X.N[i]? =some x)(hv:Vis X.env.scope x)(hd:(x==("__debug__":Str))=false:=by decide) (hcd:(x==("__classdict__":Str))=false:=by decide):PE X (.Name x pos) (lY i):=by
 intro pins s σ H Q I h;obtain⟨v,e,h⟩:=h;obtain⟨m,hn,hl⟩:=I.loc;obtain⟨u,r,l⟩:=hl i x v hN e hv;have fin:EP X pins σ Q u s:=⟨v,H,I,r,h⟩;rcases l with⟨hk,hm⟩|⟨hk,c,hc,hcell⟩
 ·exact wpAny_Name (wpAny_loadName_local I.ok.kind hk hn hm fin) hd
 ·rcases hk with hk|hk
  ·exact wpAny_Name (wpAny_loadName_cell I.ok.kind hk hc hcell fin) hd
  ·exact wpAny_Name (wpAny_loadName_free I.ok.kind hk hc hcell fin hcd) hd
theorem af{i j pos}:PE X (.Constant (.int i) j pos) (tC (.int i)):=fun _ _ _ H _ I h=>wpAny_Constant_int ⟨.int i,H,I.tok _,⟨_,rfl⟩,h⟩
theorem kZ{b j pos}:PE X (.Constant (.bool b) j pos) (tC (.bl b)):=fun _ _ _ H _ I h=>Constant_bool ⟨.bl b,H,I,rfl,h⟩
theorem gN{j pos}:PE X (.Constant .none j pos) (tC .non):=fun _ _ _ H _ I h=>Constant_none ⟨.non,H,I,rfl,h⟩
theorem eC{x j pos}:PE X (.Constant (.str x) j pos) (tC (.str x)):=fun _ _ _ H _ I h=>Calls.Constant_str ⟨.str x,H,I.tok _,⟨_,rfl⟩,h⟩
noncomputable def Gl (X:Cx)(x:Str):Prop:=X.env.kindOf x=some .globalImplicit
theorem jx{σ:St}{H:Hp}(I:Inv X pins σ H s)(hg:Gl X x)(hm:X.mg x=some u)(h:Q u s)(hd:(x==("__debug__":Str))=false:=by decide):wpAny (model X.prog X.w) X.A (eval (.Name x pos) X.env) Q E s:=
 Calls.Name_function_global I.ok.kind hg (Calls.loadGlobal_global (by rw[I.ok.glob];exact I.mod.glob.keeps I.bk) hm h) hd
theorem fb{σ:St}{H:Hp}(I:Inv X pins σ H s)(hg:Gl X x)(hm:X.mg x=none)(hv:bootBuiltins x=some u)(h:Q u s)(hn:x≠"__name__":=by decide) (hd:(x==("__debug__":Str))=false:=by decide):wpAny (model X.prog X.w) X.A (eval (.Name x pos) X.env) Q E s:=by
 obtain⟨mb,h1,h2⟩:=I.mod.blt;exact Calls.Name_function_global I.ok.kind hg (Calls.loadGlobal_builtin (by rw[I.ok.glob];exact I.mod.glob.keeps I.bk) hm (by rw[I.ok.blt];exact h1.keeps I.bk) ((h2 x hn).trans hv) h) hd
theorem p8{v:V}(hg:Gl X x)(hm:X.mg x=some u)(r:RelV v u)(hd:(x==("__debug__":Str))=false:=by decide):PE X (.Name x pos) (tC v):=
 fun _ _ _ H _ I h=>jx I hg hm ⟨v,H,I,r,h⟩ hd
theorem vW{v:V}(hg:Gl X x)(hm:X.mg x=none)(hv:bootBuiltins x=some u)(r:RelV v u)(hn:x≠"__name__":=by decide) (hd:(x==("__debug__":Str))=false:=by decide):PE X (.Name x pos) (tC v):=
 fun _ _ _ H _ I h=>fb I hg hm hv ⟨v,H,I,r,h⟩ hn hd
variable {a b:Expr}{ta tb:TE}{pos:Pos}
variable {tA tB':TT}{rest:List Expr}
noncomputable def xb (t u:TT):TT:=fun σ H Q=>t σ H fun c H1=>if c=true then u σ H1 Q else Q false H1
noncomputable def tOr (t u:TT):TT:=fun σ H Q=>t σ H fun c H1=>if c=true then Q true H1 else u σ H1 Q
noncomputable def yp (t:TT):TT:=fun σ H Q=>t σ H fun c H1=>Q (!c) H1
theorem pw_and1(ha:PT X a tA):PW X (.BoolOp .And [a] pos) tA:=by
 intro wh pins s σ H Q I h;refine isTrue_and (thn (ha pins s σ H Q I h) fun c s1 e=>?_)
 cases c with
 | true=>exact isTrue_and_nil e
 | false=>exact e
theorem pw_or1(ha:PT X a tA):PW X (.BoolOp .Or [a] pos) tA:=by
 intro wh pins s σ H Q I h;refine isTrue_or (thn (ha pins s σ H Q I h) fun c s1 e=>?_)
 cases c with
 | false=>exact isTrue_or_nil e
 | true=>exact e
theorem pw_and(ha:PT X a tA)(hb:PW X (.BoolOp .And (b::rest) pos) tB'):PW X (.BoolOp .And (a::b::rest) pos) (xb tA tB'):=by
 intro wh pins s σ H Q I h;refine isTrue_and (thn (ha pins s σ H _ I h) fun c s1 hZ=>?_)
 obtain⟨H1,I1,q1⟩:=hZ;cases c with
 | true=>exact hb wh pins s1 σ H1 Q I1 q1
 | false=>exact⟨H1,I1,q1⟩
theorem pw_or(ha:PT X a tA)(hb:PW X (.BoolOp .Or (b::rest) pos) tB'):PW X (.BoolOp .Or (a::b::rest) pos) (tOr tA tB'):=by
 intro wh pins s σ H Q I h;refine isTrue_or (thn (ha pins s σ H _ I h) fun c s1 hZ=>?_)
 obtain⟨H1,I1,q1⟩:=hZ;cases c with
 | true=>exact⟨H1,I1,q1⟩
 | false=>exact hb wh pins s1 σ H1 Q I1 q1
theorem kE(ha:PT X a tA):PT X (.UnaryOp .Not a pos) (yp tA):=by
 intro pins s σ H Q I h;exact isTrue_not (ha pins s σ H (fun c H1=>Q (!c) H1) I h)
theorem oJ{op}{t:TE}(h:PE X a t):PE X (.BoolOp op [a] pos) t:=fun pins s σ H Q I hw=>BoolOp_one (h pins s σ H Q I hw)
noncomputable def tIf (t:TT)(ta tb:TE):TE:=fun σ H Q=>t σ H fun c H1=>if c=true then ta σ H1 Q else tb σ H1 Q
theorem yw{c:Expr}(hc:PT X c tA)(ha:PE X a ta)(hb:PE X b tb):PE X (.IfExp c a b pos) (tIf tA ta tb):=by
 intro pins s σ H Q I h;refine wpAny_IfExp (thn (hc pins s σ H _ I h) fun d s1 hZ=>?_)
 obtain⟨H1,I1,q1⟩:=hZ;cases d with
 | true=>exact ha pins s1 σ H1 Q I1 q1
 | false=>exact hb pins s1 σ H1 Q I1 q1
end
noncomputable def SqL (K:PySem.W.Frag)(H:Hp)(a:Addr)(xs:List V):Prop:=
 Rd H a (.lst xs) ∨
  ∃(o:Obj) (its:Array Value) (n:Nat),K.lookup a=some o/\o.cls=.type "list"/\o.dict=none/\o.data=.seq its n/\its.size<=sizeLine/\Vals xs its.toList
noncomputable def SqT (K:PySem.W.Frag)(H:Hp)(a:Addr)(xs:List V):Prop:=
 Rd H a (.tup xs) ∨
  ∃(o:Obj) (its:Array Value) (n:Nat),K.lookup a=some o/\o.cls=.type "tuple"/\o.data=.seq its n/\its.size<=sizeLine/\Vals xs its.toList
noncomputable def yy:Value->Option V
 | .none=>some .non
 | .bool b=>some (.bl b)
 | .int i _=>some (.int i)
 | .str x _=>some (.str x)
 | .bytes b _=>some (.byt b)
 | .float b _=>some (.flt b)
 | .ref a=>some (.ref a)
 | .type n=>some (.ty n)
 | _=>none
theorem RelV.abs{x:V}(r:RelV x u):yy u=some x:=by
 cases x with
 | non=>cases r;rfl
 | bl _=>cases r;rfl
 | int _=>obtain⟨t,rfl⟩:=r;rfl
 | str _=>obtain⟨t,rfl⟩:=r;rfl
 | byt _=>obtain⟨t,rfl⟩:=r;rfl
 | flt _=>obtain⟨t,rfl⟩:=r;rfl
 | ref _=>cases r;rfl
 | ty _=>cases r;rfl
theorem RelV.inj{x y:V}(r:RelV x u)(q:RelV y u):x=y:=DL (r.abs.symm.trans q.abs)
theorem Vals.inj:∀{xs ys:List V}{us:List Value},Vals xs us->Vals ys us->xs=ys
 | _,_,_,.nil,.nil=>rfl
 | _,_,_,.cons r t,.cons r' t'=>by rw[r.inj r',Vals.inj t t']
section
variable {X:Cx}{pins:List (Addr×Obj)}{σ:St}{H:Hp}{s:Shared}{a:Addr}{xs ys:List V}
theorem SqL.of{K:PySem.W.Frag}(h:H a=some (.lst xs)):SqL K H a xs:=.inl (.inl h)
theorem SqT.of{K:PySem.W.Frag}(h:H a=some (.tup xs)):SqT K H a xs:=.inl (.inl h)
theorem Inv.list(I:Inv X pins σ H s)(h:SqL X.K H a xs):∃ its:List Value,Vals xs its/\PlainL s.heap a its.toArray/\xs.length<=sizeLine:=by
 rcases h with h|⟨o,its,n,hk,hc,hd,hs,hz,r⟩
 ·obtain⟨z,its,n,r,e⟩:=h.ok I.hok;exact⟨its,r,⟨_,n,e,rfl,rfl,rfl⟩,z⟩
 ·refine⟨its.toList,r,⟨o,n,I.kIn a o hk,hc,hd,by simpa using hs⟩,?_⟩
  have e:=r.length;simp only[DJ]at e;lia
theorem Inv.tuple(I:Inv X pins σ H s)(h:SqT X.K H a xs):∃ its:List Value,Vals xs its/\IsTup s.heap a its.toArray/\xs.length<=sizeLine:=by
 rcases h with h|⟨o,its,n,hk,hc,hs,hz,r⟩
 ·obtain⟨z,its,r,p⟩:=h.ok I.hok;exact⟨its,r,p,z⟩
 ·refine⟨its.toList,r,⟨o,I.kIn a o hk,hc,n,by simpa using hs⟩,?_⟩
  have e:=r.length;simp only[DJ]at e;lia
theorem Inv.sP(I:Inv X pins σ H s)(h:SqL X.K H a xs)(h':SqL X.K H a ys):xs=ys:=by
 obtain⟨its,r,⟨o,n,e,_,_,d⟩,_⟩:=I.list h;obtain⟨its',r',⟨o',n',e',_,_,d'⟩,_⟩:=I.list h';rw[e]at e';cases e'
 rw[d]at d';injection d' with d1 _
 have:its=its':=by simpa using congrArg Array.toList d1
 subst this;exact r.inj r'
theorem Inv.oS(I:Inv X pins σ H s)(h:SqT X.K H a xs)(h':SqT X.K H a ys):xs=ys:=by
 obtain⟨its,r,⟨o,e,_,n,d⟩,_⟩:=I.tuple h;obtain⟨its',r',⟨o',e',_,n',d'⟩,_⟩:=I.tuple h';rw[e]at e';cases e'
 rw[d]at d';injection d' with d1 _
 have:its=its':=by simpa using congrArg Array.toList d1
 subst this;exact r.inj r'
end
noncomputable abbrev Cx.df (X:Cx)(E:Value->Shared->Prop):Cx:={ X with xe:=E }
noncomputable abbrev Cx.nox (X:Cx):Cx:=X.df fun _ _=>False
theorem Cx.Ok.df{X:Cx}(ok:X.Ok)(E:Value->Shared->Prop):(X.df E).Ok:=
 ⟨ok.mod,ok.kind,ok.glob,ok.blt,ok.above,ok.inj,ok.has,ok.cab,ok.hd,ok.frames,ok.stk,ok.exf,ok.bs,ok.bsz,ok.noex,ok.exfs,ok.cm,ok.frf⟩
theorem Cx.Ok.dY{X:Cx}(ok:(X.df E).Ok):X.Ok:=
 ⟨ok.mod,ok.kind,ok.glob,ok.blt,ok.above,ok.inj,ok.has,ok.cab,ok.hd,ok.frames,ok.stk,ok.exf,ok.bs,ok.bsz,ok.noex,ok.exfs,ok.cm,ok.frf⟩
section
variable {X:Cx}{pins:List (Addr×Obj)}{σ:St}{H:Hp}{s:Shared}{E:Value->Shared->Prop}
theorem Inv.df(I:Inv X pins σ H s)(E:Value->Shared->Prop):Inv (X.df E) pins σ H s:=⟨I.ok.df E,I.os,I.bare,I.base,I.loc,I.cell,I.free,I.freeC,I.pin,I.hok,I.len⟩
theorem Inv.dY(I:Inv (X.df E) pins σ H s):Inv X pins σ H s:=⟨I.ok.dY,I.os,I.bare,I.base,I.loc,I.cell,I.free,I.freeC,I.pin,I.hok,I.len⟩
theorem SP.dY{D:Ends}{f:Flow}{s':Shared}(h:SP (X.df E) pins D f s'):SP X pins D f s':=by
 cases f with
 | next=>obtain⟨σ',H',I,q⟩:=h;exact⟨σ',H',I.dY,q⟩
 | brk=>obtain⟨σ',H',I,q⟩:=h;exact⟨σ',H',I.dY,q⟩
 | cont=>obtain⟨σ',H',I,q⟩:=h;exact⟨σ',H',I.dY,q⟩
 | ret u=>obtain⟨v,σ',H',I,r,q⟩:=h;exact⟨v,σ',H',I.dY,r,q⟩
theorem PSs.nox{st:List Stmt}{t:TS}(h:PSs X.nox st t):PSs X st t:=fun pins s σ H D I hw=>
 EA (h pins s σ H D (I.df _) hw) (fun _ _ q=>q.dY) fun _ _ z=>False.elim z
end
section
variable {X:Cx}{st:Stmt}{rest:List Stmt}{t u:TS}{e:Expr}{te:TE}{pos:Pos}
noncomputable def oq:TS:=fun D σ H=>D.nx σ H
noncomputable def qx (t u:TS):TS:=fun D σ H=>t { D with nx:=u D } σ H
theorem bY:PSs X [] oq:=fun _ _ σ H _ I h=>wpAny_execs_nil ⟨σ,H,I,h⟩
theorem ae(h1:PS X st t)(h2:PSs X rest u):PSs X (st::rest) (qx t u):=by
 intro pins s σ H D I h;refine wpAny_execs_cons (thn (h1 pins s σ H { D with nx:=u D } I h) fun f s1 q=>?_)
 cases f with
 | next=>
  obtain⟨σ',H',I',q⟩:=q;exact h2 pins s1 σ' H' D I' q
 | ret v=>exact q
 | brk=>exact q
 | cont=>exact q
theorem ah(h1:PS X st t):PSs X [st] t:=by
 intro pins s σ H D I h;refine wpAny_execs_cons (thn (h1 pins s σ H D I h) fun f s1 q=>?_)
 cases f with
 | next=>exact wpAny_execs_nil q
 | ret v=>exact q
 | brk=>exact q
 | cont=>exact q
theorem Inv.quiet{σ:St}{H:Hp}(I:Inv X pins σ H s):interactive X.env=false:=by simp [interactive,I.ok.kind]
noncomputable def zO (te:TE):TS:=fun D σ H=>te σ H fun _ H1=>D.nx σ H1
theorem bw(he:PE X e te)(hs:swapsWith e none pos.line X.env=pure false:=by rfl):PS X (.Expr e pos) (zO te):=by
 intro pins s σ H D I h;exact wpAny_Expr_any (thn (he pins s σ H _ I h) fun v s1 ⟨x,H1,I1,r1,q1⟩=>⟨σ,H1,I1,q1⟩) I.quiet hs
noncomputable def BW (te:TE):TS:=fun D σ H=>te σ H D.rt
theorem bz(he:PE X e te):PS X (.Return (some e) pos) (BW te):=by
 intro pins s σ H D I h;exact wpAny_Return_some (thn (he pins s σ H _ I h) fun v s1 ⟨x,H1,I1,r1,q1⟩=>⟨x,σ,H1,I1,r1,q1⟩)
noncomputable def CP (c:TT)(t u:TS):TS:=fun D σ H=>c σ H fun b H1=>if b=true then t D σ H1 else u D σ H1
theorem cc{c:Expr}{a b:List Stmt}{tc:TT}(hc:PT X c tc)(ha:PSs X a t)(hb:PSs X b u):PS X (.If c a b pos) (CP tc t u):=by
 intro pins s σ H D I h;refine wpAny_If (thn (hc pins s σ H _ I h) fun d s1 hZ=>?_)
 obtain⟨H1,I1,q1⟩:=hZ;cases d with
 | true=>exact ha pins s1 σ H1 D I1 q1
 | false=>exact hb pins s1 σ H1 D I1 q1
noncomputable def zP:TS:=fun _ _ _=>False
theorem ly{sts:List Stmt}:PSs X sts zP:=fun _ _ _ _ _ _ h=>h.elim
end
noncomputable abbrev TG:=V->St->Hp->(St->Hp->Prop)->Prop
noncomputable abbrev TGs:=List V->St->Hp->(St->Hp->Prop)->Prop
noncomputable def PG (X:Cx)(target:Expr)(t:TG):Prop:=
 ∀(pins:List (Addr×Obj)) (s:Shared) (σ:St) (H:Hp) (v:V) (u:Value) (Q:St->Hp->Prop),Inv X pins σ H s->RelV v u->t v σ H Q →
  wpAny (model X.prog X.w) X.A (assign target X.env u) (fun _ s'=>∃ σ' H',Inv X pins σ' H' s'/\Q σ' H') X.xe s
noncomputable def PGs (X:Cx)(ts:List Expr)(t:TGs):Prop:=
 ∀(pins:List (Addr×Obj)) (s:Shared) (σ:St) (H:Hp) (vs:List V) (us:List Value) (Q:St->Hp->Prop),Inv X pins σ H s->Vals vs us->t vs σ H Q →
  wpAny (model X.prog X.w) X.A (assignInOrder ((assignEach ts X.env).map (·.2)) us) (fun _ s'=>∃ σ' H',Inv X pins σ' H' s'/\Q σ' H') X.xe s
section
variable {X:Cx}{pos:Pos}
noncomputable def bR (i:Nat):TG:=fun v σ H Q=>Q (σ.set i (some v)) H
theorem Dc(hN:X.N.Nodup)(hi:X.N[i]? =some x)(hx:Loc X.env.scope x)(hf:X.fn x=true\/X.env.scope.names.lookup x=some .local:=by first|exact .inl rfl|exact .inr rfl|assumption):PG X (.Name x pos) (bR i):=by
 intro pins s σ H v u Q I r h;exact wpAny_assign_Name (o8 I hN hi hx r (fun s' I'=>⟨_,H,I',h⟩) hf)
noncomputable def yo:TGs:=fun vs σ H Q=>vs=[]/\Q σ H
noncomputable def xZ (t:TG)(u:TGs):TGs:=fun vs σ H Q=>∃ v r,vs=v::r/\t v σ H fun σ' H'=>u r σ' H' Q
theorem xh:PGs X [] yo:=by
 intro pins s σ H vs us Q I r h;obtain⟨e,h⟩:=h;subst e;cases r
 exact assignInOrder_nil ⟨σ,H,I,h⟩
theorem BR{es:List Expr}{t:TG}{u:TGs}(h1:PG X e t)(h2:PGs X es u)(hs:(assignEach (e::es) X.env).map (·.2)=assign e X.env::(assignEach es X.env).map (·.2):=by rfl):PGs X (e::es) (xZ t u):=by
 intro pins s σ H vs us Q I r h;obtain⟨v,vr,e1,h⟩:=h;subst e1;cases r with
 | cons r rr=>
  rw[hs];refine assignInOrder_cons (thn (h1 pins s σ H _ _ _ I r h) fun _ s1 hZ=>?_)
  obtain⟨σ1,H1,I1,q1⟩:=hZ;exact h2 pins s1 σ1 H1 _ _ Q I1 rr q1
noncomputable def Cr (K:PySem.W.Frag)(n:Nat)(t:TGs):TG:=fun v σ H Q=>∃ a xs,v=.ref a/\SqT K H a xs/\xs.length=n/\t xs σ H Q
theorem uG{es:List Expr}{k:Nat}{t:TGs}(hc:X.calm=true)(h:PGs X es t)(hn:(assignEach es X.env).length=n:=by rfl)(hst:(assignEach es X.env).findIdx? (·.1)=none:=by rfl):PG X (.Tuple es k pos) (Cr X.K n t):=by
 intro pins s σ H v u Q I r hw;obtain⟨a,xs,e1,hq,hl,hw⟩:=hw;subst e1;cases r
 obtain⟨its,rv,ht,hz⟩:=I.tuple hq;refine assign_Tuple_tuple (I.ok.hd hc) ht (by simp [hn,<-hl,rv.length]) hst fun h' hx=>?_
 have I1:Inv X pins σ H { s with heap:=h' }:=I.kept (t':=s.toks) fun b o e=>hx b o (DO (Dz e)) e
 exact h pins _ σ H xs _ Q I1 (by simpa using rv) hw
noncomputable def iC (te:TE)(g:TG):TS:=fun D σ H=>te σ H fun x H1=>g x σ H1 D.nx
theorem xr{te:TE}{g:TG}(he:PE X e te)(hg:PG X tg g)(hs:swapsWithSole [tg] e pos.line X.env=pure false:=by rfl)(hw:swappedStores [tg] e X.env=pure none:=by rfl)(h1:(assignEach [tg] X.env).map (·.2)=[assign tg X.env]:=by rfl):PS X (.Assign [tg] e pos) (iC te g):=by
 intro pins s σ H D I h;refine wpAny_Assign_stores (thn (he pins s σ H _ I h) fun v s1 ⟨x,H1,I1,r1,q1⟩=>?_) hs hw
 rw[h1];exact thn (hg pins s1 σ H1 x v _ I1 r1 q1) fun _ s2 q=>q
theorem yx{te:TE}(hN:X.N.Nodup)(hi:X.N[i]? =some x)(hx:Loc X.env.scope x)(he:PE X e te)(hs:swapsWith e (some (.Name x pos')) pos.line X.env=pure false:=by rfl)(hf:X.fn x=true\/X.env.scope.names.lookup x=some .local:=by first|exact .inl rfl|exact .inr rfl|assumption) :
  PS X (.Assign [.Name x pos'] e pos) (iC te (bR i)):=by
 intro pins s σ H D I h;refine wpAny_Assign_Name (thn (he pins s σ H _ I h) fun v s1 ⟨y,H1,I1,r1,q1⟩=>?_) hs
 exact o8 I1 hN hi hx r1 (fun s2 I2=>⟨_,H1,I2,q1⟩) hf
end
section
variable {X:Cx}{pos:Pos}
noncomputable def vz (c:TT)(tb:TS):TS:=fun D σ H=>∃ W:Nat->St->Hp->Prop,(∃ m,W m σ H)/\∀ m σ H,W m σ H →
 c σ H fun b H1=>if b=true then ∃ N:St->Hp->Prop,(∀ σ' H',N σ' H'->∃ m',m'<m/\W m' σ' H')/\tb { D with nx:=N,ct:=N,bk:=D.nx } σ H1 else D.nx σ H1
theorem BO{c:Expr}{tc:TT}{tb:TS}(hp:PassesOwn (model X.prog X.w) X.A X.env X.xe)(hc:PT X c tc)(hb:PSs X body tb):PS X (.While c body [] pos) (vz tc tb):=by
 intro pins s σ H D I h;obtain⟨W,⟨m0,w0⟩,turn⟩:=h;refine wpAny_While (codeAny_whileLoop (fun n s'=>∃ σ' H',Inv X pins σ' H' s'/\W n σ' H') ?_ m0 ⟨σ,H,I,w0⟩)
 rintro n s1 ⟨σ1,H1,I1,w1⟩;refine wpAny_passesOwn hp (thn (hc pins s1 σ1 H1 _ I1 (turn n σ1 H1 w1)) fun b s2 hZ=>?_)
 obtain⟨H2,I2,q2⟩:=hZ;cases b with
 | true=>
  obtain⟨N,hN,q2⟩:=q2;rw[if_pos rfl];refine wpAny_passesOwn hp (thn (hb pins s2 σ1 H2 _ I2 q2) fun f s3 q3=>?_)
  cases f with
  | next=>
   obtain⟨σ3,H3,I3,n3⟩:=q3;obtain⟨m',hm,w3⟩:=hN σ3 H3 n3;exact⟨m',hm,σ3,H3,I3,w3⟩
  | cont=>
   obtain⟨σ3,H3,I3,n3⟩:=q3;obtain⟨m',hm,w3⟩:=hN σ3 H3 n3;exact⟨m',hm,σ3,H3,I3,w3⟩
  | brk=>exact q3
  | ret v=>exact q3
 | false=>
  rw[if_neg DQ];exact wpAny_execs_nil ⟨σ1,H2,I2,q2⟩
end
structure It where
 go:Nat->Hp->Prop
 yld:Nat->Hp->V->Hp->Prop
 stop:Nat->Hp->Prop
noncomputable def dg (X:Cx)(pins:List (Addr×Obj))(H:Hp)(b:Addr):Prop:=
 H b=none/\b≠X.env.locals/\b∉X.fs/\(b∈X.ex\/X.s₀.heap.objs.size<=b)/\(∀ x c,X.env.cells.lookup x=some c->c≠b)/\∀ p∈X.pn++pins,p.1≠b
theorem Inv.eT{X:Cx}{σ:St}{H H':Hp}(I:Inv X pins σ H s)(hb:s.heap.objs.size<=b)(hn:H' b=none):dg X pins H' b:=by
 refine⟨hn,Fs (D6 I.lt hb),I.AY hb,.inr (Ea I.sz hb),fun x c e z=>?_,fun p hp z=>?_⟩
 ·obtain⟨v,q⟩:=I.cell x c e;exact absurd (D6 q.lt (by rw[z];exact hb)) (EG _)
 ·exact absurd (D6 (Dz (I.pin p hp).1) (by rw[z];exact hb)) (EG _)
structure Turn (P:Program)(w:World)(K:PySem.W.Frag)(tg:Expr)(J:It)(fp:List Addr)(it:Addr)(tn:Nat->Heap->Prop):Prop where
 mem:it∈fp
 obj:∀ i h,tn i h->∀ b∈fp,∃ o,h.get? b=some o/\∀ v,o.data≠.cell v
 keep:∀ i h h',tn i h->(∀ b∈fp,∀ o,h.get? b=some o->h'.get? b=some o)->tn i h'
 item:∀(X:Cx),X.prog=P->X.w=w->X.K=K->X.calm=true->∀(i:Nat) (pins:List (Addr×Obj)) (s:Shared) (σ:St) (H:Hp) (E:Value->Shared->Prop),Inv X pins σ H s->(∀ b∈fp,dg X pins H b)->tn i s.heap->J.go i H →
  wpAny (model P w) X.A (pyNext (.ref it)) (fun r s1=>∃ u,r=some u ∧
   wpAny (model P w) X.A (letOwnedTupleGo tg (.ref it) u) (fun _ s2=>∃ x H',Inv X pins σ H' s2/\RelV x u/\J.yld i H x H'/\tn (i+1) s2.heap/\∀ b∈fp,H' b=none) E s1) E s
 done:∀(X:Cx),X.prog=P->X.w=w->X.K=K->X.calm=true->∀(i:Nat) (pins:List (Addr×Obj)) (s:Shared) (σ:St) (H:Hp) (E:Value->Shared->Prop),Inv X pins σ H s->(∀ b∈fp,dg X pins H b)->tn i s.heap->J.stop i H →
  wpAny (model P w) X.A (pyNext (.ref it)) (fun r s1=>r=none/\Inv X pins σ H s1) E s
 self:∀(A:Around) (i:Nat) (s:Shared) (Q:Value->Shared->Prop) (E:Value->Shared->Prop),tn i s.heap->Q (.ref it) s->wpAny (model P w) A (pyIter (.ref it)) Q E s
noncomputable abbrev TI:=St->Hp->(It->Hp->Prop)->Prop
noncomputable def PIE (X:Cx)(pins:List (Addr×Obj))(σ:St)(tg:Expr)(R:It->Hp->Prop)(itv:Value)(s2:Shared):Prop:=
 ∃(it:Addr) (fp:List Addr) (tn:Nat->Heap->Prop) (J:It) (H':Hp),itv=.ref it/\Inv X pins σ H' s2/\Turn X.prog X.w X.K tg J fp it tn/\tn 0 s2.heap/\(∀ b∈fp,dg X pins H' b)/\R J H'
noncomputable def PI (X:Cx)(tg iter:Expr)(wi:TI):Prop:=
 ∀(pins:List (Addr×Obj)) (s:Shared) (σ:St) (H:Hp) (R:It->Hp->Prop),Inv X pins σ H s->wi σ H R →
  wpAny (model X.prog X.w) X.A (eval iter X.env) (fun v s1=>wpAny (model X.prog X.w) X.A (pyIter v) (PIE X pins σ tg R) X.xe s1) X.xe s
theorem iB{M:Model}{n:String}{vs:Array Value}{Q:Unit->Shared->Prop}(ho:s.heap.get? it=some o)(hc:o.cls=.type n)(hd:o.data=.fields vs)(hn:["enumerate","zip","dict_itemiterator","dict_reverseitemiterator","odict_iterator","itertools.zip_longest","itertools.pairwise"].contains n=false) (hQ:Q () s):wpAny M A (letOwnedTupleGo tg (.ref it) u) Q E s:=by
 unfold letOwnedTupleGo;cases tg <;> first
  | exact Df hQ
  | (cases u <;> first
    | exact Df hQ
    | (
      refine De (wpAny_load ho ?_);rw[hc,hd];show wpAny M A (if (["enumerate","zip","dict_itemiterator","dict_reverseitemiterator","odict_iterator","itertools.zip_longest","itertools.pairwise"].contains n&&vs[0]?==some (rawInt _))=true then _ else _) Q E s
      rw[if_neg (by intro h;rw[hn,Bool.false_and]at h;cases h)]
      exact Df hQ))
noncomputable def Itl (K:PySem.W.Frag)(a:Addr):It:=
 ⟨fun i H=>∃ xs x,SqL K H a xs/\xs[i]? =some x,fun i H x H'=>H'=H/\∀ xs,SqL K H a xs->xs[i]? =some x,fun i H=>∃ xs,SqL K H a xs/\xs.length<=i⟩
noncomputable def Itt (K:PySem.W.Frag)(a:Addr):It:=
 ⟨fun i H=>∃ xs x,SqT K H a xs/\xs[i]? =some x,fun i H x H'=>H'=H/\∀ xs,SqT K H a xs->xs[i]? =some x,fun i H=>∃ xs,SqT K H a xs/\xs.length<=i⟩
noncomputable def Itr (lo:Int)(n:Nat):It:=⟨fun i _=>i<n,fun i H x H'=>H'=H/\x=.int (lo+i),fun i _=>n<=i⟩
theorem yP{K:PySem.W.Frag}(a it:Addr):Turn P w K tg (Itl K a) [it] it (fun i h=>h.IsListIter it a i) where
 mem:=by simp
 obj:=fun i h st b hb=>by
  have e:b=it:=by simpa using hb
  subst e;obtain⟨o,e,c,d⟩:=st;exact⟨o,e,fun v z=>by rw[d]at z;cases z⟩
 keep:=fun i h h' st k=>st.at fun o e=>k it (by simp) o e
 item:=by
  intro X hP hw hK hc i pins s σ H E I hf st hg;subst hP hw hK;obtain⟨xs,x,hq,hx⟩:=hg;obtain⟨its,rv,p,hz⟩:=I.list hq;obtain⟨u,hu,ru⟩:=rv.get hx;obtain⟨f0,f1,f2,f3,f4,f5⟩:=hf it (by simp)
  refine wpAny_pyNext_list_item st p.isList (x:=u) (by simpa using hu) fun h' st' sb=>?_
  have I1:Inv X pins σ H { s with heap:=h' }:=I.turned (t':=s.toks) (fun b o hb e=>(sb.2 b hb).trans e) f0 f1 f3 f4 f5
  obtain⟨o,e,c,d⟩:=id st';exact⟨u,rfl,iB (s:={ s with heap:=h' }) e c d (by decide) ⟨x,H,I1,ru,⟨rfl,fun ys hy=>by rw[I.sP hy hq];exact hx⟩,st',fun b hb=>(hf b hb).1⟩⟩
 done:=by
  intro X hP hw hK hc i pins s σ H E I hf st hg;subst hP hw hK;obtain⟨xs,hq,hx⟩:=hg;obtain⟨its,rv,p,hz⟩:=I.list hq;obtain⟨f0,f1,f2,f3,f4,f5⟩:=hf it (by simp)
  have hl:=rv.length;exact wpAny_pyNext_list_end (I.ok.hd hc) st p.isList (by simp;lia) fun h' eb=>⟨rfl,I.turned (t':=s.toks) (fun b o hb e=>eb b o hb e) f0 f1 f3 f4 f5⟩
 self:=fun _ _ _ _ _ st h=>wpAny_pyIter_listiter st h
theorem vO{K:PySem.W.Frag}(a it:Addr):Turn P w K tg (Itt K a) [it] it (fun i h=>h.IsTupleIter it a i) where
 mem:=by simp
 obj:=fun i h st b hb=>by
  have e:b=it:=by simpa using hb
  subst e;obtain⟨o,e,c,d⟩:=st;exact⟨o,e,fun v z=>by rw[d]at z;cases z⟩
 keep:=fun i h h' st k=>st.at fun o e=>k it (by simp) o e
 item:=by
  intro X hP hw hK hc i pins s σ H E I hf st hg;subst hP hw hK;obtain⟨xs,x,hq,hx⟩:=hg;obtain⟨its,rv,p,hz⟩:=I.tuple hq;obtain⟨u,hu,ru⟩:=rv.get hx;obtain⟨f0,f1,f2,f3,f4,f5⟩:=hf it (by simp)
  refine wpAny_pyNext_tuple_item st (show s.heap.IsTuple a its.toArray from p) (x:=u) (by simpa using hu) fun h' st' sb=>?_
  have I1:Inv X pins σ H { s with heap:=h' }:=I.turned (t':=s.toks) (fun b o hb e=>(sb.2 b hb).trans e) f0 f1 f3 f4 f5
  obtain⟨o,e,c,d⟩:=id st';exact⟨u,rfl,iB (s:={ s with heap:=h' }) e c d (by decide) ⟨x,H,I1,ru,⟨rfl,fun ys hy=>by rw[I.oS hy hq];exact hx⟩,st',fun b hb=>(hf b hb).1⟩⟩
 done:=by
  intro X hP hw hK hc i pins s σ H E I hf st hg;subst hP hw hK;obtain⟨xs,hq,hx⟩:=hg;obtain⟨its,rv,p,hz⟩:=I.tuple hq;obtain⟨f0,f1,f2,f3,f4,f5⟩:=hf it (by simp)
  have hl:=rv.length;exact wpAny_pyNext_tuple_end (I.ok.hd hc) st (show s.heap.IsTuple a its.toArray from p) (by simp;lia) fun h' eb=>⟨rfl,I.turned (t':=s.toks) (fun b o hb e=>eb b o hb e) f0 f1 f3 f4 f5⟩
 self:=fun _ _ _ _ _ st h=>wpAny_pyIter_tupleiter st h
theorem vi{K:PySem.W.Frag}(it:Addr)(lo:Int)(n:Nat):Turn P w K tg (Itr lo n) [it] it (fun i h=>IsRangeIter h it (lo+(i:Nat)*1) ((n:Int)-(i:Nat)) 1) where
 mem:=by simp
 obj:=fun i h st b hb=>by
  have e:b=it:=by simpa using hb
  subst e;exact⟨_,st,fun v z=>by
   have z':Data.fields _=Data.cell v:=z;cases z'⟩
 keep:=fun i h h' st k=>k it (by simp) _ st
 item:=by
  intro X hP hw hK hc i pins s σ H E I hf st hg;subst hP hw hK;obtain⟨f0,f1,f2,f3,f4,f5⟩:=hf it (by simp)
  have W:=Walks.range (prog:=X.prog) (w:=X.w) (I.ok.hd hc) it lo 1 n;refine W.item i s _ _ hg st fun v h' tk hv st' kk=>?_
  obtain⟨t,rfl⟩:=hv;have I1:Inv X pins σ H { s with heap:=h',toks:=tk }:=I.turned (fun b o hb e=>kk b o (by simpa using hb) e) f0 f1 f3 f4 f5
  refine⟨_,rfl,iB (s:={ s with heap:=h',toks:=tk }) (n:="range_iterator") st' rfl rfl (by decide) ⟨.int (lo+i),H,I1,⟨t,?_⟩,⟨rfl,rfl⟩,st',fun b hb=>(hf b hb).1⟩⟩
  rw[Int.mul_one]
 done:=by
  intro X hP hw hK hc i pins s σ H E I hf st hg;subst hP hw hK;obtain⟨f0,f1,f2,f3,f4,f5⟩:=hf it (by simp)
  exact wpAny_pyNext_range_end (I.ok.hd hc) st (by have:n<=i:=hg;lia) fun h' eb=>⟨rfl,I.turned (t':=s.toks) (fun b o hb e=>eb b o hb e) f0 f1 f3 f4 f5⟩
 self:=fun _ _ _ _ _ st h=>wpAny_pyIter_rangeiter st h
section
variable {X:Cx}{tg:Expr}
noncomputable def BF (K:PySem.W.Frag)(tl:TE):TI:=fun σ H R=>tl σ H fun x H1=>∃ a,x=.ref a/\(∃ xs,SqL K H1 a xs)/\R (Itl K a) H1
noncomputable def xF (K:PySem.W.Frag)(tl:TE):TI:=fun σ H R=>tl σ H fun x H1=>∃ a,x=.ref a/\(∃ xs,SqT K H1 a xs)/\R (Itt K a) H1
theorem vG{l:Expr}{tl:TE}(hl:PE X l tl):PI X tg l (BF X.K tl):=by
 intro pins s σ H R I h;refine thn (hl pins s σ H _ I h) fun v s1 hZ=>?_
 obtain⟨x,H1,I1,r1,q1⟩:=hZ;obtain⟨a,e,⟨xs,hq⟩,q⟩:=q1;subst e;cases r1
 obtain⟨its,rv,p,hz⟩:=I1.list hq;refine wpAny_pyIter_list p.isList ?_;refine⟨s1.heap.objs.size,[s1.heap.objs.size],_,_,H1,rfl,I1.kept (t':=s1.toks) fun b o e=>Dh _ e,yP a _,⟨_,DE _ rfl,rfl,rfl⟩,fun b hb=>?_,q⟩
 have e:b=s1.heap.objs.size:=by simpa using hb
 subst e;exact I1.eT (Di _) (I1.hok.fresh (Di _))
theorem xE{l:Expr}{tl:TE}(hl:PE X l tl):PI X tg l (xF X.K tl):=by
 intro pins s σ H R I h;refine thn (hl pins s σ H _ I h) fun v s1 hZ=>?_
 obtain⟨x,H1,I1,r1,q1⟩:=hZ;obtain⟨a,e,⟨xs,hq⟩,q⟩:=q1;subst e;cases r1
 obtain⟨its,rv,p,hz⟩:=I1.tuple hq;refine wpAny_pyIter_tuple (show s1.heap.IsTuple a its.toArray from p) ?_
 refine⟨s1.heap.objs.size,[s1.heap.objs.size],_,_,H1,rfl,I1.kept (t':=s1.toks) fun b o e=>Dh _ e,vO a _,⟨_,DE _ rfl,rfl,rfl⟩,fun b hb=>?_,q⟩
 have e:b=s1.heap.objs.size:=by simpa using hb
 subst e;exact I1.eT (Di _) (I1.hok.fresh (Di _))
theorem B8{σ:St}{H:Hp}{R:It->Hp->Prop}{lo hi:Int}{t u v:Tok}{tk:Nat}(I:Inv X pins σ H s)(h1:-(2^62)<=lo)(h2:lo<2^62)(h3:-(2^62)<=hi)(h4:hi<2^62)(q:R (Itr lo (hi-lo).toNat) H):wpAny (model X.prog X.w) X.A (pyIter (.ref s.heap.objs.size)) (PIE X pins σ tg R) E { s with heap:=s.heap.push { cls:=.type "range",data:=.fields #[.int lo t,.int hi u,.int 1 v] },toks:=tk }:=by
 refine wpAny_pyIter_range (IsRange.new ..) (small_one h1 h2 h3 h4) ?_;have I1:Inv X pins σ H { s with heap:=s.heap.push { cls:=.type "range",data:=.fields #[.int lo t,.int hi u,.int 1 v] },toks:=tk }:=I.kept fun b o e=>Dh _ e
 refine⟨(s.heap.push { cls:=.type "range",data:=.fields #[.int lo t,.int hi u,.int 1 v] }).objs.size,[(s.heap.push { cls:=.type "range",data:=.fields #[.int lo t,.int hi u,.int 1 v] }).objs.size],_,_,H,rfl,
  I1.kept (t':=tk) fun b o e=>Dh _ e,vi _ lo (hi-lo).toNat,?_,fun b hb=>?_,q⟩
 ·have e1:lo+((0:Nat):Int)*1=lo:=by simp
  have e2:(((hi-lo).toNat:Nat):Int)-((0:Nat):Int)=Builtin.Range.rangeSize lo hi 1:=by rw[rangeSize_one];split <;> lia
  show IsRangeIter _ _ (lo+((0:Nat):Int)*1) ((((hi-lo).toNat:Nat):Int)-((0:Nat):Int)) 1
  rw[e1,e2];exact DE _ rfl
 ·have e:b=(s.heap.push { cls:=.type "range",data:=.fields #[.int lo t,.int hi u,.int 1 v] }).objs.size:=by simpa using hb
  subst e;exact I1.eT (Di _) (I1.hok.fresh (Di _))
noncomputable def vx (ta:TA):TI:=fun σ H R=>ta σ H fun vs H1=>∃ j:Int,vs=[.int j]/\-(2^62)<=j/\j<2^62/\R (Itr 0 j.toNat) H1
theorem yY{a:Expr}{ta:TA}{p:Pos}(hg:Gl X "range") (hm:X.mg "range" = none) (ha:PA X [a] ta) (hs:starEach [a] X.env=[(false,eval a X.env)]:=by rfl):PI X tg (.Call (.Name "range" p) [a] [] pos) (vx ta):=by
 intro pins s σ H R I h;refine Call_ (fb I hg hm boot_range (PyProof.Rows.callWith_type1 (thn (ha pos pins s σ H _ I h) fun us s1 ⟨vs,H1,I1,r1,q1⟩=>?_) hs rfl))
 obtain⟨j,e,q1,q2,q⟩:=q1;subst e;cases r1 with
 | cons r rr=>
  cases rr
  obtain⟨t,rfl⟩:=r;exact call_range_1 (B8 I1 (by lia) (by lia) q1 q2 (by simpa using q))
noncomputable def wF (wi:TI)(g:TG)(tb:TS):TS:=fun D σ H=>wi σ H fun J H1=>∃ W:Nat->Nat->St->Hp->Prop,(∃ m,W 0 m σ H1)/\∀ i m σ H,W i m σ H →
 (J.stop i H/\D.nx σ H)\/(J.go i H/\∃ N:St->Hp->Prop,(∀ σ' H',N σ' H'->∃ m',m'<m/\W (i+1) m' σ' H')/\∀ x H',J.yld i H x H'->g x σ H' fun σ2 H2=>tb { D with nx:=N,ct:=N,bk:=D.nx } σ2 H2)
noncomputable def iA (fp:List Addr)(h:Heap):List (Addr×Obj):=fp.filterMap fun b=>(h.get? b).map fun o=>(b,o)
theorem iR{fp:List Addr}(hb:b∈fp)(e:h.get? b=some o):(b,o)∈iA fp h:=List.mem_filterMap.mpr ⟨b,hb,by rw[e];rfl⟩
theorem xv{fp:List Addr}{p:Addr×Obj}(hp:p∈iA fp h):p.1∈fp/\h.get? p.1=some p.2:=by
 obtain⟨b,hb,e⟩:=List.mem_filterMap.mp hp;cases q:h.get? b with
 | none=>rw[q]at e;cases e
 | some o=>
  rw[q]at e;have e':(b,o)=p:=DL e;subst e';exact⟨hb,q⟩
theorem Inv.pinned{σ:St}{H:Hp}{fp:List Addr}(I:Inv X pins σ H s)(hf:∀ b∈fp,dg X pins H b)(ho:∀ b∈fp,∃ o,s.heap.get? b=some o/\∀ v,o.data≠.cell v):Inv X (pins++iA fp s.heap) σ H s:=
 I.ua fun p hp=>(Dp.mp hp).elim (fun z=>I.pin p (Ek _ z)) fun z=>by
  obtain⟨hb,e⟩:=xv z;obtain⟨f0,f1,f2,_⟩:=hf p.1 hb;obtain⟨o,e',d⟩:=ho p.1 hb;rw[e]at e';cases e'
  exact⟨e,f0,f1,f2,d⟩
theorem Inv.i6{pl:List (Addr×Obj)}{σ:St}{H:Hp}(I:Inv X (pins++pl) σ H s):Inv X pins σ H s:=I.ua fun p hp=>I.pin p (Ek _ (Ft _ hp))
theorem A6{wi:TI}{g:TG}{tb:TS}(hp:PassesOwn (model X.prog X.w) X.A X.env X.xe)(hc:X.calm=true)(hi:PI X tg iter wi)(hg:PG X tg g)(hb:PSs X body tb)(hs:∀ x,foldedSetIterable iter X.env x=pure x:=by intro _;rfl):PS X (.For tg iter body [] pos) (wF wi g tb):=by
 intro pins s σ H D I h;refine wpAny_For (thn (hi pins s σ H _ I h) fun v s1 h1=>thn h1 fun itv s2 h2=>?_) hs
 obtain⟨it,fp,tn,J,H2,e,I2,T,st2,f2,W,⟨m0,w0⟩,turn⟩:=h2;subst e;have stat:∀{H':Hp},(∀ b∈fp,H' b=none)->∀ b∈fp,dg X pins H' b:=fun hn b hb=>⟨hn b hb,(f2 b hb).2⟩
 refine codeAny_forLoop_any (fun n s'=>∃ i σ' H',Inv X pins σ' H' s'/\tn i s'.heap/\(∀ b∈fp,H' b=none)/\W i n σ' H') ?_ m0 ⟨0,σ,H2,I2,st2,fun b hb=>(f2 b hb).1,w0⟩
 rintro n s3 ⟨i,σ3,H3,I3,st3,fr3,w3⟩;rcases turn i n σ3 H3 w3 with⟨stop,qn⟩|⟨go,N,hN,step⟩
 ·refine wpAny_passesOwn hp (thn (T.done X rfl rfl rfl hc i pins s3 σ3 H3 X.xe I3 (stat fr3) st3 stop) fun r s4 hZ=>?_)
  obtain⟨hr,I4⟩:=hZ;subst hr;exact wpAny_execs_nil ⟨σ3,H3,I4,qn⟩
 ·refine wpAny_passesOwn hp (thn (T.item X rfl rfl rfl hc i pins s3 σ3 H3 X.xe I3 (stat fr3) st3 go) fun r s4 hZ=>?_)
  obtain⟨u,hr,h4⟩:=hZ;subst hr;refine wpAny_passesOwn hp (thn h4 fun _ s5 hZ=>?_)
  obtain⟨x,H5,I5,r5,y5,st5,fr5⟩:=hZ;have I5':=I5.pinned (stat fr5) (T.obj _ _ st5);refine wpAny_passesOwn hp (thn (hg _ s5 σ3 H5 x u _ I5' r5 (step x H5 y5)) fun _ s6 hZ=>?_)
  obtain⟨σ6,H6,I6,q6⟩:=hZ;refine wpAny_passesOwn hp (thn (hb _ s6 σ6 H6 _ I6 q6) fun f s7 q7=>?_)
  have again:∀{σ7:St} {H7:Hp},Inv X (pins++iA fp s5.heap) σ7 H7 s7->N σ7 H7->∃ m,m<n/\∃ i σ' H',Inv X pins σ' H' s7/\tn i s7.heap/\(∀ b∈fp,H' b=none)/\W i m σ' H':=fun {σ7 H7} I7 n7=>by
   obtain⟨m',hm,w7⟩:=hN σ7 H7 n7;refine⟨m',hm,i+1,σ7,H7,I7.i6,T.keep _ _ _ st5 fun b hb o e=>(I7.pin (b,o) (Ek _ (Ek _ (iR hb e)))).1,fun b hb=>?_,w7⟩
   obtain⟨o,e,d⟩:=T.obj _ _ st5 b hb
   exact(I7.pin (b,o) (Ek _ (Ek _ (iR hb e)))).2.1
  cases f with
  | next=>obtain⟨σ7,H7,I7,n7⟩:=q7;exact again I7 n7
  | cont=>obtain⟨σ7,H7,I7,n7⟩:=q7;exact again I7 n7
  | brk=>obtain⟨σ7,H7,I7,q7⟩:=q7;exact⟨σ7,H7,I7.i6,q7⟩
  | ret v=>obtain⟨x7,σ7,H7,I7,r7,q7⟩:=q7;exact⟨x7,σ7,H7,I7.i6,r7,q7⟩
end
theorem Co{K:PySem.W.Frag}{xs:List V}{g:TG}{tb:TS}{D:Ends}{σ:St}{H:Hp}(Pv:Nat->St->Hp->Prop)(h0:Pv 0 σ H)(hl:∀ i σ H,i<=xs.length->Pv i σ H->SqL K H a xs)(hs:∀ i x σ H,xs[i]? =some x->Pv i σ H->g x σ H fun σ2 H2=>tb { D with nx:=Pv (i+1),ct:=Pv (i+1),bk:=D.nx } σ2 H2)(hd:∀ σ H,Pv xs.length σ H->D.nx σ H) :
  ∃ W:Nat->Nat->St->Hp->Prop,(∃ m,W 0 m σ H)/\∀ i m σ H,W i m σ H →
   ((Itl K a).stop i H/\D.nx σ H)\/((Itl K a).go i H/\∃ N:St->Hp->Prop,(∀ σ' H',N σ' H'->∃ m',m'<m/\W (i+1) m' σ' H')/\∀ x H',(Itl K a).yld i H x H'->g x σ H' fun σ2 H2=>tb { D with nx:=N,ct:=N,bk:=D.nx } σ2 H2):=by
 refine⟨fun i m σ H=>m=xs.length-i/\i<=xs.length/\Pv i σ H,⟨xs.length,by simp,DZ _,h0⟩,?_⟩
 rintro i m σ H ⟨rfl,hi,p⟩;have q:=hl i σ H hi p
 by_cases hlt:i<xs.length
 ·refine .inr ⟨⟨xs,xs[i],q,by simp [hlt]⟩,Pv (i+1),fun σ' H' p'=>⟨xs.length-(i+1),by lia,rfl,hlt,p'⟩,fun x H' y=>?_⟩
  obtain⟨e,y⟩:=y;subst e;exact hs i x σ _ (y xs q) p
 ·have e:i=xs.length:=by lia
  subst e;exact .inl ⟨⟨xs,q,Di _⟩,hd σ H p⟩
theorem xt{lo:Int}{g:TG}{tb:TS}{D:Ends}{σ:St}{H:Hp}(Pv:Nat->St->Hp->Prop)(h0:Pv 0 σ H)(hs:∀ i σ H,i<n->Pv i σ H->g (.int (lo+i)) σ H fun σ2 H2=>tb { D with nx:=Pv (i+1),ct:=Pv (i+1),bk:=D.nx } σ2 H2)(hd:∀ σ H,Pv n σ H->D.nx σ H) :
  ∃ W:Nat->Nat->St->Hp->Prop,(∃ m,W 0 m σ H)/\∀ i m σ H,W i m σ H →
   ((Itr lo n).stop i H/\D.nx σ H)\/((Itr lo n).go i H/\∃ N:St->Hp->Prop,(∀ σ' H',N σ' H'->∃ m',m'<m/\W (i+1) m' σ' H')/\∀ x H',(Itr lo n).yld i H x H'->g x σ H' fun σ2 H2=>tb { D with nx:=N,ct:=N,bk:=D.nx } σ2 H2):=by
 refine⟨fun i m σ H=>m=n-i/\i<=n/\Pv i σ H,⟨n,by simp,DZ _,h0⟩,?_⟩
 rintro i m σ H ⟨rfl,hi,p⟩
 by_cases hlt:i<n
 ·refine .inr ⟨hlt,Pv (i+1),fun σ' H' p'=>⟨n-(i+1),by lia,rfl,hlt,p'⟩,fun x H' y=>?_⟩
  obtain⟨e,y⟩:=y;subst e y;exact hs i σ _ hlt p
 ·have e:i=n:=by lia
  subst e;exact .inl ⟨Di _,hd σ H p⟩
noncomputable abbrev R2:=V->V->Hp->VK->Prop
noncomputable def OpR (X:Cx)(f:Value->Value->Sem Value)(r:R2):Prop:=
 ∀(pins:List (Addr×Obj)) (s:Shared) (σ:St) (H:Hp) (x y:V) (v u:Value) (Q:VK),Inv X pins σ H s->RelV x v->RelV y u->r x y H Q →
  wpAny (model X.prog X.w) X.A (f v u) (EP X pins σ Q) X.xe s
noncomputable def aD (X:Cx)(f:Value)(r:List V->Hp->VK->Prop):Prop:=
 ∀(pins:List (Addr×Obj)) (s:Shared) (σ:St) (H:Hp) (xs:List V) (us:List Value) (Q:VK),Inv X pins σ H s->Vals xs us->r xs H Q →
  wpAny (model X.prog X.w) X.A (call f us) (EP X pins σ Q) X.xe s
noncomputable def zR (X:Cx)(r:V->Hp->(Bool->Hp->Prop)->Prop):Prop:=
 ∀(pins:List (Addr×Obj)) (s:Shared) (σ:St) (H:Hp) (x:V) (v:Value) (Q:Bool->Hp->Prop),Inv X pins σ H s->RelV x v->r x H Q →
  wpAny (model X.prog X.w) X.A (truthy v) (TP X pins σ Q) X.xe s
noncomputable def tOp (r:R2)(ta tb:TE):TE:=fun σ H Q=>ta σ H fun x H1=>tb σ H1 fun y H2=>r x y H2 Q
noncomputable def rI (C:Int->Int->Prop)(g:Int->Int->V):R2:=fun x y H Q=>∃ i j,x=.int i/\y=.int j/\C i j/\Q (g i j) H
noncomputable def rI0 (g:Int->Int->V):R2:=fun x y H Q=>∃ i j,x=.int i/\y=.int j/\Q (g i j) H
section
variable {X:Cx}{a b c:Expr}{ta tb tc:TE}{pos:Pos}
theorem kS(ha:PE X a ta)(hb:PE X b tb){σ:St}{H:Hp}{R:V->V->Hp->Prop}(I:Inv X pins σ H s)(h:ta σ H fun x H1=>tb σ H1 fun y H2=>R x y H2){f:Value->Value->Sem Value}(hf:∀ v u s2 x y H2,Inv X pins σ H2 s2->RelV x v->RelV y u->R x y H2->wpAny (model X.prog X.w) X.A (f v u) Q X.xe s2) :
  wpAny (model X.prog X.w) X.A (eval a X.env) (fun v s₁=>wpAny (model X.prog X.w) X.A (eval b X.env) (fun u s₂=>wpAny (model X.prog X.w) X.A (f v u) Q X.xe s₂) X.xe s₁) X.xe s:=by
 refine thn (ha pins s σ H _ I h) fun v s1 hZ=>?_
 obtain⟨x,H1,I1,r1,q1⟩:=hZ;refine thn (hb pins s1 σ H1 _ I1 q1) fun u s2 hZ=>?_
 obtain⟨y,H2,I2,r2,q2⟩:=hZ;exact hf v u s2 x y H2 I2 r1 r2 q2
theorem ag{op:Operator}{r:R2}(ho:OpR X (binaryOp op) r)(ha:PE X a ta)(hb:PE X b tb):PE X (.BinOp a op b pos) (tOp r ta tb):=by
 intro pins s σ H Q I h;exact wpAny_BinOp (kS ha hb I h fun v u s2 x y H2 I2 rx ry q=>ho pins s2 σ H2 x y v u Q I2 rx ry q)
theorem opI{f:Value->Value->Sem Value}{C:Int->Int->Prop}{g:Int->Int->Int}(rule:∀(i j:Int)(t u:Tok)(s:Shared)(Q:Value->Shared->Prop)(E:Value->Shared->Prop),C i j->Q (.int (g i j) s.toks) { s with toks:=s.toks+1 }->wpAny (model X.prog X.w) X.A (f (.int i t) (.int j u)) Q E s) :
  OpR X f (rI C fun i j=>.int (g i j)):=by
 intro pins s σ H x y v u Q I rx ry h;obtain⟨i,j,rfl,rfl,hc,q⟩:=h;obtain⟨t,rfl⟩:=rx;obtain⟨t',rfl⟩:=ry;exact rule i j t t' s _ _ hc ⟨.int (g i j),H,I.tok _,⟨_,rfl⟩,q⟩
theorem B4{f:Value->Value->Sem Value}{g:Int->Int->Int}(rule:∀(i j:Int)(t u:Tok)(s:Shared)(Q:Value->Shared->Prop)(E:Value->Shared->Prop),Q (.int (g i j) s.toks) { s with toks:=s.toks+1 }->wpAny (model X.prog X.w) X.A (f (.int i t) (.int j u)) Q E s) :
  OpR X f (rI0 fun i j=>.int (g i j)):=by
 intro pins s σ H x y v u Q I rx ry h;obtain⟨i,j,rfl,rfl,q⟩:=h;obtain⟨t,rfl⟩:=rx;obtain⟨t',rfl⟩:=ry;exact rule i j t t' s _ _ ⟨.int (g i j),H,I.tok _,⟨_,rfl⟩,q⟩
theorem lB{f:Value->Value->Sem Value}{g:Int->Int->Bool}(rule:∀(i j:Int)(t u:Tok)(s:Shared)(Q:Value->Shared->Prop)(E:Value->Shared->Prop),Q (.bool (g i j)) s->wpAny (model X.prog X.w) X.A (f (.int i t) (.int j u)) Q E s) :
  OpR X f (rI0 fun i j=>.bl (g i j)):=by
 intro pins s σ H x y v u Q I rx ry h;obtain⟨i,j,rfl,rfl,q⟩:=h;obtain⟨t,rfl⟩:=rx;obtain⟨t',rfl⟩:=ry;exact rule i j t t' s _ _ ⟨.bl (g i j),H,I,rfl,q⟩
noncomputable def rq (i j:Int):Prop:=0<j/\j<1073741824
noncomputable def ke (i j:Int):Prop:=0<=j/\j<=1000000/\i.natAbs<2^64
noncomputable def jQ (i j:Int):Prop:=(-(2^64)<i/\i<2^64)\/(-(2^64)<j/\j<2^64)
theorem jQ.ok{i j:Int}(h:jQ i j):IntMulOk i j:=by
 rcases h with⟨h1,h2⟩|⟨h1,h2⟩
 ·exact .of_left (intBits_le_64 h1 h2)
 ·exact .of_right (intBits_le_64 h1 h2)
theorem Aa:OpR X (binaryOp .Add) (rI0 fun i j=>.int (i+j)):=B4 fun _ _ _ _ _ _ _ q=>add_int q
theorem Cd:OpR X (binaryOp .Mult) (rI jQ fun i j=>.int (i*j)):=opI fun _ _ _ _ _ _ _ hc q=>mul_int q hc.ok
theorem Cu:OpR X (binaryOp .FloorDiv) (rI rq fun i j=>.int (i / j)):=opI fun i j _ _ _ _ _ hc q=>by
 have h1:(0:Int)<j:=hc.1;have h2:j<1073741824:=hc.2;exact floordiv_int (by lia) (by rw[Int.fdiv_eq_ediv_of_nonneg i (by lia)];exact q) (.inl (PyProof.noPylong_small (by lia)))
theorem vw:OpR X (binaryOp .Mod) (rI (fun _ j=>0<j) fun i j=>.int (i%j)):=opI fun i j _ _ _ _ _ hc q=>by
 have h1:(0:Int)<j:=hc;exact mod_int' (by lia) (by rw[Int.fmod_eq_emod_of_nonneg i (by lia)];exact q)
theorem BA:OpR X (binaryOp .LShift) (rI ke fun i j=>.int (i*2^j.toNat)):=opI fun _ _ _ _ _ _ _ hc q=>lshift_int_small hc.1 hc.2.1 hc.2.2 q
end
noncomputable def tN:V->V->Bool
 | .non,.non=>true | .non,.int _=>true | .int _,.non=>true | .non,.bl _=>true | .bl _,.non=>true | .non,.str _=>true | .str _,.non=>true
 | .int _,.int _=>true | .bl _,.bl _=>true | .str _,.str _=>true | .byt _,.byt _=>true
 | .int _,.str _=>true | .str _,.int _=>true | .bl _,.str _=>true | .str _,.bl _=>true
 | _,_=>false
noncomputable def rEq:R2:=fun x y H Q=>tN x y=true/\Q (.bl (decide (x=y))) H
noncomputable def rNe:R2:=fun x y H Q=>tN x y=true/\Q (.bl (!decide (x=y))) H
theorem pU{i j:Int}:decide (V.int i=V.int j)=(i==j):=by
 rw[Ej]
 simp
theorem qq{i j:Bool}:decide (V.bl i=V.bl j)=(i==j):=by
 rw[Ej]
 simp
theorem tE{i j:Str}:decide (V.str i=V.str j)=(i==j):=by
 rw[Ej]
 simp
theorem oh{i j:Array UInt8}:decide (V.byt i=V.byt j)=(i.toList==j.toList):=by
 rw[Ej];cases i
 cases j
 simp
section
variable {X:Cx}{a b c:Expr}{ta tb tc:TE}{pos:Pos}
theorem aK{σ:St}{H:Hp}{Q:VK}{k k':Bool}(I:Inv X pins σ H s)(q:Q (.bl k) H)(e:k=k'):EP X pins σ Q (.bool k') s:=by
 subst e;exact⟨.bl k,H,I,rfl,q⟩
theorem yD:OpR X (compareOp .Eq) rEq:=by
 intro pins s σ H x y v u Q I rx ry h;obtain⟨hs,q⟩:=h;cases x with
 | non=>
  cases rx
  cases y with
  | non=>cases ry;exact PySem.EqNone.eq_none_none (aK I q (by simp))
  | bl j=>cases ry;exact PySem.EqNone.eq_none_bool (aK I q (by simp))
  | int j=>obtain⟨t',rfl⟩:=ry;exact PySem.EqNone.eq_none_int (aK I q (by simp))
  | str j=>obtain⟨t',rfl⟩:=ry;exact PySem.EqNone.eq_none_str (aK I q (by simp))
  | _=>exact absurd (show false=true from hs) DQ
 | bl i=>
  cases rx
  cases y with
  | non=>cases ry;exact PySem.EqNone.eq_bool_none (aK I q (by simp))
  | bl j=>cases ry;exact eq_bool (aK I q qq)
  | str j=>obtain⟨t',rfl⟩:=ry;exact PySem.EqMixed.eq_bool_str (aK I q (by simp))
  | _=>exact absurd (show false=true from hs) DQ
 | int i=>
  obtain⟨t,rfl⟩:=rx;cases y with
  | non=>cases ry;exact PySem.EqNone.eq_int_none (aK I q (by simp))
  | int j=>obtain⟨t',rfl⟩:=ry;exact eq_int (aK I q pU)
  | str j=>obtain⟨t',rfl⟩:=ry;exact PySem.EqMixed.eq_int_str (aK I q (by simp))
  | _=>exact absurd (show false=true from hs) DQ
 | str i=>
  obtain⟨t,rfl⟩:=rx;cases y with
  | non=>cases ry;exact PySem.EqNone.eq_str_none (aK I q (by simp))
  | bl j=>cases ry;exact PySem.EqMixed.eq_str_bool (aK I q (by simp))
  | int j=>obtain⟨t',rfl⟩:=ry;exact PySem.EqMixed.eq_str_int (aK I q (by simp))
  | str j=>obtain⟨t',rfl⟩:=ry;exact eq_str (aK I q tE)
  | _=>exact absurd (show false=true from hs) DQ
 | byt i=>
  obtain⟨t,rfl⟩:=rx;cases y with
  | byt j=>obtain⟨t',rfl⟩:=ry;exact PySem.W.eq_bytes (aK I q oh)
  | _=>exact absurd (show false=true from hs) DQ
 | _=>cases y <;> exact absurd (show false=true from hs) DQ
theorem xa:OpR X (compareOp .NotEq) rNe:=by
 intro pins s σ H x y v u Q I rx ry h;obtain⟨hs,q⟩:=h;cases x with
 | non=>
  cases rx
  cases y with
  | non=>cases ry;exact PySem.EqNone.ne_none_none (aK I q (by simp))
  | bl j=>cases ry;exact PySem.EqNone.ne_none_bool (aK I q (by simp))
  | int j=>obtain⟨t',rfl⟩:=ry;exact PySem.EqNone.ne_none_int (aK I q (by simp))
  | str j=>obtain⟨t',rfl⟩:=ry;exact PySem.EqNone.ne_none_str (aK I q (by simp))
  | _=>exact absurd (show false=true from hs) DQ
 | bl i=>
  cases rx
  cases y with
  | non=>cases ry;exact PySem.EqNone.ne_bool_none (aK I q (by simp))
  | bl j=>cases ry;exact ne_bool (aK I q (congrArg not qq))
  | str j=>obtain⟨t',rfl⟩:=ry;exact PySem.EqMixed.ne_bool_str (aK I q (by simp))
  | _=>exact absurd (show false=true from hs) DQ
 | int i=>
  obtain⟨t,rfl⟩:=rx;cases y with
  | non=>cases ry;exact PySem.EqNone.ne_int_none (aK I q (by simp))
  | int j=>obtain⟨t',rfl⟩:=ry;exact ne_int (aK I q (congrArg not pU))
  | str j=>obtain⟨t',rfl⟩:=ry;exact PySem.EqMixed.ne_int_str (aK I q (by simp))
  | _=>exact absurd (show false=true from hs) DQ
 | str i=>
  obtain⟨t,rfl⟩:=rx;cases y with
  | non=>cases ry;exact PySem.EqNone.ne_str_none (aK I q (by simp))
  | bl j=>cases ry;exact PySem.EqMixed.ne_str_bool (aK I q (by simp))
  | int j=>obtain⟨t',rfl⟩:=ry;exact PySem.EqMixed.ne_str_int (aK I q (by simp))
  | str j=>obtain⟨t',rfl⟩:=ry;exact ne_str (aK I q (congrArg not tE))
  | _=>exact absurd (show false=true from hs) DQ
 | byt i=>
  obtain⟨t,rfl⟩:=rx;cases y with
  | byt j=>obtain⟨t',rfl⟩:=ry;exact PySem.W.ne_bytes (aK I q (congrArg not oh))
  | _=>exact absurd (show false=true from hs) DQ
 | _=>cases y <;> exact absurd (show false=true from hs) DQ
theorem wM:OpR X (compareOp .Lt) (rI0 fun i j=>.bl (decide (i<j))):=lB fun _ _ _ _ _ _ _ q=>lt_int q
theorem uy:OpR X (compareOp .LtE) (rI0 fun i j=>.bl (decide (i<=j))):=lB fun _ _ _ _ _ _ _ q=>le_int q
theorem BS:OpR X (compareOp .Gt) (rI0 fun i j=>.bl (decide (j<i))):=lB fun _ _ _ _ _ _ _ q=>gt_int q
theorem vn:OpR X (compareOp .In) (fun x y H Q=>∃ i j,x=.str i/\y=.str j/\Q (.bl (!(Builtin.Str.occurrences j i 0 j.length 1).isEmpty)) H):=by
 intro pins s σ H x y v u Q I rx ry h;obtain⟨i,j,rfl,rfl,q⟩:=h;obtain⟨t,rfl⟩:=rx;obtain⟨t',rfl⟩:=ry;exact in_str (aK I q rfl)
theorem A3:OpR X (compareOp .Is) (fun x y H Q=>y=.non/\Q (.bl (decide (x=.non))) H):=by
 intro pins s σ H x y v u Q I rx ry h;obtain⟨rfl,q⟩:=h;cases ry
 refine is_none_gen (aK I q ?_);cases x <;> first
  | (cases rx;rfl)
  | (obtain⟨t,rfl⟩:=rx;rfl)
theorem wa:OpR X (compareOp .IsNot) (fun x y H Q=>y=.non/\Q (.bl (!decide (x=.non))) H):=by
 intro pins s σ H x y v u Q I rx ry h;obtain⟨rfl,q⟩:=h;cases ry
 refine isnot_none_gen (aK I q ?_);cases x <;> first
  | (cases rx;rfl)
  | (obtain⟨t,rfl⟩:=rx;rfl)
theorem Bo{op:CmpOp}{r:R2}(ho:OpR X (compareOp op) r)(ha:PE X a ta)(hb:PE X b tb)(hm:behindInMarks op b=false):PE X (.Compare a [op] [b] pos) (tOp r ta tb):=by
 intro pins s σ H Q I h;exact wpAny_Compare1 (kS ha hb I h fun v u s2 x y H2 I2 rx ry q=>ho pins s2 σ H2 x y v u Q I2 rx ry q) hm
noncomputable def Bj (K:PySem.W.Frag)(x:V)(H:Hp)(k:Bool):Prop:=
 match x with
 | .non=>k=false
 | .bl b=>k=b
 | .int i=>k=(i !=0)
 | .str y=>y.length<=sizeLine/\k=((y.length:Int) !=0)
 | .byt y=>y.size<=sizeLine/\k=((y.size:Int) !=0)
 | .ref p=>(∃ xs,SqL K H p xs/\k = !xs.isEmpty)\/(∃ xs,SqT K H p xs/\k = !xs.isEmpty)\/∃ kvs,H p=some (.dK kvs)/\k = !kvs.isEmpty
 | _=>False
theorem CS{κ:Type}{kvs:List (κ×V)}{vs:List (κ×Value)}(r:KV kvs vs):(!vs.isEmpty) = !kvs.isEmpty:=by
 cases r <;> rfl
theorem qI{xs:List V}(r:Vals xs its):(!its.toArray.isEmpty) = !xs.isEmpty:=by
 cases r <;> simp
theorem fN:(sizeLine:Nat)<2^63:=by rw[DV];decide
theorem qc:zR X (fun x H Q=>∃ k,Bj X.K x H k/\Q k H):=by
 intro pins s σ H x v Q I rx h;obtain⟨k,e,q⟩:=h;have hl:=fN;have hs:sizeLine=16777216:=DV;cases x with
 | non=>
  cases rx
  have e':k=false:=e;subst e';exact truthy_none ⟨H,I,q⟩
 | bl b=>
  cases rx
  have e':k=b:=e;subst e';exact ER ⟨H,I,q⟩
 | int i=>
  obtain⟨t,rfl⟩:=rx;have e':k=(i !=0):=e;subst e';exact PySem.P.truthy_int ⟨H,I,q⟩
 | str y=>
  obtain⟨t,rfl⟩:=rx;obtain⟨hy,e'⟩:y.length<=sizeLine/\k=((y.length:Int) !=0):=e;subst e';exact PySem.P.truthy_str (by lia) ⟨H,I.tok _,q⟩
 | byt y=>
  obtain⟨t,rfl⟩:=rx;obtain⟨hy,e'⟩:y.size<=sizeLine/\k=((y.size:Int) !=0):=e;subst e';exact PySem.W.truthy_bytes (by lia) ⟨H,I.tok _,q⟩
 | ref p=>
  cases rx
  have e':(∃ xs,SqL X.K H p xs/\k = !xs.isEmpty)\/(∃ xs,SqT X.K H p xs/\k = !xs.isEmpty)\/∃ kvs,H p=some (.dK kvs)/\k = !kvs.isEmpty:=e;rcases e' with⟨xs,hx,e'⟩|⟨xs,hx,e'⟩|⟨kvs,hx,e'⟩
  ·subst e';obtain⟨its,r,pl,hz⟩:=I.list hx;have hlen:=r.length;exact wpAny_truthy_list pl.isList (by simp only[D8];lia) ⟨H,I.tok _,by rw[qI r];exact q⟩
  ·subst e';obtain⟨its,r,pl,hz⟩:=I.tuple hx;have hlen:=r.length;exact truthy_tuple pl (by simp only[D8];lia) ⟨H,I.tok _,by rw[qI r];exact q⟩
  ·subst e';obtain⟨hz,hS,vs,r,m⟩:kvs.length<=sizeLine/\(p==sysModules)=false/\∃ vs,KV kvs vs/\s.heap.DictOf (au X.prog X.w) p vs:=I.hok p _ hx;have hlen:kvs.length=vs.length:=Paired.length r;exact wpAny_truthy_dict hS m (by lia) ⟨H,I.tok _,by rw[CS r];exact q⟩
 | _=>exact(show False from e).elim
theorem Cp:OpR X (binaryOp .Add) (fun x y H Q=>∃ i j,x=.str i/\y=.str j/\i.length+j.length<=sizeLine/\Q (.str (i++j)) H):=by
 intro pins s σ H x y v u Q I rx ry h;obtain⟨i,j,rfl,rfl,hz,q⟩:=h;obtain⟨t,rfl⟩:=rx;obtain⟨t',rfl⟩:=ry;exact add_str (fun t' tk=>⟨.str (i++j),H,I.tok _,⟨_,rfl⟩,q⟩) hz
theorem vals1{x:V}(r:Vals [x] us):∃ u,us=[u]/\RelV x u:=by
 cases r with
 | cons r1 r2=>cases r2;exact⟨_,rfl,r1⟩
theorem uE:aD X (.type "int") (fun xs H Q=>(∃ i,xs=[.int i]/\Q (.int i) H)\/∃ k,xs=[.bl k]/\Q (.int (if k then 1 else 0)) H):=by
 intro pins s σ H xs us Q I r h;rcases h with⟨i,rfl,q⟩|⟨k,rfl,q⟩
 ·obtain⟨u,rfl,t,rfl⟩:=vals1 r;exact call_int_int ⟨.int i,H,I,⟨_,rfl⟩,q⟩
 ·obtain⟨u,rfl,r1⟩:=vals1 r;cases r1
  exact call_int_bool ⟨.int (if k then 1 else 0),H,I.tok _,⟨_,rfl⟩,q⟩
end
structure eL (h:Heap)(x dx C:Addr)(mA:Str->Option Value):Prop where
 obj:h.get? x=some (PySem.W.instObj C dx)
 ns:h.Ns1 dx mA
 ne:dx≠x
theorem CV{dx:Addr}(n:h.Ns1 dx mA):∃ od,h.get? dx=some od/\∀ name,PySem.W.lookIn name od=some (mA name):=by
 obtain⟨o,es,ep,ho,hd,hk,_,hm⟩:=n;refine⟨o,ho,fun name=>?_⟩
 have e:=hm name;unfold nsFind findBy at e;rw[<-Array.find?_toList]at e;unfold PySem.W.lookIn;rw[hd];dsimp only
 split
 ·rename_i y q
  rw[q]at e;exact congrArg some e
 ·rename_i q
  rw[q]at e;have a:es.toList.any (·.refKey)=false:=by
   rw[List.any_eq_false];intro y hy;obtain⟨z,t,hkey⟩:=hk y (Array.mem_toList_iff.mp hy)
   simp [DictEntry.refKey,hkey]
  have a':¬ es.toList.any (·.refKey)=true:=by rw[a];exact DQ
  rw[if_neg a'];exact congrArg some e
theorem eL.look{x dx:Addr}(I:eL h x dx C mA):∃ od,PySem.W.InstAt h x (PySem.W.instObj C dx) C (some od)/\∀ name,PySem.W.lookIn name od=some (mA name):=
 let ⟨od,ho,hl⟩:=CV I.ns
 ⟨od,⟨I.obj,rfl,rfl,ho⟩,hl⟩
section
variable {prog:Program}{w:World}{A:Around}{E:Value->Shared->Prop}{s:Shared}{K:PySem.W.Frag}{x dx C f:Addr}{mA:Str->Option Value}{name:Str}{v:Value}
theorem get_map{expr:Bool}(X:K.In s.heap)(I:eL s.heap x dx C mA)(hg:PySem.W.plainGet K C name=true)(hh:PySem.W.hasDictIn K C=true)(ha:PySem.W.findIn K (.ref C) name=some none)(hv:mA name=some v)(hv':PySem.W.handedIn v=true)(h:Q v { s with toks:=s.toks+1 }) :
  wpAny (model prog w) A (getAttr (.ref x) name expr) Q E s:=by
 obtain⟨od,J,hl⟩:=I.look;exact PySem.W.get_value X J (PySem.W.plainGet_of hg).1 (PySem.W.findObj_own hh ha rfl (by rw[hl,hv])) hv' h
theorem yM{pl:Sem Bool}{Q:Value×List Value->Shared->Prop}(X:K.In s.heap)(I:eL s.heap x dx C mA)(hg:PySem.W.plainGet K C name=true)(hf:PySem.W.findIn K (.ref C) name=some (some (.ref f)))(ht:PySem.W.isFn K (.ref f)=true)(hv:mA name=none)(h:Q (.ref f,[.ref x]) s) :
  wpAny (model prog w) A (getMethod (.ref x) name pl) Q E s:=by
 obtain⟨od,J,hl⟩:=I.look;exact PySem.W.method_fn X J (PySem.W.plainGet_of hg).1 (PySem.W.plainGet_of hg).2 hf (beq_iff_eq.mp ht) (by show(PySem.W.lookIn name od).map (·.isSome)=some false;rw[hl,hv];rfl) h
theorem uu{ns:List Str}{Q:Unit->Shared->Prop}(X:K.In s.heap)(I:eL s.heap x dx C mA)(hs:PySem.W.findIn K (.ref C) "__setattr__" = some (some (.builtin "object.__setattr__"))) (hp:PySem.W.plainOver K C=true) (ht:PySem.W.takerIn K C name=some none) (hh:PySem.W.hasDictIn K C=true) (hw:PySem.Within mA ns) (hsz:ns.length<=sizeLine) (h:∀ h',eL h' x dx C (fun y=>if y=name then some v else mA y)->Heap.SameBut dx s.heap h'->Q () { s with heap:=h',toks:=s.toks+2 }) :
  wpAny (model prog w) A (setAttr (.ref x) name v) Q E s:=by
 obtain⟨od,J,hl⟩:=I.look;refine PySem.W.set_plain X J hs (PySem.W.osa_open (s:={ s with toks:=s.toks+1 }) (r:=none) X J hp ht fun b=>?_)
 obtain⟨cd,hc,hd'⟩:=PySem.W.any_some hh;have hx:s.heap.get? x=some ⟨.ref C,some dx,.plain,#[]⟩:=I.obj;refine De (Df (De (De (wpAny_loadPart hx (De (PySem.W.Looks.here (s:={ s with toks:=s.toks+1 }) (PySem.W.looks_clsIn X hc) ?_))))));rw[hd'];refine Df (a:=some dx) (De (Df (De ?_)));refine wpAny_nsSet1 (s:={ s with toks:=s.toks+1 }) I.ns fun h' hn2 hs2=>?_
 obtain⟨oD,esD,epD,hoD,hdD,hcD⟩:=hn2.count (PySem.Within.cons name v hw);refine De (wpAny_lookBehind hoD (by rw[hdD];exact pastItsLine_dict (Ea hcD (by rw[DR];lia))) ?_)
 exact Df (h _ ⟨(hs2.2 _ (Ne.symm I.ne)).trans I.obj,hn2,I.ne⟩ hs2)
theorem BV{R:Result->Shared->Prop}{kw:List (Str×Value)}(X:K.In s.heap)(hm:PySem.W.makesIn K C=true)(hi:PySem.W.findIn K (.ref C) "__init__" = some (some (.ref f))) (hf:PySem.W.typeIn K (.ref f)=some (.type "function")) (h:codeAny (model prog w) (A.under (.builtin "type.__call__" ⟨.ref C::vs,kw⟩)) (.call (.ref f) ⟨.ref (s.heap.objs.size+1)::vs,kw⟩) (PySem.W.InitBack (s.heap.objs.size+1) R)
   { s with heap:=(s.heap.push PySem.W.emptyDict).push (PySem.W.instObj C s.heap.objs.size) }) :
  codeAny (model prog w) A (.call (.ref C) ⟨vs,kw⟩) R s:=by
 obtain⟨hh,g,d,t,os⟩:=s;exact PySem.W.make_core (PySem.W.makes_of X hm) (PySem.W.looks_findIn X hi) (fun self=>PySem.W.bind_fn X self hf) (.inl rfl) h
end
noncomputable def bV (f:Str)(v:V):List (Str×V)->List (Str×V)
 | []=>[(f,v)]
 | (g,x)::r=>if g=f then(g,v)::r else(g,x)::bV f v r
theorem tB(f g:Str)(v:V):∀ fs:List (Str×V),(bV f v fs).lookup g=if g=f then some v else fs.lookup g
 | []=>by
  show List.lookup g [(f,v)]=_
  by_cases h:g=f
  ·have hb:(g==f)=true:=beq_iff_eq.mpr h;simp only[List.lookup,hb,if_pos h]
  ·have hb:(g==f)=false:=beq_eq_false_iff_ne.mpr h;simp only[List.lookup,hb,if_neg h]
 | (k,x)::r=>by
  have ih:=tB f g v r;rw[show bV f v ((k,x)::r)=(if k=f then(k,v)::r else(k,x)::bV f v r) from rfl]
  by_cases hk:k=f
  ·rw[if_pos hk]
   by_cases h:g=k
   ·have hb:(g==k)=true:=beq_iff_eq.mpr h;simp only[List.lookup,hb,if_pos (h.trans hk)]
   ·have hb:(g==k)=false:=beq_eq_false_iff_ne.mpr h;simp only[List.lookup,hb,if_neg (fun e:g=f=>h (e.trans hk.symm))]
  ·rw[if_neg hk]
   by_cases h:g=k
   ·have hb:(g==k)=true:=beq_iff_eq.mpr h;simp only[List.lookup,hb,if_neg (fun e:g=f=>hk (h.symm.trans e))]
   ·have hb:(g==k)=false:=beq_eq_false_iff_ne.mpr h;simp only[List.lookup,hb];exact ih
theorem mj(f:Str)(v:V):∀ fs:List (Str×V),f∈(bV f v fs).map (·.1)/\∀ g,g∈fs.map (·.1)->g∈(bV f v fs).map (·.1)
 | []=>⟨by simp [bV],fun g h=>by simp at h⟩
 | (k,x)::r=>by
  obtain⟨i1,i2⟩:=mj f v r;rw[show bV f v ((k,x)::r)=(if k=f then(k,v)::r else(k,x)::bV f v r) from rfl]
  by_cases hk:k=f
  ·rw[if_pos hk];subst hk;exact⟨by simp,fun g h=>by simpa using h⟩
  ·rw[if_neg hk];refine⟨?_,fun g h=>?_⟩
   ·rw[Dk];exact Dr _ i1
   ·rw[Dk]at h ⊢;rcases DG.mp h with e|e
    ·exact DG.mpr (.inl e)
    ·exact Dr _ (i2 g e)
theorem uk(f:Str)(v:V):∀ fs:List (Str×V),(bV f v fs).length<=fs.length+1
 | []=>by simp [bV]
 | (k,x)::r=>by
  have ih:=uk f v r;rw[show bV f v ((k,x)::r)=(if k=f then(k,v)::r else(k,x)::bV f v r) from rfl]
  by_cases hk:k=f
  ·rw[if_pos hk,DR,DR];lia
  ·rw[if_neg hk,DR,DR];lia
theorem bK.some_of{v:V}{o:Option Value}(r:bK (some v) o):∃ u,o=some u/\RelV v u:=by
 cases o with
 | none=>exact(show False from r).elim
 | some u=>exact⟨u,rfl,r⟩
theorem bK.none_of{o:Option Value}(r:bK none o):o=none:=by
 cases o with
 | none=>rfl
 | some u=>exact(show False from r).elim
theorem z7{v:V}(r:RelV v u):PySem.W.handedIn u=true:=by
 cases v with
 | non=>cases (show u=Value.none from r);rfl
 | bl b=>cases (show u=Value.bool b from r);rfl
 | int i=>obtain⟨t,e⟩:=(show ∃ t,u=Value.int i t from r);cases e;rfl
 | str x=>obtain⟨t,e⟩:=(show ∃ t,u=Value.str x t from r);cases e;rfl
 | byt b=>obtain⟨t,e⟩:=(show ∃ t,u=Value.bytes b t from r);cases e;rfl
 | flt b=>obtain⟨t,e⟩:=(show ∃ t,u=Value.float b t from r);cases e;rfl
 | ref a=>cases (show u=Value.ref a from r);rfl
 | ty n=>cases (show u=Value.type n from r);rfl
section
variable {P:Program}{w:World}{H H':Hp}{h h':Heap}{a C dx:Addr}{fs fs':List (Str×V)}
theorem cY(hok:HOk P w H h)(e:H a=some (.ins C dx fs)):∃ mA,eL h a dx C mA/\(∀ f,bK (fs.lookup f) (mA f))/\PySem.Within mA (fs.map (·.1))/\fs.length<=1000/\H dx=some (.own a):=by
 obtain⟨d,z,ne,ob,mA,n,r,q⟩:=(show aj P w H h a (.ins C dx fs) from hok a _ e)
 exact⟨mA,⟨ob,n,ne⟩,r,q,z,d⟩
end
structure Cls (K:PySem.W.Frag)(C:Addr):Prop where
 pg:PySem.W.plainGet K C Str.empty=true
 hd:PySem.W.hasDictIn K C=true
 po:PySem.W.plainOver K C=true
 sa:PySem.W.findIn K (.ref C) "__setattr__" = some (some (.builtin "object.__setattr__"))
theorem Cls.get{K:PySem.W.Frag}(c:Cls K C)(f:Str):PySem.W.plainGet K C f=true:=c.pg
noncomputable def cB (K:PySem.W.Frag)(C:Addr)(f:Str):Prop:=PySem.W.findIn K (.ref C) f=some none
theorem cB.wU{K:PySem.W.Frag}{f:Str}(n:cB K C f):PySem.W.takerIn K C f=some none:=by
 unfold PySem.W.takerIn;rw[show PySem.W.findIn K (.ref C) f=some none from n]
 rfl
structure Meth (K:PySem.W.Frag)(C:Addr)(m:Str)(f:Addr):Prop where
 at_:PySem.W.findIn K (.ref C) m=some (some (.ref f))
 fn:PySem.W.isFn K (.ref f)=true
 kp:PySem.W.keepIn K (.ref f)=true
section
variable {X:Cx}{pins:List (Addr×Obj)}{σ:St}{H:Hp}{s:Shared}{a C dx:Addr}{fs:List (Str×V)}{f:Str}{v:V}{A:Around}{E:Value->Shared->Prop}
theorem Cn{b:Bool}(I:Inv X pins σ H s)(e:H a=some (.ins C dx fs))(c:Cls X.K C)(n:cB X.K C f)(l:fs.lookup f=some v)(h:∀ u s',Inv X pins σ H s'->RelV v u->Q u s'):wpAny (model X.prog X.w) A (getAttr (.ref a) f b) Q E s:=by
 obtain⟨mA,O,r,_,_,_⟩:=cY I.hok e;obtain⟨u,hu,ru⟩:=bK.some_of (v:=v) (o:=mA f) (by rw[<-l];exact r f)
 exact get_map I.kIn O (c.get f) c.hd n hu (z7 ru) (h u _ (I.tok _) ru)
theorem sT{m:Str}{g:Addr}{pl:Sem Bool}{Q:Value×List Value->Shared->Prop}(I:Inv X pins σ H s)(e:H a=some (.ins C dx fs))(c:Cls X.K C)(k:Meth X.K C m g)(l:fs.lookup m=none)(h:Q (.ref g,[.ref a]) s):wpAny (model X.prog X.w) A (getMethod (.ref a) m pl) Q E s:=by
 obtain⟨mA,O,r,_,_,_⟩:=cY I.hok e;have hn:mA m=none:=bK.none_of (by rw[<-l];exact r m)
 exact yM I.kIn O (c.get m) k.at_ k.fn hn h
theorem xU{y:V}{Q:Unit->Shared->Prop}(I:Inv X pins σ H s)(e:H a=some (.ins C dx fs))(c:Cls X.K C)(n:cB X.K C f)(hl:fs.length<1000)(ry:RelV y u)(h:∀ s',Inv X pins σ (upd H a (.ins C dx (bV f y fs))) s'->Q () s'):wpAny (model X.prog X.w) A (setAttr (.ref a) f u) Q E s:=by
 obtain⟨mA,O,r,wi,_,ho⟩:=cY I.hok e;have hz:(fs.map (·.1)).length<=sizeLine:=by rw[Dd,DV];lia
 refine uu I.kIn O c.sa c.po n.wU c.hd wi hz fun h' O' sb=>h _ ?_
 have hd:∃ o,h'.get? dx=some o:=let ⟨o,_,_,e',_⟩:=O'.ns;⟨o,e'⟩
 refine I.write (x:=a) (e:=dx) (by rw[e];exact True.intro) (.inr ho) (fun b q hb z=>(sb.2 b hb).trans z) hd ?_
 refine⟨by rw[ao O.ne];exact ho,?_,O.ne,O'.obj,_,O'.ns,fun g=>?_,fun g hg=>?_⟩
 ·have:=uk f y fs;lia
 ·show bK ((bV f y fs).lookup g) (if g=f then some u else mA g)
  rw[tB]
  by_cases q:g=f
  ·rw[if_pos q,if_pos q];exact ry
  ·rw[if_neg q,if_neg q];exact r g
 ·by_cases q:g=f
  ·rw[q];exact(mj f y fs).1
  ·refine(mj f y fs).2 g (wi g fun z=>hg ?_)
   show(if g=f then some u else mA g)=none
   rw[if_neg q];exact z
theorem Inv.made(I:Inv X pins σ H s):Inv X pins σ (upd (upd H s.heap.objs.size (.own (s.heap.objs.size+1))) (s.heap.objs.size+1) (.ins C s.heap.objs.size []))
  { s with heap:=(s.heap.push PySem.W.emptyDict).push (PySem.W.instObj C s.heap.objs.size) }:=by
 have e1:(s.heap.push PySem.W.emptyDict).get? s.heap.objs.size=some PySem.W.emptyDict:=DE s.heap rfl;have e2:((s.heap.push PySem.W.emptyDict).push (PySem.W.instObj C s.heap.objs.size)).get? (s.heap.objs.size+1)=some (PySem.W.instObj C s.heap.objs.size):=by
  have:=DE (s.heap.push PySem.W.emptyDict) (o:=PySem.W.instObj C s.heap.objs.size) rfl
  rwa [E6]at this
 have e3:(s.heap.push PySem.W.emptyDict).Ns s.heap.objs.size (fun _=>none):=⟨PySem.W.emptyDict,#[],_,e1,rfl,(fun e he=>absurd he (by simp)),fun _=>rfl⟩
 have I1:=I.laid (a:=s.heap.objs.size) (o:=.own (s.heap.objs.size+1)) (h':=s.heap.push PySem.W.emptyDict) (t':=s.toks) (fun b u q=>Dh _ q) (Di _) ⟨_,e1⟩
 refine I1.laid (a:=s.heap.objs.size+1) (o:=.ins C s.heap.objs.size []) (t':=s.toks) (fun b u q=>Dh _ q) (Nat.le_of_eq (E6 _ _)) ?_
 have ne:s.heap.objs.size≠s.heap.objs.size+1:=DO (Fw _);refine⟨by rw[ao ne,aW],DZ _,ne,e2,fun _=>none,(Heap.Ns1.of_empty e3).at fun o q=>Dh _ q,fun _=>True.intro,fun y hy=>absurd rfl hy⟩
theorem xC{f:Str}(hb:attributeBase e f env (eval e env)=eval e env)(h:wpAny (model prog w) A (eval e env) (fun o s₁=>wpAny (model prog w) A (getAttr o f true) Q E s₁) E s):wpAny (model prog w) A (eval (.Attribute e f pos) env) Q E s:=
 Attribute_any_ h (by rw[arm_eval_Attribute,hb])
end
noncomputable def uq (K:PySem.W.Frag)(ta:TE)(f:Str):TE:=fun σ H Q=>ta σ H fun x H1=>∃ a C dx fs v,x=.ref a/\H1 a=some (.ins C dx fs)/\Cls K C/\cB K C f/\fs.lookup f=some v/\Q v H1
noncomputable def Bf (K:PySem.W.Frag)(ta tv:TE)(f:Str):TS:=fun D σ H=>tv σ H fun y H1=>ta σ H1 fun x H2=>∃ a C dx fs,x=.ref a/\H2 a=some (.ins C dx fs)/\Cls K C/\cB K C f/\fs.length<1000 ∧
 D.nx σ (upd H2 a (.ins C dx (bV f y fs)))
section
variable {X:Cx}{o e value:Expr}{f:Str}{pos pos' tpos:Pos}{ta tv:TE}
theorem Bm(he:PE X e ta)(hb:attributeBase e f X.env (eval e X.env)=eval e X.env):PE X (.Attribute e f pos) (uq X.K ta f):=by
 intro pins s σ H Q I h;refine xC hb (thn (he pins s σ H _ I h) fun u s1 hZ=>?_)
 obtain⟨x,H1,I1,rx,a,C,dx,fs,v,ex,ea,c,n,l,q⟩:=hZ;subst ex;obtain rfl:u=Value.ref a:=rx;exact Cn I1 ea c n l fun u' s2 I2 ru=>⟨v,H1,I2,ru,q⟩
theorem yO(ha:PE X o ta)(hv:PE X value tv)(hs:swapsWith value (some (.Attribute o f pos')) pos.line X.env=pure false):PS X (.Assign [.Attribute o f pos'] value pos) (Bf X.K ta tv f):=by
 intro pins s σ H D I h;refine plainObj_wpAny_Assign_Attribute (thn (hv pins s σ H _ I h) fun u s1 ⟨y,H1,I1,ry,q⟩=>thn (ha pins s1 σ H1 _ I1 q) fun ov s2 ⟨x,H2,I2,rx,a,C,dx,fs,ex,ea,c,n,l,q2⟩=>?_) hs
 subst ex;obtain rfl:ov=Value.ref a:=rx;exact xU I2 ea c n l ry fun s3 I3=>⟨σ,_,I3,q2⟩
end
section
variable {X:Cx}{pins:List (Addr×Obj)}{σ:St}{H:Hp}{s:Shared}{A:Around}{E:Value->Shared->Prop}{Q:Value->Shared->Prop}{c:Value}{b:Bool}
inductive cu (K:PySem.W.Frag)(H:Hp):V->Value->Prop where
 | non:cu K H .non (.type "NoneType")
 | bl (x:Bool):cu K H (.bl x) (.type "bool")
 | int (i:Int):cu K H (.int i) (.type "int")
 | str (x:Str):cu K H (.str x) (.type "str")
 | flt (x:UInt64):cu K H (.flt x) (.type "float")
 | lst {a:Addr} {xs:List V} (e:H a=some (.lst xs)):cu K H (.ref a) (.type "list")
 | frz {a:Addr} {o:Obj} {xs:List V} (e:H a=some (.frz o (.lst xs))):cu K H (.ref a) (.type "list")
 | tup {a:Addr} {xs:List V} (e:H a=some (.tup xs)):cu K H (.ref a) (.type "tuple")
 | dK {a:Addr} {kvs:List (Key×V)} (e:H a=some (.dK kvs)):cu K H (.ref a) (.type "dict")
 | dT {a:Addr} {kvs:List (List Key×V)} (e:H a=some (.dT kvs)):cu K H (.ref a) (.type "dict")
 | ins {a C dx:Addr} {fs:List (Str×V)} (e:H a=some (.ins C dx fs)) (cl:Cls K C) (ha:PySem.W.findIn K (.ref C) "__class__" = some (some (.builtin "object.__class__")))
   (hn:PySem.W.specialIn K (.builtin "object.__class__") "__get__" = some (some (.builtin "getset_descriptor.__get__"))) (htk:PySem.W.takesIn K (.builtin "object.__class__")=some true)
   (hm:PySem.W.mroIn K C (.type "object")=some true):cu K H (.ref a) (.ref C)
theorem ym{x:V}{t:Value}(I:Inv X pins σ H s)(rx:RelV x u)(ty:cu X.K H x t)(e:PySem.W.kitOne X.K t c=some b)(h:∀ tk,Q (.bool b) { s with toks:=tk }) :
  wpAny (model X.prog X.w) A (call (.builtin "isinstance") [u,c]) Q E s:=by
 cases ty with
 | non=>cases (show u=Value.none from rx);exact PySem.W.kia_one PySem.W.kitx_none I.kIn True.intro e (fun z=>nomatch z) h
 | bl y=>cases (show u=Value.bool y from rx);exact PySem.W.kia_one PySem.W.kitx_bool I.kIn True.intro e (fun z=>nomatch z) h
 | int i=>obtain⟨t,q⟩:=(show ∃ t,u=Value.int i t from rx);cases q;exact PySem.W.kia_one PySem.W.kitx_int I.kIn True.intro e (fun z=>nomatch z) h
 | str y=>obtain⟨t,q⟩:=(show ∃ t,u=Value.str y t from rx);cases q;exact PySem.W.kia_one PySem.W.kitx_str I.kIn True.intro e (fun z=>nomatch z) h
 | flt y=>obtain⟨t,q⟩:=(show ∃ t,u=Value.float y t from rx);cases q;exact PySem.W.kia_one PySem.W.kitx_float I.kIn True.intro e (fun z=>nomatch z) h
 | @lst a xs ea=>
  cases (show u=Value.ref a from rx)
  obtain⟨_,_,n,_,h1⟩:=(show aj X.prog X.w H s.heap a (.lst xs) from I.hok a _ ea)
  exact PySem.W.kia_one PySem.W.kitx_list I.kIn ⟨_,h1,rfl⟩ e (fun z=>nomatch z) h
 | @frz a ob xs ea=>
  cases (show u=Value.ref a from rx)
  obtain⟨_,_,_,n,_,h1⟩:=(show aj X.prog X.w H s.heap a (.frz ob (.lst xs)) from I.hok a _ ea)
  exact PySem.W.kia_one PySem.W.kitx_list I.kIn ⟨_,h1,rfl⟩ e (fun z=>nomatch z) h
 | @tup a xs ea=>
  cases (show u=Value.ref a from rx)
  obtain⟨_,_,_,p⟩:=(show aj X.prog X.w H s.heap a (.tup xs) from I.hok a _ ea)
  obtain⟨o,h1,h2,_⟩:=p;exact PySem.W.kia_one PySem.W.kitx_tuple I.kIn ⟨o,h1,h2⟩ e (fun z=>nomatch z) h
 | @dK a kvs ea=>
  cases (show u=Value.ref a from rx)
  obtain⟨_,_,vs,_,p⟩:=(show aj X.prog X.w H s.heap a (.dK kvs) from I.hok a _ ea)
  obtain⟨o,es,ep,h1,h2,_⟩:=p;exact PySem.W.kia_one PySem.W.kitx_dict I.kIn ⟨o,h1,h2.1⟩ e (fun z=>nomatch z) h
 | @dT a kvs ea=>
  cases (show u=Value.ref a from rx)
  obtain⟨_,_,xs,_,o,es,ep,h1,h2,_⟩:=(show aj X.prog X.w H s.heap a (.dT kvs) from I.hok a _ ea)
  exact PySem.W.kia_one PySem.W.kitx_dict I.kIn ⟨o,h1,h2.1⟩ e (fun z=>nomatch z) h
 | @ins a C dx fs ea cl ha hn htk hm=>
  cases (show u=Value.ref a from rx)
  obtain⟨mA,O,_⟩:=cY I.hok ea;obtain⟨od,J,_⟩:=O.look;exact PySem.W.kia_one (PySem.W.kitx_own (cl.get _) cl.hd ha hn htk hm) I.kIn J e (fun z=>nomatch z) h
end
structure aA (k:Nat)(A:Around):Prop where
 hd:A.handled=none
 dp:A.depth+3*k+5<recursionLimit
 un:A.units+16*k+200<cLine
theorem aA.mono{k:Nat}(r:aA k A)(h:j<=k):aA j A:=⟨r.hd,by have:=r.dp;lia,by have:=r.un;lia⟩
theorem aA.deeper{k:Nat}(r:aA (k+1) A)(env:Env):aA k (A.deeper env):=
 ⟨r.hd,by have:=r.dp;show A.depth+1+3*k+5<_;lia,by have:=r.un;show A.units+3+16*k+200<_;lia⟩
theorem yn{kw:List (Str×Value)}:(A.under (.builtin "type.__call__" ⟨.ref C::us,kw⟩)).depth=A.depth+1:=by
 first|rfl|simp [Around.under,Code.weight,Code.isCreation,Code.isGuard,Code.isCaller,Code.frames,Code.isFrame,guardIds]
theorem zu{kw:List (Str×Value)}:(A.under (.builtin "type.__call__" ⟨.ref C::us,kw⟩)).units=A.units+1:=by
 first|rfl|simp [Around.under,Code.cUnits,Code.frames,Code.isFrame]
theorem aA.make{k:Nat}(r:aA (k+1) A)(C:Addr)(us:List Value)(kw:List (Str×Value)):aA k (A.under (.builtin "type.__call__" ⟨.ref C::us,kw⟩)):=
 ⟨r.hd,by have:=r.dp;rw[yn];lia,by have:=r.un;rw[zu];lia⟩
theorem aA.depth{k:Nat}(r:aA k A):A.depth<recursionLimit:=by have:=r.dp;lia
theorem aA.units{k:Nat}(r:aA k A):A.units+64<cLine:=by have:=r.un;lia
noncomputable def eO:TA:=fun _ H Q=>Q [] H
noncomputable def qM (ta:TE)(tr:TA):TA:=fun σ H Q=>ta σ H fun x H1=>tr σ H1 fun xs H2=>Q (x::xs) H2
section
variable {X:Cx}{e:Expr}{es:List Expr}{te:TE}{t:TA}{pos:Pos}
theorem ab:PA X [] eO:=fun _ _ _ _ H Q I h=>Calls.spliced_nil ⟨[],H,I,.nil,h⟩
theorem aa(ha:PE X e te)(hr:PA X es t)(hs:starEach (e::es) X.env=(false,eval e X.env)::starEach es X.env:=by rfl):PA X (e::es) (qM te t):=by
 intro pos pins s σ H Q I h;rw[hs];show wpAny _ _ (spliced ((false,eval e X.env)::backTo pos (starEach es X.env))) _ _ s
 refine Calls.spliced_cons (thn (ha pins s σ H _ I h) fun u s1 hZ=>?_)
 obtain⟨x,H1,I1,r1,q1⟩:=hZ;exact thn (hr pos pins s1 σ H1 _ I1 q1) fun us s2 ⟨xs,H2,I2,r2,q2⟩=>⟨x::xs,H2,I2,.cons r1 r2,q2⟩
end
noncomputable abbrev Sp:=List V->Hp->VK->XK->Prop
noncomputable abbrev CXT:=List Env->Hp->Shared->XK->Value->Shared->Prop
structure dF (P:Program)(w:World)(K:PySem.W.Frag)(mg:Str->Option Value)(base:Heap)(A:Around)(outer:List Env)(s:Shared)(H:Hp):Prop where
 frames:A.frames=some outer
 mod:Mod K mg base
 bs:∀ b o,base.get? b=some o->s.heap.get? b=some o/\H b=none
 bsz:base.objs.size<=s.heap.objs.size
 cm:s.heap.FunFrames base outer
 frf:∀ b∈frs outer,H b=none
 hok:HOk P w H s.heap
 bare:AllBare s.gens
noncomputable def CE (outer:List Env)(P:Program)(w:World)(H:Hp)(s:Shared)(Q:VK)(u:Value)(s':Shared):Prop:=
 ∃ v H',s'.os=s.os/\AllBare s'.gens/\Un (frs outer) [] H H' s.heap s'.heap/\HOk P w H' s'.heap/\RelV v u/\Q v H'
noncomputable def CR (CX:CXT)(outer:List Env)(P:Program)(w:World)(H:Hp)(s:Shared)(Q:VK)(E:XK)(r:Result)(s':Shared):Prop:=
 match r with
 | .ok (.ret u)=>CE outer P w H s Q u s'
 | .ok _=>False
 | .error e=>CX outer H s E e s'
structure ar (P:Program)(w:World)(K:PySem.W.Frag)(mg:Str->Option Value)(base:Heap)(CX:CXT)(k:Nat)(f:Addr)(fd:FuncData)(ps:List Str)(sp:Sp):Prop where
 len:∀ vs H Q E,sp vs H Q E->vs.length=ps.length
 run:∀(A:Around) (outer:List Env) (s:Shared) (H:Hp) (args:Args) (us:List Value) (vs:List V) (Q:VK) (E:XK),aA k A->dF P w K mg base A outer s H->BindsTo s fd args (ps.zip us)->Vals vs us->sp vs H Q E →
  codeAny (model P w) A (.call (.ref f) args) (CR CX outer P w H s Q E) s
theorem ar.mono{K:PySem.W.Frag}{CX:CXT}{k:Nat}{sp:Sp}(F:ar P w K mg base CX j f fd ps sp)(h:j<=k) :
  ar P w K mg base CX k f fd ps sp:=⟨F.len,fun A outer s H args us vs Q E hr=>F.run A outer s H args us vs Q E (hr.mono h)⟩
theorem dF.make{K:PySem.W.Frag}{outer:List Env}{H:Hp}(e:dF P w K mg base A outer s H)(C:Addr)(us:List Value)(kw:List (Str×Value)) :
  dF P w K mg base (A.under (.builtin "type.__call__" ⟨.ref C::us,kw⟩)) outer s H:=⟨by first|exact e.frames|(simpa [Around.under,Code.envs,Code.isFrame,pushEnvs] using e.frames),e.mod,e.bs,e.bsz,e.cm,e.frf,e.hok,e.bare⟩
section
variable {X:Cx}{pins:List (Addr×Obj)}{σ:St}{H:Hp}{s s':Shared}
theorem Inv.rY(I:Inv X pins σ H s):dF X.prog X.w X.K X.mg X.base X.A X.stack s H:=
 ⟨I.ok.frames,I.ok.mod,I.bs,Ea I.ok.bsz I.sz,I.stack,I.k8,I.hok,I.bare⟩
theorem Inv.after{Q:VK}(I:Inv X pins σ H s)(h:CE X.stack X.prog X.w H s Q u s'):EP X pins σ Q u s':=by
 obtain⟨v,H',os,bare,un,hok,r,q⟩:=h;obtain⟨hh,g,d,t,os'⟩:=s';obtain rfl:os'=s.os:=os;exact⟨v,H',I.call (h':=hh) (g':=g) (d':=d) (t':=t) (ch:=[]) un hok bare (fun b z=>absurd z (by simp)),r,q⟩
end
noncomputable def u0 (sp:Sp)(dvs:List V)(E:XK)(t:TA):TE:=fun σ H Q=>t σ H fun vs H1=>sp (vs++dvs) H1 Q E
noncomputable def qz (C:Addr)(m:Str)(sp:Sp)(dvs:List V)(E:XK)(ta:TE)(t:TA):TE:=fun σ H Q=>ta σ H fun x H1=>∃ a dx fs,x=.ref a/\H1 a=some (.ins C dx fs)/\fs.lookup m=none ∧
 t σ H1 fun vs H2=>sp (x::(vs++dvs)) H2 Q E
noncomputable def u5 (C:Addr)(sp:Sp)(dvs:List V)(E:XK)(t:TA):TE:=fun σ H Q=>t σ H fun vs H1=>∀ x dx,H1 x=none->H1 dx=none->dx≠x →
 sp (.ref x::(vs++dvs)) (upd (upd H1 dx (.own x)) x (.ins C dx [])) (fun v H2=>v=.non/\Q (.ref x) H2) E
noncomputable def Binds (K:PySem.W.Frag)(fd:FuncData)(ps:List Str)(ds:List Value):Prop:=
 ∀(s:Shared) (us:List Value),K.In s.heap->(us++ds).length=ps.length->BindsTo s fd ⟨us,[]⟩ (ps.zip (us++ds))
theorem Binds.all{K:PySem.W.Frag}(h:∀ us:List Value,us.length=ps.length->bindArgs fd ⟨us,[]⟩=pure (ps.zip us)):Binds K fd ps []:=fun s us _ hl=>by
 rw[D9]at hl ⊢;exact .of_eq (h us hl)
noncomputable def Passes (CX:CXT)(X:Cx)(E:XK):Prop:=∀(pins:List (Addr×Obj))(σ:St)(H:Hp)(s:Shared)(e:Value)(s':Shared),Inv X pins σ H s->CX X.stack H s E e s'->X.xe e s'
section
variable {X:Cx}{CX:CXT}{k:Nat}{f C:Addr}{fd:FuncData}{ps:List Str}{sp:Sp}{dvs:List V}{ds:List Value}{E:XK}{x m:Str}{p pos apos:Pos}{e o:Expr}{es:List Expr}{ta:TE}{t:TA}
theorem js{σ:St}{H:Hp}{Q:VK}{vs:List V}(F:ar X.prog X.w X.K X.mg X.base CX k f fd ps sp)(hr:aA k X.A)(hb:Binds X.K fd ps ds)(hd:Vals dvs ds)(hx:Passes CX X E)(I:Inv X pins σ H s)(r:Vals vs us)(h:sp (vs++dvs) H Q E):wpAny (model X.prog X.w) X.A (call (.ref f) us) (EP X pins σ Q) X.xe s:=by
 have r2:Vals (vs++dvs) (us++ds):=r.append hd;have hl:(us++ds).length=ps.length:=by rw[<-r2.length];exact F.len _ _ _ _ h
 refine wpAny_call (codeAny_mono (F.run X.A X.stack s H ⟨us,[]⟩ (us++ds) (vs++dvs) Q E hr I.rY (hb s us I.kIn hl) r2 h) fun r s' hq=>?_)
 cases r with
 | error e=>exact hx pins σ H s e s' I hq
 | ok fl=>
  cases fl with
  | ret u=>exact I.after hq
  | next=>exact False.elim hq
  | brk=>exact False.elim hq
  | cont=>exact False.elim hq
theorem uB(F:ar X.prog X.w X.K X.mg X.base CX k f fd ps sp)(hr:aA k X.A)(hg:Gl X x)(hm:X.mg x=some (.ref f))(hk:PySem.W.keepIn X.K (.ref f)=true)(hb:Binds X.K fd ps ds)(hd:Vals dvs ds)(hx:Passes CX X E)(ha:PA X (e::es) t)(hdb:(x==("__debug__":Str))=false:=by decide) (he:starEach (e::es) X.env=(false,eval e X.env)::starEach es X.env:=by rfl) (hpl:(backTo pos (starEach es X.env)).any (·.1)=false:=by rfl) :
  PE X (.Call (.Name x p) (e::es) [] pos) (u0 sp dvs E t):=by
 intro pins s σ H Q I h;refine Ff (jx I hg hm ?_ hdb);refine PySem.W.callWith_K (h₀:=X.base) I.ok.mod.kin hk (thn (ha pos pins s σ H _ I h) fun us s1 ⟨vs,H1,I1,r,q⟩=>⟨I1.kIn,?_⟩) he hpl
 exact js F hr hb hd hx I1 r q
theorem Cb{pl:Sem Bool}(he:PE X o ta)(c:Cls X.K C)(hm:Meth X.K C m f)(F:ar X.prog X.w X.K X.mg X.base CX k f fd ps sp)(hr:aA k X.A)(hb:Binds X.K fd ps ds)(hd:Vals dvs ds)(hx:Passes CX X E)(ha:PA X (e::es) t)(hst:starEach (e::es) X.env=(false,eval e X.env)::starEach es X.env:=by rfl)(hpl:(backTo pos (starEach es X.env)).any (·.1)=false:=by rfl)(ht:eval (.Call (.Attribute o m apos) (e::es) [] pos) X.env=(do
   let ov <-eval o X.env
   standAt apos.atName
   let (f,first) <-holding [ov] (getMethod ov m pl)
   callWith pos f first (backTo pos (starEach (e::es) X.env)) (backToKw pos (keywordEach [] X.env))):=by rfl) :
  PE X (.Call (.Attribute o m apos) (e::es) [] pos) (qz C m sp dvs E ta t):=by
 intro pins s σ H Q I h;refine PySem.W.methodCall_KW (pl:=pl) (thn (he pins s σ H _ I h) fun u s1 ⟨x,H1,I1,rx,a,dx,fs,ex,ea,l,q⟩=>?_) ht
 subst ex;obtain rfl:u=Value.ref a:=rx;refine sT I1 ea c hm l ?_;refine PySem.W.callWith_K (first:=[.ref a]) (h₀:=X.base) I.ok.mod.kin hm.kp (thn (ha pos pins s1 σ H1 _ I1 q) fun us s2 ⟨vs,H2,I2,r,q2⟩=>⟨I2.kIn,?_⟩) hst hpl
 exact js (us:=.ref a::us) (vs:=.ref a::vs) F hr hb hd hx I2 (.cons rfl r) q2
theorem Bn{pl:Sem Bool}(he:PE X o ta)(c:Cls X.K C)(hm:Meth X.K C m f)(F:ar X.prog X.w X.K X.mg X.base CX k f fd ps sp)(hr:aA k X.A)(hb:Binds X.K fd ps ds)(hd:Vals dvs ds)(hx:Passes CX X E)(ht:eval (.Call (.Attribute o m apos) [] [] pos) X.env=(do
   let ov <-eval o X.env
   standAt apos.atName
   let (f,first) <-holding [ov] (getMethod ov m pl)
   callWith pos f first (backTo pos (starEach [] X.env)) (backToKw pos (keywordEach [] X.env))):=by rfl) :
  PE X (.Call (.Attribute o m apos) [] [] pos) (qz C m sp dvs E ta eO):=by
 intro pins s σ H Q I h;refine PySem.W.methodCall_KW (pl:=pl) (thn (he pins s σ H _ I h) fun u s1 ⟨x,H1,I1,rx,a,dx,fs,ex,ea,l,q⟩=>?_) ht
 subst ex;obtain rfl:u=Value.ref a:=rx;refine sT I1 ea c hm l ?_;exact PySem.W.callWith_K0 (first:=[.ref a]) I1.kIn hm.kp (js (us:=[.ref a]) (vs:=[.ref a]) F hr hb hd hx I1 (.cons rfl .nil) q)
structure Mk (K:PySem.W.Frag)(C f:Addr):Prop where
 makes:PySem.W.makesIn K C=true
 init:PySem.W.findIn K (.ref C) "__init__" = some (some (.ref f))
 fn:PySem.W.isFn K (.ref f)=true
 kp:PySem.W.keepIn K (.ref C)=true
theorem xi{σ:St}{H:Hp}{Q:VK}{vs:List V}(M:Mk X.K C f)(F:ar X.prog X.w X.K X.mg X.base CX k f fd ps sp)(hr:aA (k+1) X.A)(hb:Binds X.K fd ps ds)(hd:Vals dvs ds)(hx:Passes CX X E)(I:Inv X pins σ H s)(r:Vals vs us)(h:∀ x dx,H x=none->H dx=none->dx≠x->sp (.ref x::(vs++dvs)) (upd (upd H dx (.own x)) x (.ins C dx [])) (fun v H2=>v=.non/\Q (.ref x) H2) E) :
  wpAny (model X.prog X.w) X.A (call (.ref C) us) (EP X pins σ Q) X.xe s:=by
 have hq:=h (s.heap.objs.size+1) s.heap.objs.size (I.hok.fresh (Nat.le_succ _)) (I.hok.fresh (Di _)) (DO (Fw _));have I2:=Inv.made (C:=C) I;have r2:Vals (V.ref (s.heap.objs.size+1)::(vs++dvs)) (Value.ref (s.heap.objs.size+1)::(us++ds)):=.cons rfl (r.append hd);have hl:(Value.ref (s.heap.objs.size+1)::us++ds).length=ps.length:=by
  have e:=r2.length;rw[F.len _ _ _ _ hq]at e;exact e.symm
 refine wpAny_call (BV (f:=f) I.kIn M.makes M.init (beq_iff_eq.mp M.fn) (codeAny_mono (F.run _ X.stack _ _ ⟨Value.ref (s.heap.objs.size+1)::us,[]⟩ (Value.ref (s.heap.objs.size+1)::(us++ds)) _ _ E (hr.make C us [])
  (I2.rY.make C us []) (hb _ (Value.ref (s.heap.objs.size+1)::us) I2.kIn hl) r2 hq) fun r s' hq'=>?_))
 cases r with
 | error e=>exact hx pins σ _ _ e s' I2 hq'
 | ok fl=>
  cases fl with
  | ret u=>
   obtain⟨v,H',I3,rv,ev,q3⟩:=I2.after hq';subst ev;exact⟨rv,⟨V.ref (s.heap.objs.size+1),H',I3,rfl,q3⟩⟩
  | next=>exact False.elim hq'
  | brk=>exact False.elim hq'
  | cont=>exact False.elim hq'
theorem yX(M:Mk X.K C f)(F:ar X.prog X.w X.K X.mg X.base CX k f fd ps sp)(hr:aA (k+1) X.A)(hg:Gl X x)(hm:X.mg x=some (.ref C))(hb:Binds X.K fd ps ds)(hd:Vals dvs ds)(hx:Passes CX X E)(ha:PA X (e::es) t)(hdb:(x==("__debug__":Str))=false:=by decide) (he:starEach (e::es) X.env=(false,eval e X.env)::starEach es X.env:=by rfl) (hpl:(backTo pos (starEach es X.env)).any (·.1)=false:=by rfl) :
  PE X (.Call (.Name x p) (e::es) [] pos) (u5 C sp dvs E t):=by
 intro pins s σ H Q I h;refine Ff (jx I hg hm ?_ hdb);refine PySem.W.callWith_K (h₀:=X.base) I.ok.mod.kin M.kp (thn (ha pos pins s σ H _ I h) fun us s1 ⟨vs,H1,I1,r,q⟩=>⟨I1.kIn,?_⟩) he hpl
 exact xi M F hr hb hd hx I1 r q
end
section
variable {X:Cx}{CX:CXT}{k:Nat}{f C:Addr}{fd:FuncData}{ps ks:List Str}{sp:Sp}{E:XK}{x m:Str}{p pos apos kpos:Pos}{e o:Expr}{es:List Expr}{kws:List Keyword}{te ta:TE}{t tk:TA}{nm:Option Str}
variable {g:List Value->List Value->List Value}{gV:List V->List V->List V}
end
structure ba (N P:List Str)(sc:Scope):Prop where
 kind:sc.kind=.function
 co:sc.isCoroutine=false
 gen:sc.isGenerator=false
 nd:N.Nodup
 pre:N.take P.length=P
 par:∀ x∈P,sc.names.lookup x=some .local\/sc.names.lookup x=some .cell
 nofree:∀ y∈sc.names,y.2≠.free
theorem qw{kindOf:Str->Option NameKind}:∀{binds:List (Str×Value)}{m:Str->Option Value},(∀ v,(x,v)∉binds)->bindL kindOf binds m x=m x
 | [],_,_=>rfl
 | (n,v)::r,m,h=>by
  unfold bindL;rw[qw fun w hw=>h w (Dr _ hw)]
  split
  ·have:x≠n:=by rintro rfl;exact h v Dm
   simp [this]
  ·rfl
theorem so{kindOf:Str->Option NameKind}:∀{binds:List (Str×Value)}{m:Str->Option Value},(∀ v,(x,v)∉binds)->bindC kindOf binds m x=m x
 | [],_,_=>rfl
 | (n,v)::r,m,h=>by
  unfold bindC;rw[so fun w hw=>h w (Dr _ hw)]
  split
  ·rfl
  ·have:x≠n:=by rintro rfl;exact h v Dm
   simp [this]
theorem tK{kindOf:Str->Option NameKind}:∀{P:List Str}{vs:List Value}{i:Nat}{m:Str->Option Value},P.Nodup->P[i]? =some x->vs[i]? =some v->kindOf x=some .local →
  bindL kindOf (P.zip vs) m x=some v
 | [],_,_,_,_,h,_,_=>by simp at h
 | _::_,[],_,_,_,_,h,_=>by simp at h
 | p::P,w::vs,0,m,nd,h1,h2,hk=>by
  simp at h1 h2;subst h1;subst h2
  show bindL kindOf ((p,w)::P.zip vs) m p=_
  unfold bindL;rw[qw fun v hv=>(Eu.mp nd).1 (List.of_mem_zip hv).1,if_pos hk]
  simp
 | p::P,w::vs,i+1,m,nd,h1,h2,hk=>by
  show bindL kindOf ((p,w)::P.zip vs) m x=_
  unfold bindL;exact tK (i:=i) (Eu.mp nd).2 (by simpa using h1) (by simpa using h2) hk
theorem tD{kindOf:Str->Option NameKind}:∀{P:List Str}{vs:List Value}{i:Nat}{m:Str->Option Value},P.Nodup->P[i]? =some x->vs[i]? =some v->kindOf x≠some .local →
  bindC kindOf (P.zip vs) m x=some v
 | [],_,_,_,_,h,_,_=>by simp at h
 | _::_,[],_,_,_,_,h,_=>by simp at h
 | p::P,w::vs,0,m,nd,h1,h2,hk=>by
  simp at h1 h2;subst h1;subst h2
  show bindC kindOf ((p,w)::P.zip vs) m p=_
  unfold bindC;rw[so fun v hv=>(Eu.mp nd).1 (List.of_mem_zip hv).1,if_neg hk]
  simp
 | p::P,w::vs,i+1,m,nd,h1,h2,hk=>by
  show bindC kindOf ((p,w)::P.zip vs) m x=_
  unfold bindC;exact tD (i:=i) (Eu.mp nd).2 (by simpa using h1) (by simpa using h2) hk
noncomputable def start (N:List Str)(vs:List V):St:=vs.map some++List.replicate (N.length-vs.length) none
noncomputable def eU (CX:CXT)(P:Program)(w:World)(K:PySem.W.Frag)(mg:Str->Option Value)(base:Heap)(N:List Str)(qual:Str)(scope:Scope)(f:Addr)(cd:Value)(A:Around)(outer:List Env)(s:Shared)(H:Hp)(E:XK):Cx where
 prog:=P
 w:=w
 K:=K
 mg:=mg
 base:=base
 A:=A.deeper (envOfC qual scope s.heap.objs.size f cd)
 N:=N
 s₀:=s
 H₀:=H
 env:=envOfC qual scope s.heap.objs.size f cd
 outer:=outer
 stack:=envOfC qual scope s.heap.objs.size f cd::outer
 ex:=[]
 calm:=true
 fn:=fun _=>true
 pn:=[]
 xe:=fun e s'=>wpAny (model P w) (A.deeper (envOfC qual scope s.heap.objs.size f cd)) (leaving (envOfC qual scope s.heap.objs.size f cd) e) (fun _ s''=>CX outer H s E e s'') (fun e' s''=>CX outer H s E e' s'') s'
theorem qu{sc:Scope}(h:sc.names.lookup x=some .cell):∃ c,(cellsFrom n sc.names []).lookup x=some c:=by
 have q:=PySem.W.cellsFrom_some sc.names n [] (.inl h);exact Option.isSome_iff_exists.mp q
theorem zE{CX:CXT}{K:PySem.W.Frag}{cd:Value}{outer:List Env}{s1:Shared}{H:Hp}{E:XK}{vs:List V}(S:ba N ps scope)(hd:A.handled=none)(e0:dF P w K mg base A outer s H)(hl:vs.length=ps.length)(r:Vals vs us)(x:InCallC s s.heap.objs.size (bindL (envOfC qual scope s.heap.objs.size f cd).kindOf (ps.zip us) fun _=>none) (cellsFrom (s.heap.objs.size+1) scope.names []) (bindC (envOfC qual scope s.heap.objs.size f cd).kindOf (ps.zip us) fun _=>none) s1) :
  Inv (eU CX P w K mg base N qual scope f cd A outer s H E) [] (start N vs) H s1:=by
 have hpl:ps.length<=N.length:=by have:=congrArg List.length S.pre;rw[Et]at this;lia
 obtain⟨h1,tk,rfl,hk⟩:=x.done;have noA:∀ b:Addr,b∉(eU CX P w K mg base N qual scope f cd A outer s H E).ex:=fun b z=>absurd (show b∈([]:List Addr) from z) (by simp)
 refine⟨⟨e0.mod,S.kind,rfl,rfl,Di _,fun y z c h1 h2=>?_,fun y hy=>?_,fun y c _ h=>?_,fun _=>hd,Around.frames_deeper e0.frames,.inr ⟨rfl,rfl⟩,fun b z=>absurd z (noA b),e0.bs,e0.bsz,fun b _ _=>noA b,fun b z=>absurd z (noA b),e0.cm,e0.frf⟩,
  rfl,e0.bare,Un.kept hk,⟨_,x.toInCall.ns,fun i y v h1 h2 h3=>?_⟩,fun y c h=>⟨_,x.cell y c h⟩,e0.hok.fresh (Di _),fun y c h=>?_,fun p hp=>absurd (show p∈([]:List (Addr×Obj)) from hp) (by simp),e0.hok.kept hk,?_⟩
 ·exact name_of_addr x.apart (PySem.mem_of_lookup h1) (PySem.mem_of_lookup h2)
 ·have hy:scope.names.lookup y=some .cell\/scope.names.lookup y=some .free:=hy;rcases hy with hy|hy
  ·exact qu hy
  ·exact absurd rfl (S.nofree _ (PySem.mem_of_lookup hy))
 ·exact Fe (x.above y c (PySem.mem_of_lookup h))
 ·have hi:i<vs.length:=by
   unfold start at h2
   by_cases hi:i<vs.length
   ·exact hi
   ·rw[El (by simpa using hi)]at h2
    rw[List.getElem?_replicate]at h2
    split at h2 <;> cases h2
  have ha:vs[i]? =some v:=by
   unfold start at h2;rw[Ep (by simpa using hi),Dq]at h2
   cases e:vs[i]? with
   | none=>rw[e]at h2;cases h2
   | some a=>rw[e]at h2;cases h2;rfl
  obtain⟨u,hu,rv⟩:=r.get ha;have hp:ps[i]? =some y:=by
   rw[<-S.pre,List.getElem?_take_of_lt (by lia)];exact h1
  have ndP:ps.Nodup:=by rw[<-S.pre];exact S.nd.sublist (List.take_sublist _ _)
  refine⟨u,rv,?_⟩;rcases S.par y (Dw hp) with k|k
  ·exact .inl ⟨k,tK ndP hp hu k⟩
  ·obtain⟨c,e⟩:=qu (n:=s.heap.objs.size+1) k;refine .inr ⟨.inl k,c,e,?_⟩;have q:=x.cell y c e;rw[tD ndP hp hu (by show scope.names.lookup y≠_;rw[k];decide)]at q
   exact q
 ·exact e0.hok.fresh (Fe (x.above y c (PySem.mem_of_lookup h)))
 ·unfold start;show _=N.length
  rw[Dl,Dd,List.length_replicate];lia
theorem rS{CX:CXT}{K:PySem.W.Frag}{k:Nat}{name:Str}{params:Arguments}{dV kV doc cdv ct oc:Value}{an od:Option Addr}{osl:Array (Option Value)}{sp:Sp}(lk:K.lookup f=some ⟨oc,od,.func (PySem.W.fnOf name qual params body scope dV kV doc pm an cdv ct),osl⟩)(hcd:PySem.W.codeIn K cdv qual=true)(S:ba N ps scope)(len:∀ vs H Q E,sp vs H Q E->vs.length=ps.length)(hbody:∀(A:Around)(outer:List Env)(s:Shared)(H:Hp)(vs:List V)(Q:VK)(E:XK),aA k (A.deeper (envOfC qual scope s.heap.objs.size f cdv))->sp vs H Q E →
   ∃ t,PSs (eU CX P w K mg base N qual scope f cdv A outer s H E) body t/\t { nx:=fun _ H'=>Q .non H',rt:=Q } (start N vs) H) :
  ar P w K mg base CX (k+1) f (PySem.W.fnOf name qual params body scope dV kV doc pm an cdv ct) ps sp:=by
 refine⟨len,fun A outer s H args us vs Q E hr e0 hb r hsp=>?_⟩
 have hl:=len _ _ _ _ hsp;have KX:K.In s.heap:=e0.mod.kin.keeps fun b o e=>(e0.bs b o e).1
 have lim:s.heap.NoLimit:=e0.mod.nolimit.keeps fun b o e=>(e0.bs b o e).1
 have hkind:∀ y∈ps.zip us,scope.names.lookup y.1=some .local\/(scope.names.lookup y.1=some .cell/\((cellsFrom (s.heap.objs.size+1) scope.names []).lookup y.1).isSome=true):=fun⟨n,v⟩ hy=>by
  rcases S.par n (List.of_mem_zip hy).1 with q|q
  ·exact .inl q
  ·exact .inr ⟨q,PySem.W.cellsFrom_some _ _ _ (.inl q)⟩
 refine codeAny_call_function hr.depth (KX _ _ lk) rfl S.co S.gen rfl (PySem.W.codeRec_of KX hcd) (hb _ _ _ _ ?_);refine wpAny_newFunctionEnv_cells S.kind hkind fun env he s1 x=>?_
 subst he;refine⟨lim.keeps x.toInCall.keep,codeAny_func ?_⟩;obtain⟨t,ht,hq⟩:=hbody A outer s H vs Q E (hr.deeper _) hsp;have I:Inv (eU CX P w K mg base N qual scope f cdv A outer s H E) [] (start N vs) H s1:=zE S hr.hd e0 hl r x;refine EA (ht [] s1 (start N vs) H _ I hq) (fun fl s' hs=>?_) fun e s' hs=>hs
 have fin:∀{σ':St} {H':Hp} {v:V} {u:Value},Inv (eU CX P w K mg base N qual scope f cdv A outer s H E) [] σ' H' s'->RelV v u->Q v H'->CE outer P w H s Q u s':=
  fun {σ' H' v u} J rv q=>⟨v,H',J.os,J.bare,J.base,J.hok,rv,q⟩
 cases fl with
 | ret u=>
  obtain⟨v,σ',H',J,rv,q⟩:=hs;exact fin J rv q
 | next=>
  obtain⟨σ',H',J,q⟩:=hs;exact fin (v:=V.non) (u:=Value.none) J rfl q
 | brk=>
  obtain⟨_,_,_,q⟩:=hs;exact False.elim q
 | cont=>
  obtain⟨_,_,_,q⟩:=hs;exact False.elim q
section
variable {X:Cx}{x:Str}{p pos:Pos}{e:Expr}{es:List Expr}{t:TA}{id T:String}{r:List V->Hp->VK->Prop}
noncomputable def tCB (r:List V->Hp->VK->Prop)(t:TA):TE:=fun σ H Q=>t σ H fun vs H1=>r vs H1 Q
theorem nr(hc:aD X (.builtin id) r)(hg:Gl X x)(hm:X.mg x=none)(hv:bootBuiltins x=some (.builtin id))(ha:PA X (e::es) t)(hn:x≠"__name__":=by decide) (hdb:(x==("__debug__":Str))=false:=by decide) (he:starEach (e::es) X.env=(false,eval e X.env)::starEach es X.env:=by rfl) (hpl:(backTo pos (starEach es X.env)).any (·.1)=false:=by rfl):PE X (.Call (.Name x p) (e::es) [] pos) (tCB r t):=by
 intro pins s σ H Q I h;refine Ff (fb I hg hm hv ?_ hn hdb);exact PyProof.Rows.callWith_builtin1 (thn (ha pos pins s σ H _ I h) fun us s1 ⟨vs,H1,I1,r1,q1⟩=>hc pins s1 σ H1 vs us Q I1 r1 q1) he hpl
theorem kY(hc:aD X (.type T) r)(hg:Gl X x)(hm:X.mg x=none)(hv:bootBuiltins x=some (.type T))(ha:PA X (e::es) t)(hn:x≠"__name__":=by decide) (hdb:(x==("__debug__":Str))=false:=by decide) (he:starEach (e::es) X.env=(false,eval e X.env)::starEach es X.env:=by rfl) (hpl:(backTo pos (starEach es X.env)).any (·.1)=false:=by rfl):PE X (.Call (.Name x p) (e::es) [] pos) (tCB r t):=by
 intro pins s σ H Q I h;refine Ff (fb I hg hm hv ?_ hn hdb);exact PyProof.Rows.callWith_type1 (thn (ha pos pins s σ H _ I h) fun us s1 ⟨vs,H1,I1,r1,q1⟩=>hc pins s1 σ H1 vs us Q I1 r1 q1) he hpl
end
end L2
end
section
namespace SB
open PySem PySem.W PySem.Calls PyProof.Rows
section
variable {prog:Program}{w:World}{A:Around}{E:Value->Shared->Prop}{s:Shared}
theorem mJ{k k':Ky}(hu:L2.bq k u=true)(hv:L2.bq k' v=true)(hs:isI k=isI k'){C:Bool->Shared->Prop}(h:C (kLt k k') s):wpAny (model prog w) A (keyLt' oneType' u v) C E s:=by
 rcases L2.br hu with⟨i,t,rfl,rfl⟩|⟨x,t,rfl,rfl⟩
 ·rcases L2.br hv with⟨j,t',rfl,rfl⟩|⟨y,t',rfl,rfl⟩
  ·exact kat_lt_int h
  ·cases hs
 ·rcases L2.br hv with⟨j,t',rfl,rfl⟩|⟨y,t',rfl,rfl⟩
  ·cases hs
  ·exact kas_lt_str h
theorem B3{k k':Ky}(hu:L2.bq k u=true)(hv:L2.bq k' v=true)(hs:isI k=isI k')(b:Bool){C:Bool->Shared->Prop}(h:C (kLt k k') s):wpAny (model prog w) A (oneLt' b u v) C E s:=by
 rcases L2.br hu with⟨i,t,rfl,rfl⟩|⟨x,t,rfl,rfl⟩
 ·rcases L2.br hv with⟨j,t',rfl,rfl⟩|⟨y,t',rfl,rfl⟩
  ·cases b
   ·exact kat_one _ _ (lt_int h)
   ·exact oneLt_int h
  ·cases hs
 ·rcases L2.br hv with⟨j,t',rfl,rfl⟩|⟨y,t',rfl,rfl⟩
  ·cases hs
  ·cases b
   ·exact kat_one _ _ (lt_str h)
   ·exact oneLt_str h
theorem uz{b fin:Bool}{C:Bool->Shared->Prop}:∀{ks ks':List Ky}{vs vs':List Value}(i:Nat),ItemsAre (L2.au prog w) ks vs->ItemsAre (L2.au prog w) ks' vs'->ks.map isI=ks'.map isI->(ks=[]->ks'=[]->fin=false)->C (cD ks ks') s->(ks.length=ks'.length) →
  (fin=false)->KatLex prog w A b fin C (vs.zip vs') i s:=by
 intro ks;induction ks with
 | nil=>
  intro ks' vs vs' i a1 a2 hsh _ h hl hf;cases ks' with
  | nil=>
   cases a1
   cases a2
   rw[hf];exact h
  | cons=>cases hl
 | cons k ks ih=>
  intro ks' vs vs' i a1 a2 hsh _ h hl hf;cases ks' with
  | nil=>cases hl
  | cons k' ks'=>
   cases a1 with
   | cons h1 t1=>
    cases a2 with
    | cons h2 t2=>
     rw[Dk,Dk]at hsh;injection hsh with hs1 hs2;rw[List.zip_cons_cons];refine kat_cons ((L2.au prog w).eqBool h1 h2 ?_);unfold cD at h
     by_cases q:k=k'
     ·subst q;rw[if_pos rfl]at h;rw[show decide (k=k)=true from DB rfl]
      exact kat_yes (ih (i+1) t1 t2 hs2 (fun _ _=>hf) h (by simpa using hl) hf)
     ·rw[if_neg q]at h;rw[DT q];exact kat_no (B3 h1 h2 hs1 _ h)
theorem wm{ks ks':List Ky}{a':Addr}(ht:IsTupleKey (L2.au prog w) s.heap ks a)(ht':IsTupleKey (L2.au prog w) s.heap ks' a')(hsh:ks.map isI=ks'.map isI)(b:Bool){C:Bool->Shared->Prop}(h:C (cD ks ks') s) :
  wpAny (model prog w) A (keyLt' (tuples' b) (.ref a) (.ref a')) C E s:=by
 obtain⟨o,items,n,ho,hc,hd,hi⟩:=ht;obtain⟨o',items',n',ho',hc',hd',hi'⟩:=ht';have hl:ks.length=ks'.length:=by have:=congrArg List.length hsh;simpa using this
 have hf:decide (items.size<items'.size)=false:=by
  have h1:=hi.length;have h2:=hi'.length;have e1:items.toList.length=items.size:=by simp
  have e2:items'.toList.length=items'.size:=by simp
  exact DT (by lia)
 exact kat_lt ho hd ho' hd' (uz 0 hi hi' hsh (fun _ _=>hf) h hl hf)
theorem ma{ys:List (Ky×Value)}{b:Bool}(hk:∀ p∈ys,L2.bq p.1 p.2=true/\isI p.1=b)(h2:2<=ys.length){Q:SortKind->Shared->Prop}(h:Q oneType' s):wpAny (model prog w) A (keyKind' (ys.map (·.2)).toArray) Q E s:=by
 refine kas_kind (T:=if b then Value.type "int" else Value.type "str") (by rw[Dd];exact h2) (fun v hv=>?_) (by cases b <;> decide) (by cases b <;> decide) h
 obtain⟨p,hp,rfl⟩:=Dg.mp hv;obtain⟨h1,h3⟩:=hk p hp;rcases L2.br h1 with⟨i,t,e1,e2⟩|⟨x,t,e1,e2⟩
 ·rw[e1]at h3;have h3:true=b:=h3;subst h3;rw[e2];exact .now
 ·rw[e1]at h3;have h3:false=b:=h3;subst h3;rw[e2];exact .now
theorem xy{ys:List (List Ky×Value)}{sh:List Bool}(hk:∀ p∈ys,(∃ a,p.2=.ref a/\IsTupleKey (L2.au prog w) s.heap p.1 a)/\p.1.map isI=true::sh)(h2:2<=ys.length){Q:SortKind->Shared->Prop}(h:Q (tuples' true) s) :
  wpAny (model prog w) A (keyKind' (ys.map (·.2)).toArray) Q E s:=by
 have hall:∀(zs:List (List Ky×Value)),(∀ p∈zs,(∃ a,p.2=.ref a/\IsTupleKey (L2.au prog w) s.heap p.1 a)/\p.1.map isI=true::sh)->∃ fs:List Value,fs.length=zs.length/\KatTups s.heap (zs.map (·.2)) fs/\∀ f∈fs,∃ i t,f=Value.int i t:=by
  intro zs;induction zs with
  | nil=>intro _;exact⟨[],rfl,KatTups.nil,fun f hf=>by cases hf⟩
  | cons z zs ih=>
   intro hz;obtain⟨fs,l1,l2,l3⟩:=ih fun p hp=>hz p (Dr _ hp)
   obtain⟨⟨a,e,o,items,n,ho,hc,hd,hi⟩,hsh⟩:=hz z (Dm ..);obtain⟨zk,zv⟩:=z
   simp only at e hi hsh
   subst e;cases zk with
   | nil=>cases hsh
   | cons k0 kr=>
    rw[Dk]at hsh;injection hsh with hs1 hs2;generalize hIt:items.toList=its at hi;cases hi with
    | @cons _ v0 _ vr h1 h2=>
     obtain⟨i,t,e1,e2⟩:∃ i t,k0=Sum.inl i/\v0=Value.int i t:=by
      rcases L2.br h1 with⟨i,t,e1,e2⟩|⟨x,t,e1,e2⟩
      ·exact⟨i,t,e1,e2⟩
      ·rw[e1]at hs1;cases hs1
     refine⟨v0::fs,by rw[DR,DR,l1],KatTups.cons ho hc hd ?_ l2,fun f hf=>?_⟩
     ·rw[<-DK,hIt];rfl
     ·rcases DG.mp hf with rfl|hf
      ·exact⟨i,t,e2⟩
      ·exact l3 f hf
 obtain⟨fs,l1,l2,l3⟩:=hall ys hk;refine kat_kind (T:=Value.type "int") l2 (by lia) (fun v hv=>?_) (by decide) ?_
 ·obtain⟨i,t,rfl⟩:=l3 v hv;exact .now
 ·exact h
end
end SB
end
section
namespace HT
open PySem PyProof.Rows
section
open PySem.SeqAt
open PySem.AutoSeq1 (wpAny_loadPart')
open PySem.MeetsSeq PySem.MeetsSeq2 PySem.MeetsSeq3
end
section
variable {prog:Program}{w:World}{A:Around}{E:Value->Shared->Prop}{s:Shared}
noncomputable def sIx (n d:Nat):Option Int->Nat
 | none=>d
 | some v=>if v<0 then(v+(n:Int)).toNat else min v.toNat n
theorem zq(n d:Nat):sIx n d none=d:=rfl
theorem lO(n d k:Nat):sIx n d (some (k:Int))=min k n:=by
 show(if (k:Int)<0 then((k:Int)+(n:Int)).toNat else min (k:Int).toNat n)=min k n
 rw[if_neg (by lia),Int.toNat_natCast]
theorem sIx_le(n d:Nat)(hd:d<=n)(o:Option Int):sIx n d o<=n:=by
 cases o with
 | none=>exact hd
 | some v=>
  show(if v<0 then(v+(n:Int)).toNat else min v.toNat n)<=n
  by_cases hv:v<0
  ·rw[if_pos hv];lia
  ·rw[if_neg hv];exact Nat.min_le_right _ _
end
end HT
namespace L2
open PySem PySem.Spec PyProof.Rows
noncomputable abbrev TO:=St->Hp->(Option Int->Hp->Prop)->Prop
noncomputable def PO (X:Cx)(e:Option Expr)(t:TO):Prop:=
 ∀(pins:List (Addr×Obj)) (s:Shared) (σ:St) (H:Hp) (Q:Option Int->Hp->Prop),Inv X pins σ H s->t σ H Q →
  wpAny (model X.prog X.w) X.A (evalPart e X.env) (fun u s'=>∃ o H',Inv X pins σ H' s'/\IsPart u o/\Q o H') X.xe s
noncomputable def C8:TO:=fun _ H Q=>Q none H
section
variable {X:Cx}{e:Expr}{te:TE}{lo hi:Option Expr}{tl th:TO}{pos p2:Pos}
theorem gX:PO X none C8:=by
 intro pins s σ H Q I h;rw[evalPart_none];exact Df ⟨none,H,I,.none,h⟩
noncomputable def SlR (X:Cx)(r:V->Option Int->Option Int->Hp->VK->Prop):Prop:=
 ∀(pins:List (Addr×Obj)) (s:Shared) (σ:St) (H:Hp) (x:V) (v vl vu:Value) (lo hi:Option Int) (sl:Addr) (Q:VK),Inv X pins σ H s->RelV x v->s.heap.IsSliceOf sl vl vu .none->IsPart vl lo->IsPart vu hi->r x lo hi H Q →
  ∃ T id,typeLookup (.type T) "__getitem__" = pure (some (.builtin id))/\s.TypeIs v T/\wpAny (model X.prog X.w) X.A (getItem v (.ref sl)) (EP X pins σ Q) X.xe s
noncomputable def tSl (r:V->Option Int->Option Int->Hp->VK->Prop)(te:TE)(tl th:TO):TE:=fun σ H Q=>te σ H fun x H1=>tl σ H1 fun l H2=>th σ H2 fun u H3=>r x l u H3 Q
theorem fz{r:V->Option Int->Option Int->Hp->VK->Prop}(hr:SlR X r)(he:PE X e te)(hl:PO X lo tl)(hu:PO X hi th):PE X (.Subscript e (.Slice lo hi none p2) pos) (tSl r te tl th):=by
 intro pins s σ H Q I h;refine Subscript_ (thn (he pins s σ H _ I h) fun v s1 hZ=>?_)
 obtain⟨x,H1,I1,r1,q1⟩:=hZ;refine wpAny_Slice (thn (hl pins s1 σ H1 _ I1 q1) fun vl s2 ⟨l,H2,I2,pl,q2⟩=>thn (hu pins s2 σ H2 _ I2 q2) fun vu s3 hZ=>?_)
 obtain⟨u,H3,I3,pu,q3⟩:=hZ;rw[evalPart_none];refine Df ?_;have I4:Inv X pins σ H3 { s3 with heap:=s3.heap.push { cls:=.type "slice",data:=.fields #[vl,vu,.none] } }:=I3.kept (t':=s3.toks) fun b ob q=>Dh _ q
 obtain⟨T,id,hT,ht,hg⟩:=hr pins { s3 with heap:=s3.heap.push { cls:=.type "slice",data:=.fields #[vl,vu,.none] } } σ H3 x v vl vu l u s3.heap.objs.size Q I4 r1 (Heap.IsSliceOf.new ..) pl pu q3
 show wpAny (model X.prog X.w) X.A (subscriptTail e (.Slice lo hi none p2) v (.ref s3.heap.objs.size)) (EP X pins σ Q) X.xe { s3 with heap:=s3.heap.push { cls:=.type "slice",data:=.fields #[vl,vu,.none] } }
 exact tail_any (ops:=[.ref s3.heap.objs.size,v]) ht hT hg (by with_unfolding_all rfl)
noncomputable def dq (xs:List V)(lo hi:Option Int):List V:=(xs.drop (HT.sIx xs.length 0 lo)).take (HT.sIx xs.length xs.length hi-HT.sIx xs.length 0 lo)
theorem vZ(xs:List V)(lo hi:Option Int):(dq xs lo hi).length<=xs.length:=by
 unfold dq;rw[Et,Fo];lia
end
noncomputable def ixN (n:Nat)(i:Int):Option Nat:=if 0<=i then(if i<n then some i.toNat else none) else if -(n:Int)<=i then some (i+n).toNat else none
noncomputable def atI {α:Type}(xs:List α)(i:Int):Option α:=(ixN xs.length i).bind fun j=>xs[j]?
theorem Cy{i:Int}(h:ixN n i=some j):seqIndex? i n=some j/\j<n/\-(n:Int)<=i/\i<n:=by
 unfold ixN at h
 by_cases h0:0<=i
 ·rw[if_pos h0]at h
  by_cases h1:i<n
  ·rw[if_pos h1]at h;have e:i.toNat=j:=DL h;exact⟨by rw[seqIndex_of h0 h1,e],by lia,by lia,h1⟩
  ·rw[if_neg h1]at h;cases h
 ·rw[if_neg h0]at h
  by_cases h1:-(n:Int)<=i
  ·rw[if_pos h1]at h;have e:(i+n).toNat=j:=DL h;exact⟨by rw[seqIndex_neg (by lia) h1,e],by lia,h1,by lia⟩
  ·rw[if_neg h1]at h;cases h
theorem nQ{α:Type}{xs:List α}{i:Int}{v:α}(h:atI xs i=some v):∃ j,seqIndex? i xs.length=some j/\xs[j]? =some v/\j<xs.length/\-(xs.length:Int)<=i/\i<xs.length:=by
 unfold atI at h;cases e:ixN xs.length i with
 | none=>rw[e]at h;cases h
 | some j=>
  rw[e]at h;obtain⟨h1,h2,h3,h4⟩:=Cy e;exact⟨j,h1,h,h2,h3,h4⟩
theorem gO{α:Type}{xs:List α}{v:α}(h:xs[j]? =some v):atI xs (j:Int)=some v:=by
 have hj:j<xs.length:=(DI.mp h).1;have e:ixN xs.length (j:Int)=some j:=by
  unfold ixN;rw[if_pos (by lia),if_pos (by lia)];simp
 unfold atI;rw[e];exact h
noncomputable def zf (b:Expr):Prop:=∀ o i,subscripted b false o i=operate [o,i] (getItem o i)
noncomputable def IxR (X:Cx)(r:R2):Prop:=
 ∀(value slice:Expr) (pins:List (Addr×Obj)) (s:Shared) (σ:St) (H:Hp) (x y:V) (v u:Value) (Q:VK),Inv X pins σ H s->RelV x v->RelV y u->r x y H Q →
  subscripted slice false v u=operate [v,u] (getItem v u)->wpAny (model X.prog X.w) X.A (subscriptTail value slice v u) (EP X pins σ Q) X.xe s
noncomputable def MtR (X:Cx)(id:String)(r:V->List V->Hp->VK->Prop):Prop:=
 ∀(pins:List (Addr×Obj)) (s:Shared) (σ:St) (H:Hp) (x:V) (xs:List V) (v:Value) (us:List Value) (Q:VK),Inv X pins σ H s->RelV x v->Vals xs us->r x xs H Q →
  wpAny (model X.prog X.w) X.A (call (.builtin id) (v::us)) (EP X pins σ Q) X.xe s
section
variable {X:Cx}{a b:Expr}{ta tb:TE}{pos:Pos}
theorem bD{r:R2}(hr:IxR X r)(ha:PE X a ta)(hb:PE X b tb)(hs:zf b):PE X (.Subscript a b pos) (tOp r ta tb):=by
 intro pins s σ H Q I h;exact Subscript_ (kS ha hb I h fun v u s2 x y H2 I2 rx ry q=>hr a b pins s2 σ H2 x y v u Q I2 rx ry q (hs _ _))
noncomputable def CB (K:PySem.W.Frag):R2:=fun x y H Q=>∃ p xs i v,x=.ref p/\y=.int i/\SqL K H p xs/\atI xs i=some v/\Q v H
noncomputable def vB (K:PySem.W.Frag):R2:=fun x y H Q=>∃ p xs i v,x=.ref p/\y=.int i/\SqT K H p xs/\atI xs i=some v/\Q v H
noncomputable def AI:R2:=fun x y H Q=>∃ z i c,x=.str z/\y=.int i/\z.length<=sizeLine/\atI z.cps.toList i=some c/\Q (.str ⟨#[c]⟩) H
theorem Bx:IxR X (CB X.K):=by
 intro value slice pins s σ H x y v u Q I rx ry h hs;obtain⟨p,xs,i,z,rfl,rfl,hq,he,q⟩:=h;cases rx
 obtain⟨t,rfl⟩:=ry;obtain⟨its,r,pl,hz⟩:=I.list hq;obtain⟨j,h1,h2,h3,h4,h5⟩:=nQ he;obtain⟨w,ew,rw'⟩:=r.get h2;have hl:=r.length;have hn:=fN;have fin:EP X pins σ Q w s:=⟨z,H,I,rw',q⟩
 by_cases h0:0<=i
 ·have hj:i.toNat=j:=by
   rw[seqIndex_of h0 h5]at h1;exact DL h1
  exact item_listR pl.isList h0 (by lia) (by rw[hj];simpa using ew) fin hs
 ·have hj:(i+(its.toArray.size:Int)).toNat=j:=by
   rw[seqIndex_neg (by lia) h4]at h1
   rw[D8,<-hl];exact DL h1
  exact subscriptTail_builtinR (x:=w) pl.isList.typeIs slot_list_getitem.lookup
   (wpAny_getItem_list_neg (Q:=fun r s'=>r=w/\EP X pins σ Q r s') pl.isList (by lia) (by rw[D8] <;> lia) (by lia) (by rw[hj];simpa using ew) ⟨rfl,fin⟩) hs
theorem zG:IxR X (vB X.K):=by
 intro value slice pins s σ H x y v u Q I rx ry h hs;obtain⟨p,xs,i,z,rfl,rfl,hq,he,q⟩:=h;cases rx
 obtain⟨t,rfl⟩:=ry;obtain⟨its,r,pl,hz⟩:=I.tuple hq;obtain⟨j,h1,h2,h3,h4,h5⟩:=nQ he;obtain⟨w,ew,rw'⟩:=r.get h2;have hl:=r.length;have hn:=fN;have fin:EP X pins σ Q w s:=⟨z,H,I,rw',q⟩;exact subscriptTail_builtinR (x:=w) pl.typeIs slot_tuple_getitem.lookup
  (getItem_tuple (j:=j) (Q:=fun r s'=>r=w/\EP X pins σ Q r s') pl (by lia) (by lia) (by rw[D8,<-hl];exact h1) (by simpa using ew) ⟨rfl,fin⟩) hs
theorem zI:IxR X AI:=by
 intro value slice pins s σ H x y v u Q I rx ry h hs;obtain⟨z,i,c,rfl,rfl,hz,he,q⟩:=h;obtain⟨t,rfl⟩:=rx;obtain⟨t',rfl⟩:=ry;obtain⟨j,h1,h2,h3,h4,h5⟩:=nQ he;have hl:z.cps.toList.length=z.length:=by simp [Str.length]
 rw[hl]at h1 h4 h5;have hn:=fN;exact tail_any (typeIs_str s z t) slot_str_getitem.lookup (getItem_str (c:=c) (by
  have e1:decide (i < -(2^63:Int))=false:=DT (by lia)
  have e2:decide (i ≥ 2^63)=false:=DT (by lia)
  rw[e1,e2,Bool.or_false]) (by rw[h1];simpa using h2) ⟨.str ⟨#[c]⟩,H,I.tok _,⟨_,rfl⟩,q⟩) hs
theorem Inv.lst{σ:St}{H:Hp}{xs:List V}(I:Inv X pins σ H s)(h:H p=some (.lst xs)) :
  ∃(its:List Value) (n:Nat),Vals xs its/\s.heap.get? p=some { cls:=.type "list",data:=.seq its.toArray n }/\xs.length<=sizeLine:=by
 obtain⟨z,its,n,r,e⟩:=I.hok p _ h;exact⟨its,n,r,e,z⟩
theorem uD(lo hi:Option Int)(n:Nat):(sliceBounds lo hi none n).1=((HT.sIx n 0 lo:Nat):Int)/\(sliceBounds lo hi none n).2.1=((HT.sIx n n hi:Nat):Int)/\(sliceBounds lo hi none n).2.2=1:=by
 refine⟨?_,?_,rfl⟩
 ·cases lo with
  | none=>simp [sliceBounds,HT.sIx]
  | some i=>
   simp only[sliceBounds,HT.sIx,Option.getD_none,show(1:Int) > 0 by decide,if_true]
   by_cases h:i<0
   ·simp only[h,if_true] <;> lia
   ·simp only[h,if_false] <;> lia
 ·cases hi with
  | none=>simp [sliceBounds,HT.sIx]
  | some i=>
   simp only[sliceBounds,HT.sIx,Option.getD_none,show(1:Int) > 0 by decide,if_true]
   by_cases h:i<0
   ·simp only[h,if_true] <;> lia
   ·simp only[h,if_false] <;> lia
theorem uZ(its:List Value)(lo hi:Option Int):slicePick its.toArray lo hi none=((its.drop (HT.sIx its.length 0 lo)).take (HT.sIx its.length its.length hi-HT.sIx its.length 0 lo)).toArray:=by
 obtain⟨h1,h2,h3⟩:=uD lo hi its.toArray.size;unfold slicePick;rw[h1,h2,h3];simp only[sliceRange_one,pick_run,D8] <;> rfl
noncomputable def Bs (K:PySem.W.Frag):V->Option Int->Option Int->Hp->VK->Prop:=fun x lo hi H Q=>∃ a xs,x=.ref a/\SqL K H a xs/\∀ p,H p=none->Q (.ref p) (upd H p (.lst (dq xs lo hi)))
theorem wq:SlR X (Bs X.K):=by
 intro pins s σ H x v vl vu lo hi sl Q I rx hs pl pu h;obtain⟨a,xs,rfl,hx,q⟩:=h;cases rx
 obtain⟨its,r,ht,hz⟩:=I.list hx;have hlen:=r.length;refine⟨"list",_,slot_list_getitem.lookup,ht.isList.typeIs,?_⟩
 refine wpAny_getItem_list_slice ht.isList hs pl pu .none (by simp) ?_ (by rw[D8] <;> lia)
 rw[uZ,<-hlen];refine⟨.ref s.heap.objs.size,_,I.laid (t':=s.toks) (o:=.lst (dq xs lo hi)) (fun b ob q=>Dh _ q) (Di _) ?_,rfl,q _ (I.hok.fresh (Di _))⟩
 exact⟨Ea (vZ xs lo hi) hz,_,0,(r.drop (HT.sIx xs.length 0 lo)).take (HT.sIx xs.length xs.length hi-HT.sIx xs.length 0 lo),DE _ rfl⟩
noncomputable def bI:V->Bool
 | .non=>true
 | .bl _=>true
 | .int _=>true
 | .str _=>true
 | _=>false
noncomputable def eqV:V->V->Bool
 | .non,.non=>true
 | .bl a,.bl b=>a==b
 | .bl a,.int b=>(if a then 1 else 0)==b
 | .int a,.bl b=>a==(if b then 1 else 0)
 | .int a,.int b=>a==b
 | .str a,.str b=>a==b
 | _,_=>false
theorem pq{y x:V}(ry:RelV y u)(rx:RelV x v)(fy:bI y=true)(fx:bI x=true):SeqAt.EqAt A s u v (eqV y x):=by
 cases y with
 | non=>
  cases ry
  cases x with
  | non=>cases rx;exact SeqAt.EqAt.same _
  | bl b=>cases rx;exact SeqAt.EqAt.none_bool b
  | int b=>obtain⟨t,rfl⟩:=rx;exact SeqAt.EqAt.none_int b t
  | str b=>obtain⟨t,rfl⟩:=rx;exact SeqAt.EqAt.none_str b t
  | _=>exact absurd (show false=true from fx) DQ
 | bl a=>
  cases ry
  cases x with
  | non=>cases rx;exact SeqAt.EqAt.bool_none a
  | bl b=>cases rx;exact SeqAt.EqAt.bool_bool a b
  | int b=>obtain⟨t,rfl⟩:=rx;exact SeqAt.EqAt.bool_int a b t
  | str b=>obtain⟨t,rfl⟩:=rx;exact SeqAt.EqAt.bool_str a b t
  | _=>exact absurd (show false=true from fx) DQ
 | int a=>
  obtain⟨t',rfl⟩:=ry;cases x with
  | non=>cases rx;exact SeqAt.EqAt.int_none a t'
  | bl b=>cases rx;exact SeqAt.EqAt.int_bool a t' b
  | int b=>obtain⟨t,rfl⟩:=rx;exact SeqAt.EqAt.int_int a t' b t
  | str b=>obtain⟨t,rfl⟩:=rx;exact SeqAt.EqAt.int_str a t' b t
  | _=>exact absurd (show false=true from fx) DQ
 | str a=>
  obtain⟨t',rfl⟩:=ry;cases x with
  | non=>cases rx;exact SeqAt.EqAt.str_none a t'
  | bl b=>cases rx;exact SeqAt.EqAt.str_bool a t' b
  | int b=>obtain⟨t,rfl⟩:=rx;exact SeqAt.EqAt.str_int a t' b t
  | str b=>obtain⟨t,rfl⟩:=rx;exact SeqAt.EqAt.str_str a t' b t
  | _=>exact absurd (show false=true from fx) DQ
 | _=>exact absurd (show false=true from fy) DQ
noncomputable def eqU (x:V)(u:Value):Bool:=match u with
 | .none=>eqV .non x
 | .bool b=>eqV (.bl b) x
 | .int i _=>eqV (.int i) x
 | .str z _=>eqV (.str z) x
 | _=>false
theorem oZ{x y:V}(r:RelV y u)(f:bI y=true):eqU x u=eqV y x:=by
 cases y with
 | non=>cases r;rfl
 | bl b=>cases r;rfl
 | int i=>obtain⟨t,rfl⟩:=r;rfl
 | str z=>obtain⟨t,rfl⟩:=r;rfl
 | _=>exact absurd (show false=true from f) DQ
theorem gR{x:V}:∀{xs:List V}{us:List Value},Vals xs us->xs.all bI=true->us.any (eqU x)=xs.any fun y=>eqV y x
 | _,_,.nil,_=>rfl
 | y::xs,u::us,.cons r t,f=>by
  rw[List.all_cons,Ey]at f;rw[Fn,Fn,oZ r f.1,gR t f.2]
theorem ij{x:V}(rx:RelV x v)(fx:bI x=true):∀{xs:List V}{us:List Value},Vals xs us->xs.all bI=true->∀ u∈us,SeqAt.EqAt A s u v (eqU x u)
 | _,_,.nil,_=>fun u hu=>by cases hu
 | y::xs,u::us,.cons r t,f=>fun u' hu=>by
  rw[List.all_cons,Ey]at f;rcases DG.mp hu with rfl|hu
  ·rw[oZ r f.1];exact pq r rx f.1 fx
  ·exact ij rx fx t f.2 u' hu
noncomputable def inV (x:V)(xs:List V):Bool:=xs.any fun y=>eqV y x
noncomputable def rIn (K:PySem.W.Frag)(neg:Bool):R2:=fun x y H Q=>∃ p xs,y=.ref p/\(SqL K H p xs\/SqT K H p xs)/\bI x=true/\xs.all bI=true/\Q (.bl (if neg then !inV x xs else inV x xs)) H
theorem rM:OpR X (compareOp .In) (rIn X.K false):=by
 intro pins s σ H x y v u Q I rx ry h;obtain⟨p,xs,rfl,hq,fx,fs,q⟩:=h;cases ry
 rcases hq with hq|hq
 ·obtain⟨its,r,pl,hz⟩:=I.list hq;refine SeqAt.in_listAt (eqU x) pl.isList (fun w hw=>ij rx fx r fs w (by simpa using hw)) ⟨.bl _,H,I,rfl,?_⟩
  rw[show its.toArray.any (eqU x)=its.any (eqU x) by simp,gR r fs]
  exact q
 ·obtain⟨its,r,pl,hz⟩:=I.tuple hq;refine SeqAt.in_tupleAt (eqU x) pl (fun w hw=>ij rx fx r fs w (by simpa using hw)) ⟨.bl _,H,I,rfl,?_⟩
  rw[show its.toArray.any (eqU x)=its.any (eqU x) by simp,gR r fs]
  exact q
theorem yA:OpR X (compareOp .NotIn) (rIn X.K true):=by
 intro pins s σ H x y v u Q I rx ry h;obtain⟨p,xs,rfl,hq,fx,fs,q⟩:=h;cases ry
 rcases hq with hq|hq
 ·obtain⟨its,r,pl,hz⟩:=I.list hq;refine SeqAt.notIn_listAt (eqU x) pl.isList (fun w hw=>ij rx fx r fs w (by simpa using hw)) ⟨.bl _,H,I,rfl,?_⟩
  rw[show its.toArray.any (eqU x)=its.any (eqU x) by simp,gR r fs]
  exact q
 ·obtain⟨its,r,pl,hz⟩:=I.tuple hq;refine SeqAt.notIn_tupleAt (eqU x) pl (fun w hw=>ij rx fx r fs w (by simpa using hw)) ⟨.bl _,H,I,rfl,?_⟩
  rw[show its.toArray.any (eqU x)=its.any (eqU x) by simp,gR r fs]
  exact q
theorem qm:aD X (.builtin "len") (fun xs H Q=>∃ p ys,xs=[.ref p]/\(SqL X.K H p ys\/SqT X.K H p ys)/\Q (.int ys.length) H):=by
 intro pins s σ H xs us Q I r h;obtain⟨p,ys,rfl,hq,q⟩:=h;obtain⟨u,rfl,rx⟩:=vals1 r;cases rx
 have hn:=fN;rcases hq with hq|hq
 ·obtain⟨its,r',pl,hz⟩:=I.list hq;have hlen:=r'.length;exact Calls.call_len_list pl.isList (by simp only[D8] <;> lia) ⟨.int ys.length,H,I.tok _,⟨s.toks+1,by rw[D8,hlen]⟩,q⟩
 ·obtain⟨its,r',pl,hz⟩:=I.tuple hq;have hlen:=r'.length;exact len_tuple pl (by simp only[D8] <;> lia) ⟨.int ys.length,H,I.tok _,⟨s.toks+1,by rw[D8,hlen]⟩,q⟩
theorem zF:aD X (.builtin "len") (fun xs H Q=>∃ z,xs=[.str z]/\z.length<=sizeLine/\Q (.int z.length) H):=by
 intro pins s σ H xs us Q I r h;obtain⟨z,rfl,hz,q⟩:=h;obtain⟨u,rfl,t,rfl⟩:=vals1 r;have hn:=fN;exact len_str (by lia) ⟨.int z.length,H,I.tok _,⟨_,rfl⟩,q⟩
theorem sF:aD X (.type "list") (fun xs H Q=>∃ p ys,xs=[.ref p]/\(SqL X.K H p ys\/SqT X.K H p ys)/\∀ l,H l=none->Q (.ref l) (upd H l (.lst ys))):=by
 intro pins s σ H xs us Q I r h;obtain⟨p,ys,rfl,hq,q⟩:=h;obtain⟨u,rfl,rx⟩:=vals1 r;cases rx
 have fin:∀(its:List Value),Vals ys its->ys.length<=sizeLine->∀(h':Heap) (c':Nat),(∀ b o',s.heap.get? b=some o'->h'.get? b=some o') →
   h'.get? s.heap.objs.size=some { cls:=.type "list",dict:=none,data:=.seq its.toArray c',slots:=#[] }->EP X pins σ Q (.ref s.heap.objs.size) { s with heap:=h' }:=fun its r' hz h' c' kp e=>
  ⟨.ref s.heap.objs.size,_,I.laid (t':=s.toks) kp (Di _) (show aj X.prog X.w _ h' _ (.lst ys) from⟨hz,its,c',r',e⟩),rfl,q _ (I.hok.fresh (Di _))⟩
 rcases hq with hq|hq
 ·obtain⟨its,r',pl,hz⟩:=I.list hq;have hlen:=r'.length;obtain⟨o,ho,hc,n,hd⟩:=pl.isList;exact call_list_seq p (.inl rfl) ho hc hd (fun h' c' kp e=>fin its r' hz h' c' kp e) (by simp only[D8] <;> lia)
 ·obtain⟨its,r',pl,hz⟩:=I.tuple hq;have hlen:=r'.length;obtain⟨o,ho,hc,n,hd⟩:=pl;exact call_list_seq p (.inr rfl) ho hc hd (fun h' c' kp e=>fin its r' hz h' c' kp e) (by simp only[D8] <;> lia)
theorem AH:aD X (.type "tuple") (fun xs H Q=>∃ p ys,xs=[.ref p]/\((SqL X.K H p ys/\∀ l,H l=none->Q (.ref l) (upd H l (.tup ys)))\/(SqT X.K H p ys/\Q (.ref p) H))):=by
 intro pins s σ H xs us Q I r h;obtain⟨p,ys,rfl,h⟩:=h;obtain⟨u,rfl,rx⟩:=vals1 r;cases rx
 rcases h with⟨hq,q⟩|⟨hq,q⟩
 ·obtain⟨its,r',pl,hz⟩:=I.list hq;have hlen:=r'.length;refine call_tuple_list pl.isList (fun h' kp=>?_) (by simp only[D8] <;> lia)
  have I1:Inv X pins σ H { s with heap:=h' }:=I.kept (t':=s.toks) kp;have I2:Inv X pins σ (upd H h'.objs.size (.tup ys)) { s with heap:=h'.push { cls:=.type "tuple",data:=.seq its.toArray } }:=
   I1.laid (t':=s.toks) (fun b o e=>Dh _ e) (Di _) (show aj X.prog X.w _ _ _ (.tup ys) from⟨hz,its,r',IsTup.new _ _⟩)
  exact⟨.ref h'.objs.size,_,I2,rfl,q _ (I1.hok.fresh (Di _))⟩
 ·obtain⟨its,r',pl,hz⟩:=I.tuple hq;exact call_tuple_same pl ⟨.ref p,H,I,rfl,q⟩
noncomputable def tyV (K:PySem.W.Frag)(T:String)(x:V)(H:Hp):Prop:=match x with
 | .str _=>T = "str"
 | .int _=>T = "int"
 | .ref p=>(T = "list"/\∃ xs,SqL K H p xs)\/(T = "tuple"/\∃ o,K.lookup p=some o/\o.cls=.type "tuple"/\o.dict=none) ∨
   (T = "dict"/\((∃ kvs,H p=some (.dK kvs))\/∃ kvs,H p=some (.dT kvs)))\/(T = "set"/\∃ S n,H p=some (.set S n))
 | _=>False
theorem si{σ:St}{H:Hp}{T:String}{x:V}(I:Inv X pins σ H s)(r:RelV x v)(ty:tyV X.K T x H) :
  s.TypeIs v T/\∀ a,v=.ref a->∃ ob,s.heap.get? a=some ob/\ob.dict=none:=by
 cases x with
 | str z=>
  obtain⟨t,rfl⟩:=r;cases (show T = "str" from ty)
  exact⟨typeIs_str s z t,fun _ e=>nomatch e⟩
 | int i=>
  obtain⟨t,rfl⟩:=r;cases (show T = "int" from ty)
  exact⟨typeIs_int s i t,fun _ e=>nomatch e⟩
 | ref p=>
  cases r
  rcases ty with⟨rfl,xs,hq⟩|⟨rfl,o,hk,hc,hd⟩|⟨rfl,hk⟩|⟨rfl,S,n,hk⟩
  ·obtain⟨its,_,pl,_⟩:=I.list hq;refine⟨pl.isList.typeIs,fun a e=>?_⟩
   cases e
   obtain⟨o,n,e,c,hd,_⟩:=pl;exact⟨o,e,hd⟩
  ·refine⟨⟨o,I.kIn p o hk,hc⟩,fun a e=>?_⟩
   cases e
   exact⟨o,I.kIn _ o hk,hd⟩
  ·have z:∃ o,s.heap.get? p=some o/\o.ExactDict:=by
    rcases hk with⟨kvs,hk⟩|⟨kvs,hk⟩
    ·obtain⟨_,_,_,_,o,_,_,e,ex,_⟩:=I.hok p _ hk;exact⟨o,e,ex⟩
    ·obtain⟨_,_,_,_,o,_,_,e,ex,_⟩:=I.hok p _ hk;exact⟨o,e,ex⟩
   obtain⟨o,e,ex⟩:=z;refine⟨⟨o,e,ex.1⟩,fun a e2=>?_⟩
   cases e2
   exact⟨o,e,ex.2.1⟩
  ·obtain⟨o,_,_,_,e,ex,_⟩:=I.hok p _ hk;refine⟨⟨o,e,ex.1⟩,fun a e2=>?_⟩
   cases e2
   exact⟨o,e,ex.2.1⟩
 | _=>exact False.elim ty
noncomputable def oP (K:PySem.W.Frag)(T:String)(r:V->List V->Hp->VK->Prop)(to:TE):TE:=fun σ H Q=>to σ H fun x H1=>tyV K T x H1/\r x [] H1 Q
noncomputable def tBM (K:PySem.W.Frag)(T:String)(r:V->List V->Hp->VK->Prop)(to:TE)(t:TA):TE:=fun σ H Q=>to σ H fun x H1=>tyV K T x H1/\t σ H1 fun xs H2=>r x xs H2 Q
variable {o e:Expr}{es:List Expr}{to:TE}{t:TA}{name:Str}{apos cpos:Pos}{T id:String}{r:V->List V->Hp->VK->Prop}
theorem rD(pa:PlainAttrs T)(slot:Slot T name id)(hty:typeOf (.builtin id)=pure (.type "method_descriptor")) (hm:MtR X id r) (ho:PE X o to) (hbase:attributeBase o name X.env (eval o X.env)=eval o X.env:=by rfl) (hline:(apos.endLine==cpos.line)=true:=by rfl):PE X (.Call (.Attribute o name apos) [] [] cpos) (oP X.K T r to):=by
 intro pins s σ H Q I h;refine wpAny_Call_method0_late hbase hline (thn (ho pins s σ H _ I h) fun v s1 hZ=>?_)
 obtain⟨x,H1,I1,r1,ty,q1⟩:=hZ;obtain⟨h1,h2⟩:=si I1 r1 ty;exact⟨T,id,pa,slot,hty,h1,h2,Calls.callWith_builtin rfl (PySem.evalArgs_none (hm pins s1 σ H1 x [] v [] Q I1 r1 .nil q1))⟩
theorem Cz(pa:PlainAttrs T)(slot:Slot T name id)(hty:typeOf (.builtin id)=pure (.type "method_descriptor")) (hm:MtR X id r) (ho:PE X o to) (ha:PA X (e::es) t) (hbase:attributeBase o name X.env (eval o X.env)=eval o X.env:=by rfl) (hfew:((backTo cpos (starEach (e::es) X.env)).all (fun x=>!x.1)&&(backToKw cpos (keywordEach [] X.env)).all (fun x=>x.1.isSome)
   &&decide ((e::es).length+([]:List Keyword).length+(if ([]:List Keyword).isEmpty then 0 else 1)<30))=true:=by rfl) (hline:(apos.endLine==cpos.line)=true:=by rfl) (hs:starEach (e::es) X.env=(false,eval e X.env)::starEach es X.env:=by rfl) (hplain:(backTo cpos (starEach es X.env)).any (·.1)=false:=by rfl) :
  PE X (.Call (.Attribute o name apos) (e::es) [] cpos) (tBM X.K T r to t):=by
 intro pins s σ H Q I h;refine wpAny_Call_method_late hbase hfew hline rfl (thn (ho pins s σ H _ I h) fun v s1 hZ=>?_)
 obtain⟨x,H1,I1,r1,ty,q1⟩:=hZ;obtain⟨h1,h2⟩:=si I1 r1 ty;refine⟨T,id,pa,slot,hty,h1,h2,?_⟩;have hA:=ha cpos pins s1 σ H1 _ I1 q1;rw[hs]at hA ⊢;refine Calls.callWith_builtin (by show(false||(backTo cpos (starEach es X.env)).any (·.1))=false;rw[hplain] <;> rfl) (Calls.evalArgs_plain ?_)
 exact thn hA fun us s2 ⟨vs,H2,I2,r2,q2⟩=>hm pins s2 σ H2 x vs v us Q I2 r1 r2 q2
end
noncomputable def MtM (X:Cx)(id:String)(r:V->List V->Hp->VK->Prop):Prop:=
 ∀(pins:List (Addr×Obj)) (s:Shared) (σ:St) (H:Hp) (x:V) (xs:List V) (v:Value) (us:List Value) (Q:VK),Inv X pins σ H s->RelV x v->Vals xs us->r x xs H Q →
  wpAny (model X.prog X.w) X.A (call (.builtin id) (v::us)) (EP X pins σ Q) X.xe s
theorem Vals.one:∀{x:V}{us:List Value},Vals [x] us->∃ u,us=[u]/\RelV x u
 | _,_,.cons r .nil=>⟨_,rfl,r⟩
theorem Vals.zero:∀{us:List Value},Vals [] us->us=[]
 | _,.nil=>rfl
theorem Vals.dropLast{xs:List V}(h:Vals xs us):Vals xs.dropLast us.dropLast:=by
 induction h with
 | nil=>exact .nil
 | cons r t ih=>
  cases t with
  | nil=>exact .nil
  | cons q t'=>exact .cons r ih
theorem Vals.reverse{xs:List V}(h:Vals xs us):Vals xs.reverse us.reverse:=by
 induction h with
 | nil=>exact .nil
 | cons r t ih=>rw[List.reverse_cons,List.reverse_cons];exact Vals.append ih (.cons r .nil)
theorem CJ{α:Type}(l:List α):l.eraseIdx (l.length-1)=l.dropLast:=by
 induction l with
 | nil=>rfl
 | cons a r ih=>
  cases r with
  | nil=>rfl
  | cons b r=>
   have e:(a::b::r).length-1=((b::r).length-1)+1:=by
    have h1:(a::b::r).length=r.length+2:=rfl;have h2:(b::r).length=r.length+1:=rfl;lia
   rw[e,List.eraseIdx_cons_succ,ih]
   all_goals rfl
section
variable {X:Cx}{pins:List (Addr×Obj)}{σ:St}{H:Hp}{s:Shared}{l b:Addr}{xs ys zs:List V}
theorem Inv.kQ{its':List Value}{f:Array Value->Array Value}(I:Inv X pins σ H s)(hH:H l=some (.lst xs))(e:s.heap.get? l=some { cls:=.type "list",data:=.seq its.toArray n }) (hf:f its.toArray=its'.toArray) (hv:Vals ys its') (hz:ys.length<=sizeLine) :
  Inv X pins σ (upd H l (.lst ys)) { s with heap:=s.heap.update l (Obj.mapSeq f),toks:=t' }:=by
 have q:=PySem.IsL.update e f;rw[hf]at q;refine I.write (x:=l) (e:=l) (by rw[hH];exact trivial) (.inl rfl) (fun b' u hb hu=>(Fz s.heap (Obj.mapSeq f) (Ne.symm hb)).trans hu) ⟨_,q⟩ ?_
 exact⟨hz,its',_,hv,q⟩
theorem Inv.AE(I:Inv X pins σ H s)(hv:Vals ys its)(hz:ys.length<=sizeLine) :
  Inv X pins σ (upd H s.heap.objs.size (.lst ys)) { s with heap:=s.heap.push { cls:=.type "list",data:=.seq its.toArray },toks:=t' }:=
 I.laid (fun _ _ q=>Dh _ q) (Di _) ⟨hz,its,0,hv,DE _ rfl⟩
theorem Inv.fresh(I:Inv X pins σ H s):H s.heap.objs.size=none:=I.hok.fresh (Di _)
theorem Inv.iw(I:Inv X pins σ H s)(hH:H l=some (.lst xs)):xs.length<=sizeLine/\∃(its:List Value)(n:Nat),Vals xs its/\xs.length=its.length/\s.heap.get? l=some { cls:=.type "list",data:=.seq its.toArray n }:=by
 obtain⟨z,its,n,r,e⟩:=I.hok l _ hH;exact⟨z,its,n,r,r.length,e⟩
theorem rf(h:n<=sizeLine):Builtin.List.listTooLong n=false:=by
 unfold Builtin.List.listTooLong;exact DT (by lia)
end
section
variable {X:Cx}
noncomputable def wB:V->List V->Hp->VK->Prop:=fun x vs H Q=>∃ l xs y,x=.ref l/\vs=[y]/\H l=some (.lst xs)/\xs.length<sizeLine/\Q .non (upd H l (.lst (xs++[y])))
theorem oy:MtM X "list.append" wB:=by
 intro pins s σ H x vs v us Q I rx rv h;obtain⟨l,xs,y,rfl,rfl,hH,hz,q⟩:=h;cases rx
 obtain⟨u,rfl,ru⟩:=rv.one;obtain⟨z,its,n,r,hl,e⟩:=I.iw hH;refine call_meets F.slot_list_append ⟨_,e,rfl⟩ F.entry_list_append (F.args_list_append_2 _ _) (PySem.list_append l its.toArray n u (by rw[D8];lia)) ⟨e,?_⟩
 refine⟨.non,_,I.kQ (its':=its++[u]) hH e (by simp) (r.append (.cons ru .nil)) ?_,rfl,q⟩
 rw[Dl,D7];lia
noncomputable def BL:V->List V->Hp->VK->Prop:=fun x vs H Q=>∃ l xs y,x=.ref l/\vs=[]/\H l=some (.lst xs)/\xs[xs.length-1]? =some y/\Q y (upd H l (.lst xs.dropLast))
theorem AV:MtM X "list.pop" BL:=by
 intro pins s σ H x vs v us Q I rx rv h;obtain⟨l,xs,y,rfl,rfl,hH,hy,q⟩:=h;cases rx
 have hus:=rv.zero;subst hus;obtain⟨z,its,n,r,hl,e⟩:=I.iw hH;obtain⟨u,hu,ru⟩:=r.get hy;have hy':its.toArray[its.toArray.size-1]? =some u:=by
  show its.toArray[its.length-1]? =some u
  rw[<-DK,<-hl];exact hu
 refine call_meets F.slot_list_pop ⟨_,e,rfl⟩ F.entry_list_pop (F.args_list_pop_1 _) (MeetsSeq.list_pop_last l its.toArray n u hy' (by rw[D8];lia)) ⟨e,?_⟩
 refine⟨y,_,I.kQ (its':=its.dropLast) hH e ?_ r.dropLast ?_,ru,q⟩
 ·show its.toArray.eraseIdxIfInBounds (its.toArray.size-1)=its.dropLast.toArray
  rw[D8,List.eraseIdxIfInBounds_toArray,CJ]
 ·rw[List.length_dropLast];lia
noncomputable def A9:V->List V->Hp->VK->Prop:=fun x vs H Q=>∃ l xs,x=.ref l/\vs=[]/\H l=some (.lst xs)/\Q .non (upd H l (.lst xs.reverse))
theorem xq:MtM X "list.reverse" A9:=by
 intro pins s σ H x vs v us Q I rx rv h;obtain⟨l,xs,rfl,rfl,hH,q⟩:=h;cases rx
 have hus:=rv.zero;subst hus;obtain⟨z,its,n,r,hl,e⟩:=I.iw hH;refine call_meets F.slot_list_reverse ⟨_,e,rfl⟩ F.entry_list_reverse (F.args_list_reverse_1 _) (AutoSeq1.list_reverse_list_0 l its.toArray n (by rw[D8];lia)) ⟨e,?_⟩
 refine⟨.non,_,I.kQ (its':=its.reverse) hH e (by simp) r.reverse ?_,rfl,q⟩
 rw[List.length_reverse];lia
noncomputable def BK:R2:=fun x y H Q=>∃ l b xs zs,x=.ref l/\y=.ref b/\H l=some (.lst xs)/\H b=some (.lst zs)/\xs.length+zs.length<=sizeLine/\∀ p,H p=none->Q (.ref p) (upd H p (.lst (xs++zs)))
theorem wc:OpR X (binaryOp .Add) BK:=by
 intro pins s σ H x y v u Q I rx ry h;obtain⟨l,b,xs,zs,rfl,rfl,hH,hB,hz,q⟩:=h;cases rx
 cases ry
 obtain⟨z,its,n,r,hl,e⟩:=I.iw hH;obtain⟨z2,its2,n2,r2,hl2,e2⟩:=I.iw hB;refine PySem.P.add_list e e2 ?_ (by rw[D8,D8];lia)
 have ea:its.toArray++its2.toArray=(its++its2).toArray:=by simp
 rw[ea];exact⟨.ref _,_,I.AE (t':=s.toks) (r.append r2) (by rw[Dl];lia),rfl,q _ I.fresh⟩
end
section
variable {prog:Program}{w:World}{A:Around}{E:Value->Shared->Prop}{s:Shared}
theorem Cj{a c:Nat}(hac:a<=c)(hc:c<=n):sliceBounds (some (a:Int)) (some (c:Int)) none n=((a:Int),(c:Int),1):=by
 simp only[sliceBounds,Option.getD_none];have h1:¬ ((a:Int)<0):=by lia
 have h2:¬ ((c:Int)<0):=by lia
 simp only[h1,h2,if_false,show(1:Int) > 0 by decide,if_true]
 congr 1
 ·lia
 ·congr 1;lia
set_option maxRecDepth 100000 in
theorem setItem_slice{sl:Addr}{new:Array Value}{n2:Nat}{vl vu:Value}{a c:Nat}{Q:Unit->Shared->Prop}(e:s.heap.get? l=some { cls:=.type "list",data:=.seq items n }) (e2:s.heap.get? b=some { cls:=.type "list",data:=.seq new n2 }) (hne:l≠b) (hs:s.heap.IsSliceOf sl vl vu .none) (pl:IsPart vl (some (a:Int))) (pu:IsPart vu (some (c:Int))) (hac:a<=c) (hc:c<=items.size) (hsz:items.size+new.size<=sizeLine) (h:Q () { s with heap:=s.heap.update l (Obj.mapSeq fun xs=>xs.extract 0 a++new++xs.extract c xs.size) }) :
  wpAny (model prog w) A (setItem (.ref l) (.ref sl) (.ref b)) Q E s:=by
 have hl:s.heap.IsList l items:=PySem.IsL.isList e;have hb:s.heap.IsList b new:=PySem.IsL.isList e2;obtain⟨os,hos,hcs,hds⟩:=id hs;have hTs:s.TypeIs (.ref sl) "slice":=⟨os,hos,hcs⟩
 have hstep:¬ ((rawPart none==rawInt 0)=true):=DQ;have hsame:Builtin.List.listSameRef (.ref l) (.ref b)=false:=by
  unfold Builtin.List.listSameRef;exact beq_eq_false_iff_ne.mpr hne
 have hmax:(max (a:Int) (c:Int)).toNat=c:=by lia
 have hz':((fun xs:Array Value=>xs.extract 0 a++new++xs.extract c xs.size) items).size<=sizeLine+1:=by
  simp only[Array.size_append,Array.size_extract];lia
 unfold setItem
 try with_reducible refine Ew ?_
 first|refine De (Df ?_)|skip
 refine De (wpAny_sequenceKey hl.typeIs (by decide) ?_)
 refine De (wpAny_callSpecial?_slot (name:=Str.ofString "__setitem__") hl.typeIs slot_list_setitem
  (EB slot_list_setitem hl.typeIs entry_list_setitem ?_ (args_list_setitem _ _ _)))
 show wpAny _ _ (Builtin.List.listSubscript? (.ref sl) >>= _) _ _ s
 refine De ?_;unfold Builtin.List.listSubscript?;refine De (wpAny_specialOf hTs slice_no_index ?_);simp only[Option.isNone_none,if_true];refine Df ?_;show wpAny _ _ (typeOf (.ref sl) >>= _) _ _ s
 refine De (wpAny_typeOf hTs ?_)
 first
  | rw[if_neg (by decide)]
  | refine PySem.W.KFB.if_not (by decide) ?_
 rw[listSliceParts_eq];refine De (De (wpAny_field hos hds (x:=.none) rfl (De (wpAny_listPart .none ?_))));rw[if_neg hstep];refine De (wpAny_field hos hds (x:=vl) rfl (De (wpAny_listPart pl ?_)));refine De (wpAny_field hos hds (x:=vu) rfl (De (wpAny_listPart pu (Df ?_))))
 first
  | simp only[hsame,Dx,if_false]
  | refine PySem.W.KFB.if_not hsame ?_
  | (
    dsimp only;rw[if_neg (by rw[hsame];exact DQ)])
 refine De (m:=Builtin.List.listAllItems (.ref b) "must assign iterable to extended slice") ?_
 unfold Builtin.List.listAllItems;refine De (wpAny_typeOf hb.typeIs ?_)
 first
  | refine PySem.W.KFB.if_so (by decide) ?_
  | rw[if_pos (by decide)]
  | simp only[beq_self_eq_true,Bool.true_or,if_true]
 unfold Builtin.List.listItems;refine De (wpAny_seqItems e2 rfl (Df ?_));refine De (De (wpAny_seqItems e rfl (Df ?_)));refine De (wpAny_of_eq ((sliceIndices_raw (some (a:Int)) (some (c:Int)) none items.size (by simp)).trans (congrArg (pure:Int×Int×Int->Sem (Int×Int×Int)) (Cj hac hc))) ?_)
 show wpAny _ _ (if ((1:Int)==1)=true then _ else _) _ _ s
 rw[if_pos (by decide)]
 refine De (Fg ?_)
 first
  | simp only[rf hsz,Dx,if_false]
  | refine PySem.W.KFB.if_not (rf hsz) ?_
 first|refine De (Df ?_)|skip
 show wpAny _ _ (updateSeq l (fun xs=>xs.extract 0 ((a:Int)).toNat++new++xs.extract (max (a:Int) (c:Int)).toNat xs.size) >>= _) _ _ s
 rw[hmax,Int.toNat_natCast];refine De (wpAny_updateSeq (hz:=Ea (Nat.le_add_right _ _) hsz) (_hz':=hz') e rfl ?_);refine De (wpAny_letGo ?_)
 first
  | exact De (Df (Df ⟨.none,rfl,Df h⟩))
  | exact Df ⟨.none,rfl,Df h⟩
end
section
variable {X:Cx}
end
section
variable {κ:Type} [DecidableEq κ]
noncomputable def aJ (kvs:List (κ×V))(k:κ):Option V:=(kvs.find? fun kv=>decide (kv.1=k)).map (·.2)
noncomputable def putK (kvs:List (κ×V))(k:κ)(v:V):List (κ×V):=
 if (kvs.any fun kv=>decide (kv.1=k))=true then kvs.map (fun kv=>if kv.1=k then(kv.1,v) else kv) else kvs++[(k,v)]
theorem mD{p:κ×V}{r:List (κ×V)}{k:κ}(e:p.1=k):aJ (p::r) k=some p.2:=by simp [aJ,Ez,e]
theorem nB{p:κ×V}{r:List (κ×V)}{k:κ}(e:¬ p.1=k):aJ (p::r) k=aJ r k:=by simp [aJ,Ez,e]
theorem o6(k:κ):∀ kvs:List (κ×V),(kvs.any fun kv=>decide (kv.1=k))=(aJ kvs k).isSome
 | []=>rfl
 | p::r=>by
  rw[Fn]
  by_cases e:p.1=k
  ·simp only[mD e,DB e,Bool.true_or,Option.isSome_some]
  ·rw[nB e,DT e,Bool.false_or];exact o6 k r
theorem lR(kvs:List (κ×V))(k:κ)(v:V):(putK kvs k v).length<=kvs.length+1:=by
 unfold putK
 split
 ·rw[Dd];lia
 ·rw[Dl,DR,E8];lia
theorem bK.mx{o:Option V}{u:Option Value}(r:bK o u):o.isSome=u.isSome:=by
 cases o with
 | none=>cases u with
  | none=>rfl
  | some _=>exact(show False from r).elim
 | some _=>cases u with
  | none=>exact(show False from r).elim
  | some _=>rfl
theorem bK.getD{o:Option V}{u:Option Value}{d:V}{d':Value}(r:bK o u)(rd:RelV d d'):RelV (o.getD d) (u.getD d'):=by
 cases o with
 | none=>cases u with
  | none=>exact rd
  | some _=>exact(show False from r).elim
 | some _=>cases u with
  | none=>exact(show False from r).elim
  | some _=>exact r
theorem KV.val{kvs:List (κ×V)}{vs:List (κ×Value)}(r:KV kvs vs)(k:κ):bK (aJ kvs k) (valueAt vs k):=by
 unfold KV at r;induction r with
 | nil=>exact True.intro
 | @cons p q ps qs h t ih=>
  obtain⟨h1,h2⟩:=h
  by_cases e:p.1=k
  ·have e':q.1=k:=h1.symm.trans e;have b:valueAt (q::qs) k=some q.2:=by simp [valueAt,Ez,e']
   rw[mD e,b];exact h2
  ·have e':¬ q.1=k:=fun z=>e (h1.trans z)
   have b:valueAt (q::qs) k=valueAt qs k:=by simp [valueAt,Ez,e']
   rw[nB e,b];exact ih
theorem KV.any{kvs:List (κ×V)}{vs:List (κ×Value)}(r:KV kvs vs)(k:κ):(kvs.any fun kv=>decide (kv.1=k))=vs.any fun kv=>decide (kv.1=k):=by
 unfold KV at r;induction r with
 | nil=>rfl
 | cons h t ih=>rw[Fn,Fn,ih,h.1]
theorem KV.mE{kvs:List (κ×V)}{vs:List (κ×Value)}(r:KV kvs vs)(k:κ){y:V}(ry:RelV y u) :
  KV (kvs.map fun kv=>if kv.1=k then(kv.1,y) else kv) (vs.map fun kv=>if kv.1=k then(kv.1,u) else kv):=by
 unfold KV at r ⊢;induction r with
 | nil=>exact .nil
 | @cons p q ps qs h t ih=>
  rw[Dk,Dk];refine .cons ?_ ih;obtain⟨h1,h2⟩:=h
  by_cases e:p.1=k
  ·rw[if_pos e,if_pos (h1.symm.trans e)];exact⟨h1,ry⟩
  ·rw[if_neg e,if_neg (fun z=>e (h1.trans z))];exact⟨h1,h2⟩
theorem KV.put{kvs:List (κ×V)}{vs:List (κ×Value)}(r:KV kvs vs)(k:κ){y:V}(ry:RelV y u):KV (putK kvs k y) (stored vs k u):=by
 unfold putK stored;rw[r.any k]
 by_cases e:(vs.any fun kv=>decide (kv.1=k))=true
 ·rw[if_pos e,if_pos e];exact r.mE k ry
 ·rw[if_neg e,if_neg e];exact Paired.snoc r ⟨rfl,ry⟩
theorem KV.length{kvs:List (κ×V)}{vs:List (κ×Value)}(r:KV kvs vs):kvs.length=vs.length:=Paired.length r
end
theorem fC{k:Key}(r:RelV (kV k) u):(au P w).is k u=true:=by
 cases k with
 | inl i=>obtain⟨t,e⟩:=(show ∃ t,u=Value.int i t from r);subst e;exact wR P w i t
 | inr x=>obtain⟨t,e⟩:=(show ∃ t,u=Value.str x t from r);subst e;exact CG P w x t
theorem pW:∀{ks:List Key}{us:List Value},Vals (ks.map kV) us->ItemsAre (au P w) ks us
 | [],_,r=>by rw[EH]at r;cases r;exact .nil
 | k::ks,_,r=>by
  rw[Dk]at r;cases r with
  | cons h t=>exact .cons (fC h) (pW t)
noncomputable abbrev KT (H:Hp):List (List Key×V)->List (List Key×Addr×Value)->Prop:=Paired fun p q=>p.1=q.1/\H q.2.1=some (.tup (p.1.map kV))/\RelV p.2 q.2.2
theorem KT.val{H:Hp}{kvs:List (List Key×V)}{xs:List (List Key×Addr×Value)}(r:KT H kvs xs)(k:List Key):bK (aJ kvs k) ((atKey xs k).map (·.2)):=by
 induction r with
 | nil=>exact True.intro
 | @cons p q ps qs h t ih=>
  obtain⟨h1,_,h2⟩:=h
  by_cases e:p.1=k
  ·have e':q.1=k:=h1.symm.trans e;have b:atKey (q::qs) k=some q.2:=by simp [atKey,Ez,e']
   rw[mD e,b];exact h2
  ·have e':¬ q.1=k:=fun z=>e (h1.trans z)
   have b:atKey (q::qs) k=atKey qs k:=by simp [atKey,Ez,e']
   rw[nB e,b];exact ih
theorem KT.mE{H:Hp}{kvs:List (List Key×V)}{xs:List (List Key×Addr×Value)}(r:KT H kvs xs)(k:List Key){y:V}(ry:RelV y u) :
  KT H (kvs.map fun kv=>if kv.1=k then(kv.1,y) else kv) (xs.map (putAt k u)):=by
 induction r with
 | nil=>exact .nil
 | @cons p q ps qs h t ih=>
  rw[Dk,Dk];refine .cons ?_ ih;obtain⟨h1,h2,h3⟩:=h;unfold putAt
  by_cases e:p.1=k
  ·rw[if_pos e,if_pos (h1.symm.trans e)];exact⟨h1,h2,ry⟩
  ·rw[if_neg e,if_neg (fun z=>e (h1.trans z))];exact⟨h1,h2,h3⟩
theorem KT.put{H:Hp}{kvs:List (List Key×V)}{xs:List (List Key×Addr×Value)}(r:KT H kvs xs)(k:List Key){y:V}(hb:H b=some (.tup (k.map kV)))(ry:RelV y u) :
  KT H (putK kvs k y) (storedH xs k b u):=by
 have e:(kvs.any fun kv=>decide (kv.1=k))=(atKey xs k).isSome:=by
  rw[o6,(r.val k).mx,Fh]
 unfold putK storedH;rw[e]
 by_cases q:(atKey xs k).isSome=true
 ·rw[if_pos q,if_pos q];exact r.mE k ry
 ·rw[if_neg q,if_neg q];exact Paired.snoc r ⟨rfl,hb,ry⟩
theorem KT.keeps{H H':Hp}{kvs:List (List Key×V)}{xs:List (List Key×Addr×Value)}(r:KT H kvs xs)(ht:∀ b ys,H b=some (.tup ys)->H' b=some (.tup ys)):KT H' kvs xs:=
 Paired.m9 r fun _ _ z=>⟨z.1,ht _ _ z.2.1,z.2.2⟩
section
variable {P:Program}{w:World}{H:Hp}{h:Heap}{a:Addr}
theorem tR{u:HO}(ok:HOk P w H h)(e:Rd H a u):aj P w H h a u:=e.ok ok
theorem fg{kvs:List (Key×V)}(ok:HOk P w H h)(e:Rd H a (.dK kvs)):kvs.length<=sizeLine/\(a==sysModules)=false/\∃ vs,KV kvs vs/\h.DictOf (au P w) a vs:=
 show aj P w H h a (.dK kvs) from tR ok e
theorem ml{kvs:List (Key×V)}(ok:HOk P w H h)(e:H a=some (.dK kvs)):kvs.length<=sizeLine/\(a==sysModules)=false/\∃ vs,KV kvs vs/\h.DictOf (au P w) a vs:=fg ok (.inl e)
theorem gJ{ks:List Key}(ok:HOk P w H h)(e:H a=some (.tup (ks.map kV))):(tupleKind (au P w)).is h ks a:=by
 obtain⟨_,its,r,o,h1,h2,n,h3⟩:=(show aj P w H h a (.tup (ks.map kV)) from ok a _ e)
 exact⟨o,its.toArray,n,h1,h2,h3,by simpa using pW r⟩
theorem fM{kvs:List (List Key×V)}(ok:HOk P w H h)(e:Rd H a (.dT kvs)):kvs.length<=sizeLine/\(a==sysModules)=false ∧
  ∃ xs,KT H kvs xs/\h.DictOfH (tupleKind (au P w)) a xs:=by
 obtain⟨z,y,xs,r,o,es,ep,h1,h2,h3,h4,h5⟩:=(show aj P w H h a (.dT kvs) from tR ok e)
 refine⟨z,y,xs,r,o,es,ep,h1,h2,h3,h4,fun x hx=>?_,h5⟩
 have all:∀{l:List (List Key×V)} {m:List (List Key×Addr×Value)},KT H l m->∀ x∈m,(tupleKind (au P w)).is h x.1 x.2.1:=by
  intro l m q;induction q with
  | nil=>intro x hx;exact nomatch hx
  | @cons p q ps qs hq t ih=>
   intro x hx;rcases DG.mp hx with e|hx
   ·subst e;exact gJ ok (by rw[<-hq.1];exact hq.2.1)
   ·exact ih x hx
 exact all r x hx
theorem AG{kvs:List (List Key×V)}(ok:HOk P w H h)(e:H a=some (.dT kvs)):kvs.length<=sizeLine/\(a==sysModules)=false ∧
  ∃ xs,KT H kvs xs/\h.DictOfH (tupleKind (au P w)) a xs:=fM ok (.inl e)
end
noncomputable def dA (H:Hp)(a:Addr)(y:V)(r:Option V):Prop:=
 (∃ kvs k,Rd H a (.dK kvs)/\y=kV k/\r=aJ kvs k)\/∃ kvs k b,Rd H a (.dT kvs)/\y=.ref b/\H b=some (.tup (k.map kV))/\r=aJ kvs k
noncomputable def fE (H:Hp)(a:Addr)(y v:V)(H':Hp):Prop:=
 (∃ kvs k,H a=some (.dK kvs)/\y=kV k/\kvs.length<sizeLine/\H'=upd H a (.dK (putK kvs k v))) ∨
 ∃ kvs k b,H a=some (.dT kvs)/\y=.ref b/\H b=some (.tup (k.map kV))/\kvs.length<sizeLine/\H'=upd H a (.dT (putK kvs k v))
theorem dA.k{H:Hp}{kvs:List (Key×V)}{k:Key}(e:H a=some (.dK kvs)):dA H a (kV k) (aJ kvs k):=.inl ⟨kvs,k,.inl e,rfl,rfl⟩
theorem dA.t{H:Hp}{kvs:List (List Key×V)}{k:List Key}(e:H a=some (.dT kvs))(eb:H b=some (.tup (k.map kV))):dA H a (.ref b) (aJ kvs k):=.inr ⟨kvs,k,b,.inl e,rfl,eb,rfl⟩
theorem fE.k{H:Hp}{kvs:List (Key×V)}{k:Key}{v:V}(e:H a=some (.dK kvs))(hl:kvs.length<sizeLine):fE H a (kV k) v (upd H a (.dK (putK kvs k v))):=.inl ⟨kvs,k,e,rfl,hl,rfl⟩
theorem fE.t{H:Hp}{kvs:List (List Key×V)}{k:List Key}{v:V}(e:H a=some (.dT kvs))(eb:H b=some (.tup (k.map kV)))(hl:kvs.length<sizeLine) :
  fE H a (.ref b) v (upd H a (.dT (putK kvs k v))):=.inr ⟨kvs,k,b,e,rfl,eb,hl,rfl⟩
section
variable {X:Cx}{pins:List (Addr×Obj)}{σ:St}{H:Hp}{s:Shared}{a:Addr}{y v:V}{u r:Value}{o:Option V}{A:Around}{E:Value->Shared->Prop}
theorem Inv.big(I:Inv X pins σ H s):sysModules<s.heap.objs.size:=by
 have h:mainGlobals<s.heap.objs.size:=(I.mod.glob.keeps I.bk).lt;exact Nat.lt_trans (by decide) h
theorem Aq(hu:A.units+1<cLine)(I:Inv X pins σ H s)(g:dA H a y (some v))(ry:RelV y u)(h:∀ w' s',Inv X pins σ H s'->RelV v w'->Q w' s') :
  wpAny (model X.prog X.w) A (getItem (.ref a) u) Q E s:=by
 rcases g with⟨kvs,k,e,ey,l⟩|⟨kvs,k,b,e,ey,eb,l⟩
 ·subst ey;obtain⟨z,hd,vs,rel,dd⟩:=fg I.hok e;obtain⟨w',hw,rw'⟩:=bK.some_of (v:=v) (o:=valueAt vs k) (by rw[l];exact rel.val k)
  exact wpAny_getItem_of (fC ry) dd.mapOf hw (h w' _ (I.tok _) rw')
 ·subst ey;cases (show u=Value.ref b from ry)
  obtain⟨z,hd,xs,rel,dd⟩:=fM I.hok e;obtain⟨w',hw,rw'⟩:=bK.some_of (v:=v) (o:=(atKey xs k).map (·.2)) (by rw[l];exact rel.val k)
  obtain⟨p,hp,hp2⟩:=Dy.mp hw;refine wpAny_getItem_heap (tupleKind_room_in1 hu) (gJ I.hok eb) dd hp ?_;rw[hp2];exact h w' _ (I.tok _) rw'
theorem An(hu:A.units+1<cLine)(I:Inv X pins σ H s)(g:dA H a y o)(ry:RelV y u)(h:∀ s',Inv X pins σ H s'->Q (.bool (!o.isSome)) s') :
  wpAny (model X.prog X.w) A (compareOp .NotIn u (.ref a)) Q E s:=by
 rcases g with⟨kvs,k,e,ey,l⟩|⟨kvs,k,b,e,ey,eb,l⟩
 ·subst ey;obtain⟨z,hd,vs,rel,dd⟩:=fg I.hok e;refine wpAny_notIn_of (fC ry) hd dd.mapOf ?_;rw[<-(rel.val k).mx,<-l];exact h _ (I.tok _)
 ·subst ey;cases (show u=Value.ref b from ry)
  obtain⟨z,hd,xs,rel,dd⟩:=fM I.hok e;refine wpAny_notIn_heap (tupleKind_room_in1 hu) (gJ I.hok eb) hd dd ?_;have q:=(rel.val k).mx;rw[Fh]at q;rw[<-q,<-l];exact h _ (I.tok _)
theorem jC{ob:HO}(I:Inv X pins σ H s)(mu:Mut (H a))(hs:Heap.SameBut a s.heap h')(he:∃ q,h'.get? a=some q)(new:aj X.prog X.w (upd H a ob) h' a ob) :
  Inv X pins σ (upd H a ob) { s with heap:=h',toks:=t' }:=
 I.write (x:=a) (e:=a) mu (.inl rfl) (fun b q hb z=>(hs.2 b hb).trans z) he new
theorem nD{H':Hp}{kvs:List (Key×V)}{vs:List (Key×Value)}(z:kvs.length<=sizeLine)(hd:(a==sysModules)=false)(rel:KV kvs vs)(dd:h'.DictOf (au P w) a vs) :
  aj P w H' h' a (.dK kvs):=⟨z,hd,vs,rel,dd⟩
theorem wH{H':Hp}{Q:Unit->Shared->Prop}(hu:A.units+1<cLine)(I:Inv X pins σ H s)(g:fE H a y v H')(ry:RelV y u)(rv:RelV v r)(h:∀ s',Inv X pins σ H' s'->Q () s') :
  wpAny (model X.prog X.w) A (setItem (.ref a) u r) Q E s:=by
 rcases g with⟨kvs,k,e,ey,l,eH⟩|⟨kvs,k,b,e,ey,eb,l,eH⟩
 ·subst ey eH;obtain⟨z,hd,vs,rel,dd⟩:=ml I.hok e;have hz:vs.length<=sizeLine:=by rw[<-rel.length];exact z
  have hl:(putK kvs k v).length<=sizeLine:=by have:=lR kvs k v;lia
  refine wpAny_setItem_pairs (hsz:=hz) (fC ry) dd fun h' dd' hs=>h _ ?_
  have he:∃ q,h'.get? a=some q:=let ⟨q,_,_,hq,_⟩:=dd';⟨q,hq⟩
  exact jC I (by rw[e];exact True.intro) hs he (nD hl hd (rel.put k rv) dd')
 ·subst ey eH;cases (show u=Value.ref b from ry)
  obtain⟨z,hd,xs,rel,dd⟩:=AG I.hok e;have hz:xs.length<=sizeLine:=by rw[<-Paired.length rel];exact z
  have hl:(putK kvs k v).length<=sizeLine:=by have:=lR kvs k v;lia
  refine wpAny_setItem_heap (hsz:=hz) (tupleKind_room_in1 hu) (gJ I.hok eb) dd fun h' dd' hs=>h _ ?_
  obtain⟨q,es,ep,hq,h2,h3,h4,_,h5⟩:=dd';refine jC I (by rw[e];exact True.intro) hs ⟨q,hq⟩ ⟨hl,hd,_,(rel.put k eb rv).keeps fun c ys ec=>?_,q,es,ep,hq,h2,h3,h4,h5⟩
  rw[ao (bo ec e (fun z=>nomatch z))]
  exact ec
end
section
variable {X:Cx}{pins:List (Addr×Obj)}{σ:St}{H:Hp}{s:Shared}{a:Addr}{kvs:List (Key×V)}{k:Key}{u:Value}{A:Around}{E:Value->Shared->Prop}
end
noncomputable def jW (i:Expr):Prop:=∀ ov iv,subscripted i false ov iv=operate [ov,iv] (getItem ov iv)
theorem tS{value slice:Expr}{T id:String}(hl:typeLookup (.type T) "__getitem__" = pure (some (.builtin id))) (hs:jW slice) (h:wpAny (model prog w) A (eval value env) (fun o s₁=>wpAny (model prog w) A (eval slice env) (fun i s₂=>s₂.TypeIs o T/\wpAny (model prog w) A (getItem o i) Q E s₂) E s₁) E s) :
  wpAny (model prog w) A (eval (.Subscript value slice pos) env) Q E s:=by
 refine Subscript_ (EA h (fun o s₁ h₁=>EA h₁ (fun i s₂ h₂=>?_) fun _ _ x=>x) fun _ _ x=>x)
 obtain⟨hT,h₂⟩:=h₂;unfold subscriptTail;refine De ?_;rw[getitemInPython_of_ne hT.not_modules];refine De (wpAny_specialOf hT hl ?_);have fin:wpAny (model prog w) A (subscripted slice false o i) (fun r s₃=>wpAny (model prog w) A (letTemporaryGo value o r >>= fun _=>pure r) Q E s₃) E s₂:=by
  rw[hs o i];exact wpAny_operating (EA h₂ (fun r s₃ h₃=>De (wpAny_letTemporaryGo (Df h₃))) fun _ _ x=>x)
 first
  | exact Df (De fin)
  | exact De (Df (De fin))
  | exact De fin
theorem C5{X:Cx}{σ:St}{H:Hp}{y:V}{o:Option V}(I:Inv X pins σ H s)(g:dA H a y o):s.TypeIs (.ref a) "dict":=by
 rcases g with⟨kvs,k,e,_,_⟩|⟨kvs,k,b,e,_,_,_⟩
 ·obtain⟨_,_,vs,_,dd⟩:=fg I.hok e;exact dd.typeIs
 ·obtain⟨_,_,xs,_,dd⟩:=fM I.hok e;exact dd.typeIs
noncomputable def vM (td ty:TE):TE:=fun σ H Q=>td σ H fun x H1=>ty σ H1 fun y H2=>∃ a v,x=.ref a/\dA H2 a y (some v)/\Q v H2
noncomputable def A7 (td ty tv:TE):TS:=fun D σ H=>tv σ H fun v H1=>td σ H1 fun x H2=>ty σ H2 fun y H3=>∃ a H4,x=.ref a/\fE H3 a y v H4/\D.nx σ H4
section
variable {X:Cx}{o i e value:Expr}{pos pos' tpos:Pos}{td ty tv:TE}
theorem CL(hu:X.A.units+1<cLine)(ho:PE X o td)(hi:PE X i ty)(hs:jW i):PE X (.Subscript o i pos) (vM td ty):=by
 intro pins s σ H Q I h;refine tS PySem.F.slot_dict_getitem.lookup hs (thn (ho pins s σ H _ I h) fun u s1 ⟨x,H1,I1,rx,q1⟩=>thn (hi pins s1 σ H1 _ I1 q1) fun iv s2 hZ=>?_)
 obtain⟨y,H2,I2,ry,a,v,ex,g,q2⟩:=hZ;subst ex;obtain rfl:u=Value.ref a:=rx;exact⟨C5 I2 g,Aq hu I2 g ry fun w' s3 I3 rw'=>⟨v,H2,I3,rw',q2⟩⟩
theorem zT(hu:X.A.units+1<cLine)(ho:PE X o td)(hi:PE X i ty)(hv:PE X value tv)(hs:swapsWith value (some (.Subscript o i pos')) pos.line X.env=pure false) :
  PS X (.Assign [.Subscript o i pos'] value pos) (A7 td ty tv):=by
 intro pins s σ H D I h;refine wpAny_Assign_Subscript (thn (hv pins s σ H _ I h) fun r s1 ⟨v,H1,I1,rv,q1⟩=>thn (ho pins s1 σ H1 _ I1 q1) fun u s2 ⟨x,H2,I2,rx,q2⟩=>thn (hi pins s2 σ H2 _ I2 q2) fun iv s3 ⟨y,H3,I3,ry,a,H4,ex,g,q3⟩=>?_) hs
 subst ex;obtain rfl:u=Value.ref a:=rx;exact wH hu I3 g ry rv fun s4 I4=>⟨σ,H4,I4,q3⟩
end
theorem Bp{H:Hp}(h:Heap)(hb:sysModules<h.objs.size):aj P w H (h.push { cls:=.type "dict",data:=.dict #[] }) h.objs.size (.dK []):=
 ⟨DZ _,beq_eq_false_iff_ne.mpr (Ne.symm (DO hb)),[],.nil,Heap.DictOf.new h⟩
noncomputable def Au:TE:=fun _ H Q=>∀ p,H p=none->Q (.ref p) (upd H p (.dK []))
section
variable {X:Cx}{pos:Pos}
theorem yZ:PE X (.Dict [] [] pos) Au:=fun pins s σ H Q I h=>
 wpAny_Dict_empty ⟨.ref s.heap.objs.size,_,I.laid (a:=s.heap.objs.size) (o:=.dK []) (t':=s.toks) (fun _ _ q=>Dh _ q) (Di _) (Bp s.heap I.big),rfl,h _ (I.hok.fresh (Di _))⟩
end
structure M1 (X:Cx)(o:Expr)(m:Str)(apos:Pos)(e:Expr)(cpos:Pos):Prop where
 base:attributeBase o m X.env (eval o X.env)=eval o X.env
 few:((backTo cpos (starEach [e] X.env)).all (fun x=>!x.1)&&(backToKw cpos (keywordEach [] X.env)).all (fun x=>x.1.isSome)
  &&decide (([e]:List Expr).length+([]:List Keyword).length+(if ([]:List Keyword).isEmpty then 0 else 1)<30))=true
 line:(apos.endLine==cpos.line)=true
 trees:backTo cpos (starEach [e] X.env)=[(false,eval e X.env)]
structure M2 (X:Cx)(o:Expr)(m:Str)(apos:Pos)(e f:Expr)(cpos:Pos):Prop where
 base:attributeBase o m X.env (eval o X.env)=eval o X.env
 few:((backTo cpos (starEach [e,f] X.env)).all (fun x=>!x.1)&&(backToKw cpos (keywordEach [] X.env)).all (fun x=>x.1.isSome)
  &&decide (([e,f]:List Expr).length+([]:List Keyword).length+(if ([]:List Keyword).isEmpty then 0 else 1)<30))=true
 line:(apos.endLine==cpos.line)=true
 trees:backTo cpos (starEach [e,f] X.env)=[(false,eval e X.env),(false,eval f X.env)]
noncomputable def IsD (H:Hp)(a:Addr):Prop:=(∃ kvs,Rd H a (.dK kvs))\/∃ kvs,Rd H a (.dT kvs)
theorem gE{X:Cx}{σ:St}{H:Hp}(I:Inv X pins σ H s)(d:IsD H a) :
  s.TypeIs (.ref a) "dict"/\(∀ b,Value.ref a=.ref b->∃ ob,s.heap.get? b=some ob/\ob.dict=none)/\(a==sysModules)=false:=by
 rcases d with⟨kvs,e⟩|⟨kvs,e⟩
 ·obtain⟨_,hd,vs,_,dd⟩:=fg I.hok e;refine⟨dd.typeIs,fun b q=>?_,hd⟩
  cases q
  obtain⟨ob,_,_,h1,h2,_⟩:=dd;exact⟨ob,h1,h2.2.1⟩
 ·obtain⟨_,hd,xs,_,dd⟩:=fM I.hok e;refine⟨dd.typeIs,fun b q=>?_,hd⟩
  cases q
  obtain⟨ob,_,_,h1,h2,_⟩:=dd;exact⟨ob,h1,h2.2.1⟩
section
variable {X:Cx}{pins:List (Addr×Obj)}{σ:St}{H:Hp}{s:Shared}{a:Addr}{y d:V}{u r:Value}{o:Option V}{A:Around}{E:Value->Shared->Prop}
theorem C7(hu:A.units+1<cLine)(I:Inv X pins σ H s)(g:dA H a y o)(ry:RelV y u)(h:∀ w' s',Inv X pins σ H s'->RelV (o.getD .non) w'->Q w' s') :
  wpAny (model X.prog X.w) A (call (.builtin "dict.get") [.ref a,u]) Q E s:=by
 rcases g with⟨kvs,k,e,ey,l⟩|⟨kvs,k,b,e,ey,eb,l⟩
 ·subst ey;obtain⟨z,hd,vs,rel,dd⟩:=fg I.hok e;refine call_meetsIn PySem.F.slot_dict_get dd.typeIs PySem.F.entry_dict_get (PySem.F.args_dict_get_2 _ _) (meets_dict_get (au X.prog X.w) a (fC ry) hd) ⟨_,dd.mapOf,h _ _ (I.tok _) ?_⟩;rw[l]
  exact(rel.val k).getD rfl
 ·subst ey;cases (show u=Value.ref b from ry)
  obtain⟨z,hd,xs,rel,dd⟩:=fM I.hok e;refine call_meetsIn PySem.F.slot_dict_get dd.typeIs PySem.F.entry_dict_get (PySem.F.args_dict_get_2 _ _) (meetsH_dict_get (tupleKind (au X.prog X.w)) a b hd) ⟨tupleKind_room_in1 hu,k,xs,gJ I.hok eb,dd,h _ _ (I.tok _) ?_⟩;rw[l]
  exact(rel.val k).getD rfl
end
noncomputable def yg (td ty:TE):TE:=fun σ H Q=>td σ H fun x H1=>∃ a,x=.ref a/\IsD H1 a/\ty σ H1 fun y H2=>∃ o,dA H2 a y o/\Q (o.getD .non) H2
section
variable {X:Cx}{o e f:Expr}{apos cpos:Pos}{td ty tx:TE}
theorem vX(hu:X.A.units+1<cLine)(ho:PE X o td)(he:PE X e ty)(m:M1 X o "get" apos e cpos):PE X (.Call (.Attribute o "get" apos) [e] [] cpos) (yg td ty):=by
 intro pins s σ H Q I h;refine wpAny_Call_method m.base m.few m.line PySem.F.plainAttrs_dict PySem.F.slot_dict_get PySem.F.type_dict_get (thn (ho pins s σ H _ I h) fun u s1 hZ=>?_)
 obtain⟨x,H1,I1,rx,a,ex,d,q1⟩:=hZ;subst ex;obtain rfl:u=Value.ref a:=rx;obtain⟨t1,t2,_⟩:=gE I1 d;refine⟨t1,t2,?_⟩;rw[m.trees];refine Calls.callWith_builtin rfl (Calls.evalArgs_plain (Calls.spliced_cons (thn (he pins s1 σ H1 _ I1 q1) fun iv s2 ⟨y,H2,I2,ry,ov,g,q2⟩=>Calls.spliced_nil ?_)))
 exact C7 hu I2 g ry fun w' s3 I3 rw'=>⟨_,H2,I3,rw',q2⟩
end
section
variable {X:Cx}{pins:List (Addr×Obj)}{σ:St}{H:Hp}{s:Shared}{a:Addr}{kvs:List (Key×V)}{A:Around}{E:Value->Shared->Prop}
end
section
variable {X:Cx}{pins:List (Addr×Obj)}{σ:St}{H:Hp}{s:Shared}{a:Addr}{y:V}{u:Value}{A:Around}{E:Value->Shared->Prop}
end
end L2
end
section
namespace Att
open PySem PySem.W PySem.Calls PyProof.Rows
theorem vt{P:Params}:∀(ns:List Int)(vs:List Value),WellAll P h vs (ns.map WData.int)->IntsAre vs ns:=by
 intro ns;induction ns with
 | nil=>
  intro vs w;rw[EH]at w;cases w
  exact .nil
 | cons n ns ih=>
  intro vs w;rw[Dk]at w;cases w with
  | cons a b=>
   cases a
   exact .cons _ _ (ih _ b)
theorem zm{l:OpenLaw}(hn:l.most=some n){P:Params}{args:List WData}{vals:List Value}(hpre:l.row.toRowW.claim.pre args=true)(hwl:WellAll P h vals args) :
  ∃ a vs ns,vals=[Value.ref a]/\args=[WData.list (ns.map WData.int)]/\h.get? a=some { cls:=.type "list",data:=.seq vs.toArray }/\IntsAre vs ns/\ns.length<=n:=by
 have hsh:WShape.hasAll [] args [.list .int]=true:=(pre_splitW hpre).1;have hc:l.pre.holds [] { args:=args }=true:=(pre_splitW hpre).2;obtain⟨d,r,rfl,h1,h2⟩:=hasAllW_cons hsh;obtain rfl:=hasAllW_nil h2;obtain⟨xs,rfl,h3⟩:=hasW_list h1;obtain⟨ns,rfl⟩:=items_int h3;have hlen:ns.length<=n:=by
  unfold OpenLaw.pre at hc;have h4:(WTm.not (.lt (.lit (.int (n:Int))) (.len (.arg 0)))).holds [] { args:=[.list (ns.map .int)] }=true:=by
   have h4:=(holds_andW hc).1;rw[hn]at h4;exact h4
  have h5:=condW_of h4 (w_not (w_lt w_lit (w_len_list (w_arg rfl))));rw[Dd]at h5;refine Nat.le_of_not_lt fun q=>?_
  have q':(n:Int)<((ns.length:Nat):Int):=by lia
  first
   | (rw[DB q']at h5;exact absurd h5 (by decide))
   | (simp at h5;lia)
 cases hwl with
 | cons w1 w2=>
  cases w2
  cases w1 with
  | list ho hall=>exact⟨_,_,ns,rfl,rfl,ho,vt ns _ hall,hlen⟩
theorem xS(l:OpenLaw)(args:List WData):l.row.toRowW.claim.post args (.bool true) args=true:=
 postW_of (r:=l.row.toRowW) (X:=(true==true))
  (show WShape.has [] (.bool true) .bool=true by first|rfl|decide|simp [WShape.has,WShape.arms,WShape.armsAll])
  (show(WTm.eq .res (.lit (.bool true))).value [] { args:=args,res:=some (.bool true),after:=args }=some (.bool (true==true)) from w_eq_bool (w_res rfl) w_lit) rfl
theorem AJ{l:OpenLaw}{q:Program}{loose:List Str}{XP:(Str->Option Value)->Heap->Prop}{YP:World->Heap->Prop}{d:DefRec}(hn:l.most=some n)(hdf:d.params.defaults=[])(call:∀(w:World)(s₀ s₁:Shared)(mg mb:Str->Option Value)(fa:Addr)(o:Obj)(pm cd doc:Value)(a:Addr)(vs:List Value)(ns:List Int),
   Ground q loose [] XP w s₀ mg mb s₁.heap->YP w s₁.heap →
   s₁.heap.get? fa=some o->o.data=.func (docDef d.name d.params d.body d.scope pm cd doc)->s₁.heap.CodeRec cd d.name->mg d.name=some (.ref fa) →
   s₁.heap.get? a=some { cls:=.type "list",data:=.seq vs.toArray }->IntsAre vs ns->ns.length<=n->s₁.gens=#[] →
   codeAny (model l.prog w) callerA (.call (.ref fa) ⟨[.ref a],[]⟩) (fun r s'=>r=.ok (.ret (.bool true))/\OldK s₁.heap s'.heap/\s'.os=s₁.os/\AllBare s'.gens) s₁) :
  WalkO q loose XP YP l.row.toRowW d [] (fun f vs=>PySem.call f vs):=by
 intro w s₀ s₁ mg mb G Y fa o pm cd doc dV kV ho hd hcd hD hmg hg args vals as hpre hlay hrd hwl hlo;obtain rfl:dV=.none:=Dflts.none hD hdf;obtain rfl:kV=.none:=Dflts.noKw hD;obtain⟨a,vs,ns,rfl,rfl,hobj,hints,hlen⟩:=zm hn hpre hwl;refine enter_call (codeAny_mono (call w s₀ s₁ mg mb fa o pm cd doc a vs ns G Y ho (fd_plain hd) hcd hmg hobj hints hlen hg) fun r s' hq=>?_)
 obtain⟨rfl,h2,h3,h4⟩:=hq;exact⟨.inl ⟨.bool true,.bool true,[],rfl,fun _=>rfl,.bool true,xS l _,fun _=>⟨List.Pairwise.nil,fun _ hm=>(nomatch hm)⟩⟩,h2,h3,h4⟩
section
variable {prog:Program}{w:World}{A:Around}{E:Value->Shared->Prop}{s:Shared}{K:Frag}
end
end Att
namespace L2
open PySem PySem.Spec PyProof.Rows
theorem oK:∀{vs:List Value}{ns:List Int},IntsAre vs ns->Vals (ns.map V.int) vs
 | _,_,.nil=>.nil
 | _,_,.cons n t h=>.cons ⟨t,rfl⟩ (oK h)
noncomputable def inClass (s:Stmt)(j:Nat):Stmt:=match s with
 | .ClassDef _ _ _ body _ _ _ _ _ _ _=>body.getD j (.Pass ⟨0,0,0,0⟩)
 | _=>.Pass ⟨0,0,0,0⟩
noncomputable def cO (s:Stmt):Arguments:=match s with
 | .FunctionDef _ a _ _ _ _ _ _ _ _=>a
 | _=>{ posonlyargs:=[],args:=[],vararg:=none,kwonlyargs:=[],kw_defaults:=[],kwarg:=none,defaults:=[] }
noncomputable def cq (s:Stmt):List Stmt:=match s with
 | .FunctionDef _ _ b _ _ _ _ _ _ _=>b
 | _=>[]
noncomputable def aq (s:Stmt):Scope:=match s with
 | .FunctionDef _ _ _ _ _ _ sc _ _ _=>sc
 | _=>{ kind:=.function,names:=[],isGenerator:=false,isCoroutine:=false }
noncomputable abbrev CX0:CXT:=fun _ _ _ _ _ _=>False
noncomputable abbrev E0:XK:=fun _ _ _=>False
theorem iz{X:Cx}:Passes CX0 X E0:=fun _ _ _ _ _ _ _ h=>h.elim
structure Fun (K:PySem.W.Frag)(x qual:Str)(st:Stmt)(f:Addr)(fd:FuncData):Prop where
 ex:∃(oc:Value) (od:Option Addr) (kV doc pm:Value) (an:Option Addr) (cdv ct:Value) (osl:Array (Option Value)),
  fd=PySem.W.fnOf x qual (cO st) (cq st) (aq st) .none kV doc pm an cdv ct/\K.lookup f=some ⟨oc,od,.func fd,osl⟩/\PySem.W.codeIn K cdv qual=true
 kp:PySem.W.keepIn K (.ref f)=true
section
variable {P:Program}{w:World}{K:PySem.W.Frag}{mg:Str->Option Value}{base:Heap}
theorem Fun.ok{st:Stmt}{k:Nat}{sp:Sp}(F:Fun K x qual st f fd)(S:ba N ps (aq st))(len:∀ vs H Q E,sp vs H Q E->vs.length=ps.length)(hbody:∀(cdv:Value)(A:Around)(outer:List Env)(s:Shared)(H:Hp)(vs:List V)(Q:VK)(E:XK),aA k (A.deeper (envOfC qual (aq st) s.heap.objs.size f cdv))->sp vs H Q E →
   ∃ t,PSs (eU CX0 P w K mg base N qual (aq st) f cdv A outer s H E).nox (cq st) t/\t { nx:=fun _ H'=>Q .non H',rt:=Q } (start N vs) H):ar P w K mg base CX0 (k+1) f fd ps sp:=by
 obtain⟨oc,od,kV,doc,pm,an,cdv,ct,osl,rfl,lk,hcd⟩:=F.ex;refine rS lk hcd S len fun A outer s H vs Q E hr hsp=>?_
 obtain⟨t,h,q⟩:=hbody cdv A outer s H vs Q E hr hsp;exact⟨t,h.nox,q⟩
theorem Fun.binds{st:Stmt}(F:Fun K x qual st f fd)(h:∀(kV doc pm:Value)(an:Option Addr)(cdv ct:Value)(us:List Value),us.length=ps.length->bindArgs (PySem.W.fnOf x qual (cO st) (cq st) (aq st) .none kV doc pm an cdv ct) ⟨us,[]⟩=pure (ps.zip us)):Binds K fd ps []:=by
 obtain⟨oc,od,kV,doc,pm,an,cdv,ct,osl,rfl,lk,hcd⟩:=F.ex;exact .all (h kV doc pm an cdv ct)
theorem sM{st:Stmt}{oc:Value}{od an:Option Addr}{osl:Array (Option Value)}{kV doc cdv ct:Value}(l:K.lookup f=some ⟨oc,od,.func (PySem.W.fnOf x qual (cO st) (cq st) (aq st) .none kV doc pm an cdv ct),osl⟩)(c:PySem.W.codeIn K cdv qual=true)(k:PySem.W.keepIn K (.ref f)=true):Fun K x qual st f (PySem.W.fnOf x qual (cO st) (cq st) (aq st) .none kV doc pm an cdv ct):=⟨⟨oc,od,kV,doc,pm,an,cdv,ct,osl,rfl,l,c⟩,k⟩
end
section
variable {X:Cx}
end
theorem aV{c A B:Prop} [Decidable c] (h1:c->A)(h2:¬ c->B):if c then A else B:=by
 by_cases h:c
 ·rw[if_pos h];exact h1 h
 ·rw[if_neg h];exact h2 h
noncomputable def eE (H H':Hp):Prop:=∀ b o,H b=some o->H' b=some o
theorem eE.trans{H H1 H2:Hp}(a:eE H H1)(b:eE H1 H2):eE H H2:=fun c o h=>b c o (a c o h)
theorem eE.free{H H':Hp}(e:eE H H')(h:H' l=Option.none):H l=Option.none:=by
 cases q:H l with
 | none=>rfl
 | some o=>
  rw[e l o q]at h;cases h
section
variable {κ:Type} [DecidableEq κ]
end
end L2
end
variable {H H1 H' H2:L2.Hp}{σ:L2.St}{xs:List L2.V}{X:L2.Cx}{te:L2.TE}{tif:L2.TT}{D:L2.Ends}
section
namespace SB
open PySem PySem.W PySem.Calls PyProof.Rows L2
section
variable {α:Type} [DecidableEq α] (lt:α->α->Bool)
noncomputable def c7 (x:α):List α->List α
 | []=>[x]
 | y::r=>if x=y then y::r else if lt x y=true then x::y::r else y::c7 x r
noncomputable def srt (xs:List α):List α:=xs.foldr (c7 lt) []
variable {lt}
theorem nI{x z:α}:∀{l:List α},z∈c7 lt x l↔z=x\/z∈l
 | []=>by simp [c7]
 | y::r=>by
  unfold c7
  split
  ·rename_i e;subst e;simp
  ·split
   ·simp
   ·rw[DG,nI,DG];constructor
    ·rintro(h|h|h)
     ·exact .inr (.inl h)
     ·exact .inl h
     ·exact .inr (.inr h)
    ·rintro(h|h|h)
     ·exact .inr (.inl h)
     ·exact .inl h
     ·exact .inr (.inr h)
theorem cp{z:α}:∀{xs:List α},z∈srt lt xs↔z∈xs
 | []=>by simp [srt]
 | x::xs=>by
  show z∈c7 lt x (srt lt xs)↔_
  rw[nI,cp,DG]
theorem qQ{ok:α->Prop}(L:bS ok lt){x:α}(hx:ok x):∀{l:List α},(∀ k∈l,ok k)->l.Pairwise (fun a b=>lt a b=true)->(c7 lt x l).Pairwise (fun a b=>lt a b=true)
 | [],_,_=>List.pairwise_singleton _ _
 | y::r,hk,hu=>by
  have oky:=hk y (Dm ..);obtain⟨h1,h2⟩:=EU.mp hu;unfold c7
  split
  ·exact hu
  ·rename_i ne
   split
   ·rename_i h
    refine EU.mpr ⟨fun z hz=>?_,hu⟩
    rcases DG.mp hz with rfl|hz
    ·exact h
    ·exact L.tr _ _ _ hx oky (hk z (Dr _ hz)) h (h1 z hz)
   ·rename_i h
    have h':lt y x=true:=L.tot _ _ hx oky ne (by simpa using h)
    refine EU.mpr ⟨fun z hz=>?_,qQ L hx (fun k hk'=>hk k (Dr _ hk')) h2⟩
    rcases nI.mp hz with rfl|hz
    ·exact h'
    ·exact h1 z hz
theorem ip{ok:α->Prop}(L:bS ok lt):∀{xs:List α},(∀ k∈xs,ok k)->(srt lt xs).Pairwise (fun a b=>lt a b=true)
 | [],_=>List.Pairwise.nil
 | x::xs,hk=>qQ L (hk x (Dm ..)) (fun k h=>hk k (Dr _ (cp.mp h))) (ip L fun k h=>hk k (Dr _ h))
theorem jc{ok:α->Prop}(L:bS ok lt){l:List α}(hk:∀ k∈l,ok k)(h:l.Pairwise (fun a b=>lt a b=true)):l.Nodup:=by
 refine List.Pairwise.imp_of_mem (fun {a b} ha hb hlt e=>?_) h
 subst e
 have:=L.asy _ _ (hk a ha) (hk a ha) hlt
 rw[hlt]at this;cases this
theorem fm{ok:α->Prop}(L:bS ok lt){l xs:List α}(hk:∀ k∈xs,ok k)(hm:∀ k,k∈l↔k∈xs)(h:l.Pairwise (fun a b=>lt a b=true)):l=srt lt xs:=by
 have hkl:∀ k∈l,ok k:=fun k hk'=>hk k ((hm k).mp hk')
 have hks:∀ k∈srt lt xs,ok k:=fun k hk'=>hk k (cp.mp hk')
 refine L.same hkl ((Fl (jc L hkl h) (jc L hks (ip L hk))).mpr fun k=>?_) h (ip L hk)
 rw[hm,cp]
theorem iY{ok:α->Prop}(L:bS ok lt){xs ys:List α}(hk:∀ k∈xs,ok k)(hm:∀ k,k∈xs↔k∈ys):srt lt xs=srt lt ys:=by
 refine fm L (fun k h=>hk k ((hm k).mpr h)) (fun k=>?_) (ip L hk)
 rw[cp,hm]
end
noncomputable def dI (w:World)(a:Addr)(xs:List V):HO:=.ext fun h=>∃ o es ep t,bG w h a o es ep t/\Vals xs (es.toList.map (·.2))
theorem oH{es:Array (Int×Value)}{t:SetTable}(S:bG w h a o es ep t)(r:Vals xs (es.toList.map (·.2))):aj P w H h a (dI w a xs):=
 ⟨⟨o,es,ep,t,S,r⟩,⟨o,S.ho⟩,fun h1 h2 ⟨o,es,ep,t,S,r⟩ k=>⟨o,es,ep,t,S.keep fun o' e=>k o' e,r⟩⟩
theorem AF{P:Program}{w:World}{ks:List Ky}:∀{vs:List Value},Vals (ks.map kV) vs->∀(i:Nat)(v:Value),vs[i]? =some v->∃ k,ks[i]? =some k/\bq k v=true:=by
 induction ks with
 | nil=>intro vs r i v h;rw[EH]at r;cases r;simp at h
 | cons k ks ih=>
  intro vs r i v h;rw[Dk]at r;cases r with
  | cons r1 r2=>
   cases i with
   | zero=>
    have h:=DL h;subst h;refine⟨k,rfl,?_⟩;cases k with
    | inl i=>obtain⟨t,rfl⟩:=r1;exact gQ _ _
    | inr x=>obtain⟨t,rfl⟩:=r1;exact iO _ _
   | succ i=>exact ih r2 i v (by simpa using h)
theorem fU{k:Ky}(h:bq k v=true):RelV (kV k) v:=by
 rcases br h with⟨i,t,rfl,rfl⟩|⟨x,t,rfl,rfl⟩
 ·exact⟨t,rfl⟩
 ·exact⟨t,rfl⟩
theorem CI{k:Ky}(h:bq k v=true):v.scannable=true:=by
 rcases br h with⟨i,t,rfl,rfl⟩|⟨x,t,rfl,rfl⟩ <;> rfl
theorem gy{α:Type}{f:α->V}{xs:List (α×Value)}(h:∀ p∈xs,RelV (f p.1) p.2):Vals (xs.map fun p=>f p.1) (xs.map (·.2)):=by
 induction xs with
 | nil=>exact .nil
 | cons p r ih=>exact .cons (h p (Dm ..)) (ih fun q hq=>h q (Dr _ hq))
section
variable {X:Cx}
noncomputable def zD (K:PySem.W.Frag)(w:World):List V->Hp->VK->Prop:=fun vs H Q=>∃(l:Addr)(ks:List Ky),vs=[.ref l]/\SqL K H l (ks.map kV)/\ks.length<=60 ∧
 ∀(p:Addr) (ys:List Ky),H p=none->ys.Nodup->(∀ k,k∈ys↔k∈ks)->Q (.ref p) (upd H p (dI w p (ys.map kV)))
theorem yh(hc:X.calm=true):aD X (.type "set") (zD X.K X.w):=by
 intro pins s σ H vs us Q I r h;obtain⟨l,ks,rfl,hl,h60,k⟩:=h;obtain⟨u,rfl,ru⟩:=vals1 r;cases ru
 obtain⟨its,rv,pl,hz⟩:=I.list hl;have hlen:ks.length=its.length:=by have:=rv.length;simpa using this
 have kind:=L2.au X.prog X.w;refine oa (J:=fun i h=>∃ xs,nV (L2.au X.prog X.w) h s.heap.objs.size (bU X.w) xs/\xs.length<=i/\∀ k,k∈xs.map (·.1)↔k∈ks.take i) (I.ok.hd hc) pl.isList ?_ ?_ ?_ ?_
 ·intro h' hg _;refine⟨[],⟨_,#[],0,_,hg,⟨rfl,rfl,rfl⟩,rfl,⟨rfl,.inl rfl,rfl,fun a b _ hb=>absurd hb (Fq _),fun i j hj=>by simp [SetTable.fresh]at hj,fun i h j hh=>by simp at hh⟩,(by show 0*5<7*3;decide),rfl,rfl,EK,fun p hp=>by cases hp⟩,Di _,fun k=>by simp⟩
 ·rintro i h h' ⟨xs,⟨o,es,ep,t,ho,r⟩,z⟩ keep;exact⟨xs,⟨o,es,ep,t,keep _ _ (DO (Fw _)) ho,r⟩,z⟩
 ·rintro i v A' s' Q' E' _ hv ⟨xs,hS,hxl,hxm⟩ q;have hv:its[i]? =some v:=by simpa using hv
  have hil:i<its.length:=(DI.mp hv).1;obtain⟨k,hk,hkv⟩:=AF (P:=X.prog) (w:=X.w) rv i v hv;unfold setAdd;refine Ew (De ((L2.au X.prog X.w).pyHash (k:=k) hkv ?_));refine Ar (s:={ s' with toks:=s'.toks+1 }) hS hkv (CI hkv) (by lia) fun h' xs' r hsb hS' hp=>?_
  refine q h' (s'.toks+1) r hsb (Nat.le_succ _) ⟨xs',hS',?_,fun k'=>?_⟩
  ·rw[hp.length_eq]
   split
   ·lia
   ·rw[Dl,D7];lia
  ·rw[(hp.map (·.1)).mem_iff];have e2:ks.take (i+1)=ks.take i++[k]:=by
    rw[List.take_succ,hk];rfl
   rw[e2,Dp,Dj,<-hxm]
   split
   ·rename_i hin
    constructor
    ·exact fun z=>.inl z
    ·rintro(z|rfl)
     ·exact z
     ·exact hin
   ·rw[Dn,Dp]
    simp
 ·rintro h' tk ⟨xs,⟨o,es,ep,t,ho,hex,hd,T,hr,hled,hes,hnd,hks⟩,hxl,hxm⟩ keep;have hev:es.toList.map (·.2)=xs.map (·.2):=by rw[hes,Du];rfl
  have S:bG X.w h' s.heap.objs.size o es ep t:=⟨ho,hex,hd,T,by lia,hled⟩
  have rv2:Vals ((xs.map (·.1)).map kV) (es.toList.map (·.2)):=by
   rw[hev,Du];exact gy (f:=kV) fun p hp=>fU (hks p hp).1
  have I2:Inv X pins σ (upd H s.heap.objs.size (dI X.w s.heap.objs.size ((xs.map (·.1)).map kV))) { s with heap:=h',toks:=tk }:=I.laid keep (Di _) (oH S rv2);refine⟨V.ref s.heap.objs.size,_,I2,rfl,k _ _ (I.hok.fresh (Di _)) hnd fun k'=>?_⟩
  rw[hxm,Ec (by simp [hlen])]
noncomputable def Al (w:World):List V->Hp->VK->Prop:=fun vs H Q=>∃(p:Addr)(ys:List Ky)(b:Bool),vs=[.ref p]/\H p=some (dI w p (ys.map kV))/\ys.Nodup/\(∀ k∈ys,isI k=b)/\ys.length<64 ∧
 ∀ q:Addr,H q=none->Q (.ref q) (upd H q (.lst ((srt kLt ys).map kV)))
theorem qN(x:HOk P w H h)(e:H a=some (dI w a xs)):∃ o es ep t,bG w h a o es ep t/\Vals xs (es.toList.map (·.2)):=(x a _ e).1
theorem yG{α:Type}{f:α->V}{P:α->Value->Prop}(hf:∀ a v,RelV (f a) v->P a v):∀{ks:List α}{vs:List Value},Vals (ks.map f) vs->∃ xs:List (α×Value),xs.map (·.1)=ks/\xs.map (·.2)=vs/\∀ p∈xs,P p.1 p.2:=by
 intro ks;induction ks with
 | nil=>intro vs r;rw[EH]at r;cases r;exact⟨[],rfl,rfl,fun p hp=>by cases hp⟩
 | cons k ks ih=>
  intro vs r;rw[Dk]at r;cases r with
  | @cons _ u _ us r1 r2=>
   obtain⟨xs,h1,h2,h3⟩:=ih r2;refine⟨(k,u)::xs,by rw[Dk,h1],by rw[Dk,h2],fun p hp=>?_⟩
   rcases DG.mp hp with rfl|hp
   ·exact hf _ _ r1
   ·exact h3 p hp
theorem tP{k:Ky}(r:RelV (kV k) v):bq k v=true:=by
 cases k with
 | inl i=>obtain⟨t,rfl⟩:=r;exact gQ _ _
 | inr x=>obtain⟨t,rfl⟩:=r;exact iO _ _
theorem Inv.rV{d:Drawn}{tk:Nat}{o:HO}(I:Inv X pins σ H s)(k:∀ b u,s.heap.get? b=some u->h'.get? b=some u)(hp:s.heap.objs.size<=a)(new:aj X.prog X.w (upd H a o) h' a o) :
  Inv X pins σ (upd H a o) { s with heap:=h',drawn:=d,toks:=tk }:=
 I.call (g':=s.gens) (ch:=[]) (Un.laid k hp (I.hok.fresh hp)) (I.hok.laid k hp new) I.bare fun b hb=>by cases hb
theorem ku{k k':Ky}(h1:L2.bq k v=true)(h2:L2.bq k' v=true):k=k':=by
 rcases L2.br h1 with⟨i,t,e1,e2⟩|⟨x,t,e1,e2⟩ <;> rcases L2.br h2 with⟨j,t',e3,e4⟩|⟨y,t',e3,e4⟩
 ·rw[e2]at e4;injection e4 with e5 _;rw[e1,e3,e5]
 ·rw[e2]at e4;cases e4
 ·rw[e2]at e4;cases e4
 ·rw[e2]at e4;injection e4 with e5 _;rw[e1,e3,e5]
theorem yd{ks ks':List Ky}(h:ItemsAre (L2.au P w) ks vs):ItemsAre (L2.au P w) ks' vs->ks=ks':=by
 induction h generalizing ks' with
 | nil=>
  intro h2;cases h2
  rfl
 | cons a b ih=>
  intro h2;cases h2 with
  | cons c d=>rw[ku a c,ih d]
theorem yU{ks ks':List Ky}(h1:IsTupleKey (L2.au P w) h ks a)(h2:IsTupleKey (L2.au P w) h ks' a):ks=ks':=by
 obtain⟨o,its,n,ho,_,hd,hi⟩:=h1;obtain⟨o',its',n',ho',_,hd',hi'⟩:=h2;rw[ho]at ho';cases ho'
 rw[hd]at hd';cases hd'
 exact yd hi hi'
theorem AO(hc:X.calm=true):aD X (.builtin "sorted") (Al X.w):=by
 intro pins s σ H vs us Q I r h;obtain⟨p,ys,b,rfl,hp,nd,hb,h64,k⟩:=h;obtain⟨u,rfl,ru⟩:=vals1 r;cases ru
 obtain⟨o,es,ep,t,S,rv⟩:=qN I.hok hp;obtain⟨xs,e1,e2,e3⟩:=yG (f:=kV) (P:=fun k v=>bq k v=true) (fun _ _ r=>tP r) rv
 have hxl:xs.length=ys.length:=by rw[<-e1,Dd]
 refine qt (I.ok.hd hc) S (cI b) (xs:=xs) e2.symm (by lia) (by rw[e1];exact nd) (fun p hp q hq e=>ku (e3 p hp) (e▸e3 q hq)) (fun q hq=>hb _ (by rw[<-e1];exact Dg.mpr ⟨q,hq,rfl⟩)) oneType' ?_ ?_ ?_
 ·intro s1 zs hz _ h2 Q' q;exact ma (b:=b) (fun q hq=>⟨e3 q (hz.mem_iff.mp hq),hb _ (by rw[<-e1];exact Dg.mpr ⟨q,hz.mem_iff.mp hq,rfl⟩)⟩) h2 q
 ·intro s1 _ x hx y hy C hC;refine mJ (e3 x hx) (e3 y hy) ?_ hC;rw[hb x.1 (by rw[<-e1];exact Dg.mpr ⟨x,hx,rfl⟩),hb y.1 (by rw[<-e1];exact Dg.mpr ⟨y,hy,rfl⟩)]
 ·intro h' d tk D c out hpo hup keep hD hg;have ho:out.map (·.1)=srt kLt ys:=by
   refine fm (cI b) hb (fun k'=>?_) hup
   rw[<-e1]
   exact(hpo.map (·.1)).mem_iff
  have rv2:Vals ((srt kLt ys).map kV) (out.map (·.2)):=by
   rw[<-ho,Du];exact gy (f:=kV) fun q hq=>fU (e3 q (hpo.mem_iff.mp hq))
  have hol:out.length=ys.length:=by rw[hpo.length_eq,hxl]
  have I2:Inv X pins σ (upd H D (.lst ((srt kLt ys).map kV))) { s with heap:=h',drawn:=d,toks:=tk }:=
   SB.Inv.rV I keep hD (show aj X.prog X.w _ h' D (.lst ((srt kLt ys).map kV)) from⟨by rw[<-ho,Dd,Dd,hol,DV];lia,out.map (·.2),c,rv2,hg⟩)
  exact⟨V.ref D,_,I2,rfl,k D (I.hok.fresh hD)⟩
noncomputable def CY (K:PySem.W.Frag)(w:World):List V->Hp->VK->Prop:=fun vs H Q=>∃(l:Addr)(ps:List (List Ky×Addr)),vs=[.ref l]/\SqL K H l (ps.map fun p=>V.ref p.2)/\(∀ p∈ps,H p.2=some (.tup (p.1.map kV)))/\ps.length<=60 ∧
 ∀(p:Addr) (qs:List (List Ky×Addr)),H p=none->(qs.map (·.1)).Nodup->(∀ q∈qs,q∈ps)->(∀ k,k∈qs.map (·.1)↔k∈ps.map (·.1))->qs.length<=ps.length->Q (.ref p) (upd H p (dI w p (qs.map fun q=>V.ref q.2)))
theorem BY:∀{ks:List Ky}{vs:List Value},Vals (ks.map kV) vs->ItemsAre (L2.au P w) ks vs:=by
 intro ks;induction ks with
 | nil=>intro vs r;rw[EH]at r;cases r;exact .nil
 | cons k ks ih=>
  intro vs r;rw[Dk]at r;cases r with
  | cons r1 r2=>exact .cons (tP r1) (ih r2)
theorem rF(x:HOk P w H h){ks:List Ky}(e:H b=some (.tup (ks.map kV))):IsTupleKey (L2.au P w) h ks b:=by
 obtain⟨_,its,r,t⟩:=x b _ e;obtain⟨o,ho,hc,n,hd⟩:=t;exact⟨o,its.toArray,n,ho,hc,hd,by simpa using BY r⟩
theorem sY:∀{ps:List (List Ky×Addr)}{vs:List Value},Vals (ps.map fun p=>V.ref p.2) vs->vs=ps.map fun p=>Value.ref p.2:=by
 intro ps;induction ps with
 | nil=>intro vs r;rw[EH]at r;cases r;rfl
 | cons p ps ih=>
  intro vs r;rw[Dk]at r;cases r with
  | cons r1 r2=>rw[ih r2];cases r1;rfl
theorem lQ:∀(ps:List (List Ky×Addr)),Vals (ps.map fun p=>V.ref p.2) (ps.map fun p=>Value.ref p.2)
 | []=>.nil
 | _::r=>.cons rfl (lQ r)
theorem vj(hc:X.calm=true)(hu:X.A.units+64<cLine):aD X (.type "set") (CY X.K X.w):=by
 intro pins s σ H vs us Q I r h;obtain⟨l,ps,rfl,hl,htup,h60,k⟩:=h;obtain⟨u,rfl,ru⟩:=vals1 r;cases ru
 obtain⟨its,rv,pl,hz⟩:=I.list hl;have hits:=sY rv;subst hits;have hkey:∀ p∈ps,IsTupleKey (L2.au X.prog X.w) s.heap p.1 p.2:=fun p hp=>rF I.hok (htup p hp)
 have hlt:∀ p∈ps,p.2<s.heap.objs.size:=fun p hp=>I.hok.lt (htup p hp)
 refine oa (J:=fun i h=>(∀ p∈ps,IsTupleKey (L2.au X.prog X.w) h p.1 p.2)/\∃ xs,kP (L2.au X.prog X.w) h s.heap.objs.size (bU X.w) xs/\xs.length<=i/\(∀ q∈xs,q∈ps)/\∀ k,k∈xs.map (·.1)↔k∈(ps.take i).map (·.1)) (I.ok.hd hc) pl.isList ?_ ?_ ?_ ?_
 ·intro h' hg keep;refine⟨fun p hp=>?_,[],⟨_,#[],0,_,hg,⟨rfl,rfl,rfl⟩,rfl,⟨rfl,.inl rfl,rfl,fun a b _ hb=>absurd hb (Fq _),fun i j hj=>by simp [SetTable.fresh]at hj,fun i h j hh=>by simp at hh⟩,(by show 0*5<7*3;decide),rfl,rfl,EK,fun p hp=>by cases hp⟩,Di _,(fun q hq=>nomatch hq),fun k=>by simp⟩
  obtain⟨o,items,n,ho,rest⟩:=hkey p hp;exact⟨o,items,n,keep _ _ ho,rest⟩
 ·rintro i h h' ⟨hk1,xs,⟨o,es,ep,t,ho,h1,h2,h3,h4,h5,h6,h7,h8⟩,hxl,hin,z⟩ keep;have mv:∀ p∈ps,IsTupleKey (L2.au X.prog X.w) h' p.1 p.2:=fun p hp=>by
   obtain⟨o,items,n,ho,rest⟩:=hk1 p hp;exact⟨o,items,n,keep _ _ (DO (Nat.lt_succ_of_lt (hlt p hp))) ho,rest⟩
  exact⟨mv,xs,⟨o,es,ep,t,keep _ _ (DO (Fw _)) ho,h1,h2,h3,h4,h5,h6,h7,fun p hp=>mv p (hin p hp)⟩,hxl,hin,z⟩
 ·rintro i v A' s' Q' E' hA hv ⟨hk1,xs,hS,hxl,hin,hxm⟩ q;have hv:(ps.map fun p=>Value.ref p.2)[i]? =some v:=by simpa using hv
  rw[Dq,Dy]at hv;obtain⟨p,hp,rfl⟩:=hv;have hpm:=Dw hp;have hil:i<ps.length:=(DI.mp hp).1;unfold setAdd;have hu':A'.units<cLine:=by lia
  refine Ew (De (wpAny_pyHash_tuple hu' (hk1 p hpm) ?_));refine vf (s:={ s' with toks:=s'.toks+(p.1.length+1) }) hS (hk1 p hpm) hu' (by lia) fun h' xs' r hsb hS' hp'=>?_
  have mv:∀ p∈ps,IsTupleKey (L2.au X.prog X.w) h' p.1 p.2:=fun p hp=>by
   obtain⟨o,items,n,ho,rest⟩:=hk1 p hp;exact⟨o,items,n,(hsb.2 _ (DO (hlt p hp))).trans ho,rest⟩
  refine q h' (s'.toks+(p.1.length+1)) r hsb (Nat.le_add_right _ _) ⟨mv,xs',hS',?_,fun q' hq'=>?_,fun k'=>?_⟩
  ·rw[hp'.length_eq]
   split
   ·lia
   ·rw[Dl,D7];lia
  ·have:=hp'.mem_iff.mp hq'
   split at this
   ·exact hin _ this
   ·rcases Dp.mp this with z|z
    ·exact hin _ z
    ·rw[Dj]at z;subst z;exact hpm
  ·rw[(hp'.map (·.1)).mem_iff];have e2:ps.take (i+1)=ps.take i++[p]:=by
    rw[List.take_succ,hp];rfl
   rw[e2,Dn,Dp,Dk,EH,Dj,<-hxm]
   split
   ·rename_i hin'
    constructor
    ·exact fun z=>.inl z
    ·rintro(z|rfl)
     ·exact z
     ·exact hin'
   ·rw[Dn,Dp]
    simp
 ·rintro h' tk ⟨hk1,xs,⟨o,es,ep,t,ho,hex,hd,T,hr,hled,hes,hnd,hks⟩,hxl,hin,hxm⟩ keep;have S:bG X.w h' s.heap.objs.size o es ep t:=⟨ho,hex,hd,T,by lia,hled⟩
  have rv2:Vals (xs.map fun q=>V.ref q.2) (es.toList.map (·.2)):=by
   rw[hes,Du];exact lQ xs
  have I2:Inv X pins σ (upd H s.heap.objs.size (dI X.w s.heap.objs.size (xs.map fun q=>V.ref q.2))) { s with heap:=h',toks:=tk }:=I.laid keep (Di _) (oH S rv2)
  refine⟨V.ref s.heap.objs.size,_,I2,rfl,k _ xs (I.hok.fresh (Di _)) hnd hin (fun k'=>?_) (by simpa using hxl)⟩
  rw[hxm,Ec (by simp)]
noncomputable def Ax (w:World):List V->Hp->VK->Prop:=fun vs H Q=>∃(p:Addr)(qs:List (List Ky×Addr))(sh:List Bool),vs=[.ref p]/\H p=some (dI w p (qs.map fun q=>V.ref q.2))/\(qs.map (·.1)).Nodup/\(∀ q∈qs,H q.2=some (.tup (q.1.map kV))/\q.1.map isI=true::sh)/\qs.length<64 ∧
 ∀(d:Addr) (out:List (List Ky×Addr)),H d=none->out.map (·.1)=srt cD (qs.map (·.1))->(∀ q∈out,q∈qs)->out.length=qs.length->Q (.ref d) (upd H d (.lst (out.map fun q=>V.ref q.2)))
theorem xT(hc:X.calm=true):aD X (.builtin "sorted") (Ax X.w):=by
 intro pins s σ H vs us Q I r h;obtain⟨p,qs,sh,rfl,hp,nd,hq,h64,k⟩:=h;obtain⟨u,rfl,ru⟩:=vals1 r;cases ru
 obtain⟨o,es,ep,t,S,rv⟩:=qN I.hok hp;have hits:=sY rv;have hok:∀ k∈qs.map (·.1),k.map isI=true::sh:=fun k hk=>by
  obtain⟨q,hq',rfl⟩:=Dg.mp hk
  exact(hq q hq').2
 have hkey:∀ q∈qs,IsTupleKey (L2.au X.prog X.w) s.heap q.1 q.2:=fun q hq'=>rF I.hok (hq q hq').1
 have mvk:∀(s1:Shared),(∀ b o,s.heap.get? b=some o->s1.heap.get? b=some o)->∀ q∈qs,IsTupleKey (L2.au X.prog X.w) s1.heap q.1 q.2:=fun s1 keep q hq'=>by
  obtain⟨o,items,n,ho,rest⟩:=hkey q hq';exact⟨o,items,n,keep _ _ ho,rest⟩
 have hxs:(qs.map fun q=>(q.1,Value.ref q.2)).map (·.1)=qs.map (·.1):=by rw[Du];rfl
 have hmem:∀{x:List Ky×Value},x∈(qs.map fun q=>(q.1,Value.ref q.2))->∃ q∈qs,x=(q.1,Value.ref q.2):=fun {x} hx=>by
  obtain⟨q,hq',rfl⟩:=Dg.mp hx;exact⟨q,hq',rfl⟩
 refine qt (I.ok.hd hc) S (iM (true::sh)) (xs:=qs.map fun q=>(q.1,Value.ref q.2)) (by rw[hits,Du];rfl) (by rw[Dd];exact h64) (by rw[hxs];exact nd) (fun x hx y hy e=>?_) (fun x hx=>?_) (tuples' true) ?_ ?_ ?_
 ·obtain⟨q1,hq1,rfl⟩:=hmem hx;obtain⟨q2,hq2,rfl⟩:=hmem hy;injection e with e;have k1:=hkey q1 hq1;rw[e]at k1;exact yU k1 (hkey q2 hq2)
 ·obtain⟨q,hq',rfl⟩:=hmem hx
  exact(hq q hq').2
 ·intro s1 zs hz keep h2 Q' q;refine xy (sh:=sh) (fun x hx=>?_) h2 q
  obtain⟨q',hq',rfl⟩:=hmem (hz.mem_iff.mp hx);exact⟨⟨q'.2,rfl,mvk s1 keep q' hq'⟩,(hq q' hq').2⟩
 ·intro s1 keep x hx y hy C hC;obtain⟨q1,hq1,rfl⟩:=hmem hx;obtain⟨q2,hq2,rfl⟩:=hmem hy;exact wm (mvk s1 keep q1 hq1) (mvk s1 keep q2 hq2) (by rw[(hq q1 hq1).2,(hq q2 hq2).2]) true hC
 ·intro h' d tk D c out hpo hup keep hD hg;obtain⟨out2,hp2,ho2⟩:∃ out2:List (List Ky×Addr),out2.Perm qs/\out=out2.map fun q=>(q.1,Value.ref q.2):=fW hpo
  have e1:out.map (·.1)=out2.map (·.1):=by rw[ho2,Du];rfl
  have e2:out.map (·.2)=out2.map fun q=>Value.ref q.2:=by rw[ho2,Du];rfl
  have ho:out2.map (·.1)=srt cD (qs.map (·.1)):=by
   refine fm (iM (true::sh)) hok (fun k'=>(hp2.map (·.1)).mem_iff) ?_
   rw[<-e1];exact hup
  have I2:Inv X pins σ (upd H D (.lst (out2.map fun q=>V.ref q.2))) { s with heap:=h',drawn:=d,toks:=tk }:=
   SB.Inv.rV I keep hD (show aj X.prog X.w _ h' D (.lst (out2.map fun q=>V.ref q.2)) from⟨by rw[Dd,hp2.length_eq,DV];lia,out.map (·.2),c,by rw[e2];exact lQ out2,hg⟩)
  exact⟨V.ref D,_,I2,rfl,k D out2 (I.hok.fresh hD) ho (fun q hq'=>hp2.mem_iff.mp hq') hp2.length_eq⟩
end
end SB
end
section
namespace SB
open PySem PySem.Spec PyProof.Rows L2
noncomputable def aQ (env:Env):List (Str×NameKind)->List (Str×Addr)->List (Str×Addr)
 | [],cs=>cs
 | (n,k)::r,cs=>aQ env r (if k=.free then(n,(env.cells.lookup n).getD 0)::cs else cs)
theorem uf(env:Env):∀(l:List (Str×NameKind))(cs:List (Str×Addr)),(∀ n k,(n,k)∈l->k=.free->∃ c,env.cells.lookup n=some c) →
  (forIn l cs fun(x:Str×NameKind) (r:List (Str×Addr))=>(if (x.2==.free)=true then do
    let a <-cellOf env x.1
    pure (ForInStep.yield ((x.1,a)::r))
   else pure (ForInStep.yield r):Sem (ForInStep (List (Str×Addr)))))=pure (aQ env l cs)
 | [],cs,_=>by rw[List.forIn_nil];rfl
 | (n,k)::r,cs,h=>by
  rw[List.forIn_cons];have ih:=fun cs'=>uf env r cs' fun n' k' hm=>h n' k' (Dr _ hm)
  by_cases q:k=.free
  ·subst q;obtain⟨c,hc⟩:=h n .free (Dm ..) rfl;dsimp only;rw[if_pos (by rfl)]
   have ec:cellOf env n=pure c:=by unfold cellOf;rw[hc]
   rw[ec]
   show(forIn r ((n,c)::cs) _:Sem _)=_
   rw[ih]
   conv=>rhs;unfold aQ
   rw[if_pos rfl,hc];rfl
  ·have q':(k==NameKind.free)=false:=by simpa using q
   dsimp only;rw[q']
   show(forIn r cs _:Sem _)=_
   rw[ih]
   conv=>rhs;unfold aQ
   rw[if_neg q]
theorem nR(h:∀ n k,(n,k)∈scope.names->k=.free->∃ c,env.cells.lookup n=some c):closureFor scope env=pure (aQ env scope.names []):=by
 unfold closureFor;have e:=uf env scope.names [] h
 show(forIn scope.names [] _ >>= fun r=>pure r)=_
 rw[bind_pure];exact e
theorem jA(env:Env):∀(l:List (Str×NameKind))(cs:List (Str×Addr)),(∀ n k,(n,k)∈l->k=.free->∃ c,env.cells.lookup n=some c)->(∀ x c,cs.lookup x=some c->env.cells.lookup x=some c) →
  ∀ x c,(aQ env l cs).lookup x=some c->env.cells.lookup x=some c
 | [],cs,_,hc=>hc
 | (n,k)::r,cs,h,hc=>by
  unfold aQ;refine jA env r _ (fun n' k' hm=>h n' k' (Dr _ hm)) fun x c hx=>?_
  split at hx
  ·rename_i q
   obtain⟨c',hc'⟩:=h n k (Dm ..) q;rw[hc']at hx;rw[EY]at hx
   split at hx
   ·rename_i e
    have e:x=n:=by simpa using e
    subst e;rw[hc'];exact hx
   ·exact hc x c hx
  ·exact hc x c hx
theorem gG(env:Env):∀(l:List (Str×NameKind))(cs:List (Str×Addr))(x:Str),((x,NameKind.free)∈l\/∃ c,cs.lookup x=some c)->∃ c,(aQ env l cs).lookup x=some c
 | [],cs,x,h=>by
  rcases h with h|h
  ·cases h
  ·exact h
 | (n,k)::r,cs,x,h=>by
  unfold aQ;refine gG env r _ x ?_;rcases h with h|⟨c,h⟩
  ·rcases DG.mp h with e|h
   ·right
    have e1:x=n:=congrArg Prod.fst e;have e2:NameKind.free=k:=congrArg Prod.snd e;subst e1;subst e2
    rw[if_pos rfl];exact⟨_,by rw[EY];simp;rfl⟩
   ·exact .inl h
  ·right
   split
   ·rw[EY]
    split
    ·exact⟨_,rfl⟩
    ·exact⟨c,h⟩
   ·exact⟨c,h⟩
noncomputable abbrev bh (X:Cx)(scope:Scope)(C:Addr)(N':List Str)(s₁:Shared)(H₁:Hp)(ex:List Addr):Cx:=
 { X with N:=N',s₀:=s₁,H₀:=H₁,env:=compEnvC scope (aQ X.env scope.names []) C X.env,outer:=X.stack,ex:=ex,fn:=fun _=>false,pn:=[],xe:=fun _ _=>False }
structure fH (N:List Str)(env:Env)(scope:Scope)(N':List Str)(fr:List (Option Nat)):Prop where
 kind:scope.kind=.function
 ekind:env.scope.kind=.function
 len:N'.length=fr.length
 nocell:∀ y∈scope.names,y.2≠.cell
 names:∀ y∈scope.names,y.2=.local->scope.names.lookup y.1=some .local
 frees:∀ y∈scope.names,y.2=.free->env.scope.names.lookup y.1=some .cell\/env.scope.names.lookup y.1=some .free
 slots:∀(i j:Nat) (x:Str),fr[i]? =some (some j)->N'[i]? =some x->N[j]? =some x/\(x,NameKind.free)∈scope.names/\((relabel scope env).names.lookup x=some .cell\/(relabel scope env).names.lookup x=some .free)
noncomputable def frV (fr:List (Option Nat))(σ:L2.St):L2.St:=fr.map fun o=>o.bind fun j=>(σ[j]?).bind id
theorem yt(h:(relabel scope env).names.lookup x=some .cell\/(relabel scope env).names.lookup x=some .free)(hn:∀ y∈scope.names,y.2≠.cell):(x,NameKind.free)∈scope.names:=by
 have gen:∀(l:List (Str×NameKind)),(∀ y∈l,y.2≠.cell)->∀ k,(l.map fun(n,k)=>if (k==.free&&env.scope.kind==.function&&env.kindOf n==some .cell) then(n,NameKind.cell) else(n,k)).lookup x=some k->k=.cell\/k=.free->(x,NameKind.free)∈l:=by
  intro l;induction l with
  | nil=>intro _ k h;simp at h
  | cons p r ih=>
   obtain⟨n,kd⟩:=p;intro hn k h hk;have hn':=fun y hy=>hn y (Dr _ hy)
   rw[Dk]at h
   by_cases q:x=n
   ·subst q;dsimp only at h
    by_cases c:(kd==NameKind.free&&env.scope.kind==.function&&env.kindOf x==some .cell)=true
    ·have:kd=.free:=by
      rw[Ey,Ey]at c;simpa using c.1.1
     subst this;exact Dm ..
    ·rw[if_neg c,EY]at h;simp at h;subst h;rcases hk with e|e
     ·exact absurd e (hn (x,kd) (Dm ..))
     ·subst e;exact Dm ..
   ·refine Dr _ (ih hn' k ?_ hk);dsimp only at h;have qb:(x==n)=false:=by simpa using q
    by_cases c:(kd==NameKind.free&&env.scope.kind==.function&&env.kindOf n==some .cell)=true
    ·rw[if_pos c,EY,qb]at h;exact h
    ·rw[if_neg c,EY,qb]at h;exact h
 rcases h with h|h
 ·exact gen scope.names hn _ h (.inl rfl)
 ·exact gen scope.names hn _ h (.inr rfl)
section
variable {X:Cx}{pins:List (Addr×Obj)}{σ:L2.St}{H:Hp}{s:Shared}
theorem jN{fr:List (Option Nat)}(I:Inv X pins σ H s)(S:fH X.N X.env scope N' fr):∀ n k,(n,k)∈scope.names->k=.free->∃ c,X.env.cells.lookup n=some c:=fun n k hm e=>by
 refine I.ok.has n ?_;exact S.frees (n,k) hm e
theorem zQ{fr:List (Option Nat)}{fp:List Addr}{m:Str->Option Value}(I:Inv X pins σ H s)(S:fH X.N X.env scope N' fr)(hfp:∀ b∈fp,dg X pins H b)(hin:∀ b∈fp,b<s.heap.objs.size)(hn:h'.Ns s.heap.objs.size m)(keep:∀ b o,s.heap.get? b=some o->h'.get? b=some o) :
  Inv (bh X scope s.heap.objs.size N' s H fp) (X.pn++pins) (frV fr σ) H { s with heap:=h' }:=by
 have hcl:=jN I S;have cg:=jA X.env scope.names [] hcl (fun x c h=>by simp at h)
 have hfresh:H s.heap.objs.size=none:=I.hok.fresh (Di _);have cellK:∀ x c,X.env.cells.lookup x=some c->∀ v,s.heap.IsCell c v->h'.IsCell c v:=fun x c _ v ⟨o,ho,hd⟩=>⟨o,keep c o ho,hd⟩
 have hokd:HOk X.prog X.w H h':=I.hok.kept keep;refine⟨⟨I.ok.mod,S.kind,I.ok.glob,I.ok.blt,Di _,fun x y c h1 h2=>I.ok.inj x y c (cg x c h1) (cg y c h2),fun x hx=>?_,fun x c h=>Bool.noConfusion h,I.ok.hd,I.ok.frames,.inl rfl,fun b hb=>⟨DO (hin b hb),fun x c hx=>(hfp b hb).2.2.2.2.1 x c (cg x c hx)⟩,
   I.bs,Ea I.ok.bsz I.sz,fun b o e hb=>?_,fun b hb z=>?_,I.stack,I.k8⟩,rfl,I.bare,Un.kept keep,⟨m,hn,fun i x v h1 h2 h3=>?_⟩,fun x c hx=>?_,hfresh,fun x c hx=>I.freeC x c (cg x c hx),fun p hp=>?_,hokd,?_⟩
 ·exact gG X.env scope.names [] x (.inl (yt hx S.nocell))
 ·rcases(hfp b hb).2.2.2.1 with z|z
  ·exact I.ok.noex b o e z
  ·exact absurd (D6 (Dz e) (Ea I.ok.bsz z)) (EG _)
 ·rcases DG.mp (I.ez b z) with e|e
  ·exact(hfp b hb).2.1 e
  ·exact(hfp b hb).2.2.1 e
 ·unfold frV at h2;rw[Dq,Dy]at h2;obtain⟨o,ho,h2⟩:=h2;cases o with
  | none=>cases h2
  | some j=>
   obtain⟨a1,a2,a3⟩:=S.slots i j x ho h1;have hσ:σ[j]? =some (some v):=by
    cases e:σ[j]? with
    | none=>rw[Option.bind_some,e]at h2;cases h2
    | some w=>rw[Option.bind_some,e]at h2;have h2:w=some v:=h2;rw[h2]
   have hkind:X.env.kindOf x=some .cell\/X.env.kindOf x=some .free:=S.frees _ a2 rfl;obtain⟨m0,_,hl⟩:=I.loc;obtain⟨u,r,lk⟩:=hl j x v a1 hσ (by rcases hkind with e|e;exact .inr (.inl e);exact .inr (.inr e))
   refine⟨u,r,.inr ⟨a3,?_⟩⟩;obtain⟨c,hc⟩:=gG X.env scope.names [] x (.inl a2);refine⟨c,hc,?_⟩;have hc':=cg x c hc;rcases lk with⟨e,_⟩|⟨_,c2,e2,z⟩
   ·rcases hkind with e'|e' <;> (rw[e']at e;cases e)
   ·rw[hc']at e2;cases e2
    exact cellK x c hc' _ z
 ·obtain⟨v,z⟩:=I.cell x c (cg x c hx);exact⟨v,cellK x c (cg x c hx) v z⟩
 ·obtain⟨e,n,ne,nf,d⟩:=I.pin p (by simpa using hp)
  refine⟨keep _ _ e,n,DO (Dz e),fun z=>?_,d⟩
  rcases DG.mp (I.ez _ z) with q|q
  ·exact ne q
  ·exact nf q
 ·unfold frV;rw[Dd];exact S.len.symm
end
theorem Av{R:Result->Shared->Prop}{elt target:Expr}{it acc:Value}(J:Nat->Shared->Prop)(turn:∀ n s,J n s->wpAny (model prog w) A (pyNext it) (fun r s₁=>match r with
   | none=>R (.ok .next) s₁
   | some v=>wpAny (model prog w) A (letOwnedTupleGo target it v) (fun _ s₂=>wpAny (model prog w) A (assign target env v) (fun _ s₃=>
     wpAny (model prog w) A (forIn ifs true fun c r=>if r=true then do let ok <-isTrue c env (eval c env);pure (ForInStep.yield ok) else pure (ForInStep.yield r)) (fun ok s₄=>
      if ok=true then wpAny (model prog w) A (eval elt env) (fun x s₅=>
       wpAny (model prog w) A (call (.builtin "list.append") [acc,x]) (fun _ s₆=>∃ m,m<n/\J m s₆) (fun _ _=>False) s₅) (fun _ _=>False) s₄
      else ∃ m,m<n/\J m s₄) (fun _ _=>False) s₃) (fun _ _=>False) s₂) (fun _ _=>False) s₁) (fun _ _=>False) s) (n:Nat) (h:J n s):codeAny (model prog w) A (.compLoop (.ListComp elt [⟨target,iter,ifs,0⟩] scope pos) 0 it acc env) R s:=by
 refine codeAny_loop rfl J (fun n s hJ=>?_) n h
 show wpAny _ A ((compTurn (.ListComp elt [⟨target,iter,ifs,0⟩] scope pos) 0 it acc env).onRaise (fun x=>do noteFrame x env;theTreesLotGoes x)) _ _ s
 refine wpAny_noted ?_;rw[compTurn_list];refine De (wpAny_standAt (De (EA (turn n s hJ) (fun r s₁ h₁=>?_) fun _ _ z=>z.elim)))
 cases r with
 | none=>exact Df h₁
 | some v=>
  refine De (EA h₁ (fun _ s₂ h₂=>?_) fun _ _ z=>z.elim)
  refine De (EA h₂ (fun _ s₃ h₃=>De (EA h₃ (fun ok s₄ h₄=>?_) fun _ _ z=>z.elim)) fun _ _ z=>z.elim)
  cases ok with
  | false=>exact Df ⟨rfl,h₄⟩
  | true=>
   exact De (De (EA h₄ (fun x s₅ h₅=>De (EA h₅ (fun _ s₆ h₆=>Df (Df ⟨rfl,h₆⟩)) fun _ _ z=>z.elim)) fun _ _ z=>z.elim))
noncomputable def PIf (X:Cx)(ifs:List Expr)(t:TT):Prop:=
 ∀(pins:List (Addr×Obj)) (s:Shared) (σ:L2.St) (H:Hp) (Q:Bool->Hp->Prop),Inv X pins σ H s->t σ H Q →
  wpAny (model X.prog X.w) X.A (forIn ifs true fun c r=>if r=true then do let ok <-isTrue c X.env (eval c X.env);pure (ForInStep.yield ok) else pure (ForInStep.yield r)) (TP X pins σ Q) X.xe s
theorem BI:PIf X [] (fun _ H Q=>Q true H):=by
 intro pins s σ H Q I h;rw[List.forIn_nil];exact Df ⟨H,I,h⟩
theorem p9{c:Expr}{t:TT}(hc:PT X c t):PIf X [c] t:=by
 intro pins s σ H Q I h;rw[List.forIn_cons];simp only[if_true];refine De (De (thn (hc pins s σ H Q I h) fun b s1 h1=>Df ?_))
 dsimp only;rw[List.forIn_nil];exact Df h1
noncomputable def cR (fr:List (Option Nat))(σ σ':L2.St):Prop:=∀(k:Nat) v,(frV fr σ)[k]? =some (some v)->σ'[k]? =some (some v)
theorem cE{fr:List (Option Nat)}{w:Option V}(h:fr[i]? =some none):cR fr σ ((frV fr σ).set i w):=fun k v e=>by
 rw[List.getElem?_set]
 by_cases q:i=k
 ·subst q;unfold frV at e;rw[Dq,h]at e;cases e
 ·rw[if_neg q];exact e
noncomputable def ti (fr:List (Option Nat))(wi:TI)(g:TG)(tif:TT)(te:TE):TE:=fun σ H Q=>wi σ H fun J H1=>∀ D:Addr,H1 D=none →
 ∃ W:Nat->Nat->List V->Hp->Prop,(∃ m,W 0 m [] (upd H1 D (.lst [])))/\∀ i m acc H,W i m acc H->H D=some (.lst acc)/\acc.length<sizeLine ∧
  ((J.stop i H/\Q (.ref D) H)\/(J.go i H/\∀ x H2,J.yld i H x H2->g x (frV fr σ) H2 fun σ' H3=>cR fr σ σ'/\tif σ' H3 fun b H4=>
   if b=true then te σ' H4 fun y H5=>H5 D=some (.lst acc)/\∃ m',m'<m/\W (i+1) m' (acc++[y]) (upd H5 D (.lst (acc++[y]))) else ∃ m',m'<m/\W (i+1) m' acc H4))
section
variable {X:Cx}
theorem ox{fr:List (Option Nat)}{elt:Expr}{g:TG}(hc:X.calm=true)(S:fH X.N X.env scope N' fr)(hg:∀ C s₁ H₁ ex,PG (bh X scope C N' s₁ H₁ ex) tg g)(hif:∀ C s₁ H₁ ex,PIf (bh X scope C N' s₁ H₁ ex) ifs tif)(he:∀ C s₁ H₁ ex,PE (bh X scope C N' s₁ H₁ ex) elt te){s2:Shared}{fp:List Addr}{tn:Nat->Heap->Prop}{J:It}{Q:VK}(I2:Inv X pins σ H2 s2)(T:Turn X.prog X.w X.K tg J fp it tn)(st2:tn 0 s2.heap)(f2:∀ b∈fp,dg X pins H2 b){RR:Value->Addr->Result->Shared->Prop}(hRR:∀(D C:Addr)(s':Shared)(H':Hp)(m:Str->Option Value),s'.heap.Ns C m->C≠X.env.locals->(H' C=none/\X.s₀.heap.objs.size<=C/\(∀ x c,X.env.cells.lookup x=some c->c≠C)/\∀ p∈X.pn++pins,p.1≠C)->(∀ h',Heap.SameBut C s'.heap h'->Inv X pins σ H' { s' with heap:=h' })->Q (.ref D) H'->RR (.ref D) C (.ok .next) s')(hW:∀ D:Addr,H2 D=none->∃ W:Nat->Nat->List V->Hp->Prop,(∃ m,W 0 m [] (upd H2 D (.lst [])))/\∀ i m acc H,W i m acc H->H D=some (.lst acc)/\acc.length<sizeLine ∧
   ((J.stop i H/\Q (.ref D) H)\/(J.go i H/\∀ x H2,J.yld i H x H2->g x (frV fr σ) H2 fun σ' H3=>cR fr σ σ'/\tif σ' H3 fun b H4=>
    if b=true then te σ' H4 fun y H5=>H5 D=some (.lst acc)/\∃ m',m'<m/\W (i+1) m' (acc++[y]) (upd H5 D (.lst (acc++[y]))) else ∃ m',m'<m/\W (i+1) m' acc H4))) :
  wpAny (model X.prog X.w) X.A (newList []) (fun acc s₃=>wpAny (model X.prog X.w) X.A (newFunctionEnv scope X.env.globals (aQ X.env scope.names []) [] X.env.qual none .none (some X.env)) (fun cenv s₄=>
   codeAny (model X.prog X.w) X.A (.compStart (.ListComp elt [⟨tg,iter,ifs,0⟩] scope pos) 0 (.ref it) acc { cenv with scope:=relabel scope X.env }) (RR acc cenv.locals) s₄) X.xe s₃) X.xe s2:=by
 refine EN ?_;have I3:Inv X pins σ (upd H2 s2.heap.objs.size (.lst [])) { s2 with heap:=s2.heap.push { cls:=.type "list",dict:=none,data:=.seq ([]:List Value).toArray } }:=
  I2.laid (t':=s2.toks) (fun b u e=>Dh _ e) (Di _) (show aj X.prog X.w _ _ _ (.lst []) from⟨DZ _,[],0,.nil,DE _ rfl⟩)
 generalize hs3:({ s2 with heap:=s2.heap.push { cls:=.type "list",dict:=none,data:=.seq ([]:List Value).toArray } }:Shared)=s3 at I3
 have hfree:H2 s2.heap.objs.size=none:=I2.hok.fresh (Di _);obtain⟨W,⟨m0,w0⟩,turn⟩:=hW _ hfree;generalize hD:s2.heap.objs.size=D at *;have hsz:s3.heap.objs.size=D+1:=by rw[<-hs3,<-hD];exact E6 ..
 have hin:∀ b∈fp,b<s3.heap.objs.size:=fun b hb=>by
  obtain⟨o,e,_⟩:=T.obj _ _ st2 b hb;rw[hsz];exact Nat.lt_succ_of_lt (hD▸Dz e)
 have hneD:∀ b∈fp,b≠D:=fun b hb z=>by
  obtain⟨o,e,_⟩:=T.obj _ _ st2 b hb;exact absurd (z▸Dz e) (hD▸EG _)
 have f3:∀ b∈fp,dg X pins (upd H2 D (.lst [])) b:=fun b hb=>⟨by rw[ao (hneD b hb)];exact(f2 b hb).1,(f2 b hb).2⟩
 have st3:tn 0 s3.heap:=T.keep _ _ _ st2 fun b hb o e=>by rw[<-hs3];exact Dh _ e
 refine wpAny_newFunctionEnv (s:=s3) S.nocell (by intro y hy;simp at hy) (fun h1 hns1 hsb1=>?_) S.kind
 have keep1:∀ b o,s3.heap.get? b=some o->h1.get? b=some o:=fun b o e=>hsb1.extBut b o (DO (Dz e)) (Dh _ e)
 have I4:=zQ I3 S f3 hin hns1 keep1;have f4:∀{H':Hp},(∀ b∈fp,H' b=none)->∀ b∈fp,dg (bh X scope s3.heap.objs.size N' s3 (upd H2 D (.lst [])) fp) (X.pn++pins) H' b:=fun {H'} hn b hb=>by
  obtain⟨a1,a2,a3,a4,a5,a6⟩:=f3 b hb;have cg:=jA X.env scope.names [] (jN I3 S) (fun x c h=>by simp at h)
  refine⟨hn b hb,DO (hin b hb),fun z=>?_,.inl hb,fun x c hx=>a5 x c (cg x c hx),fun p hp=>a6 p (by simpa using hp)⟩
  rcases DG.mp (I3.ez b z) with e|e
  ·exact a2 e
  ·exact a3 e
 have st4:tn 0 h1:=T.keep _ _ _ st3 fun b hb o e=>keep1 b o e
 have loop:codeAny (model X.prog X.w) X.A (.compLoop (.ListComp elt [⟨tg,iter,ifs,0⟩] scope pos) 0 (.ref it) (.ref D) (compEnvC scope (aQ X.env scope.names []) s3.heap.objs.size X.env)) (RR (.ref D) s3.heap.objs.size) { s3 with heap:=h1 }:=by
  refine Av (fun n s'=>∃ i acc H',Inv (bh X scope s3.heap.objs.size N' s3 (upd H2 D (.lst [])) fp) (X.pn++pins) (frV fr σ) H' s'/\tn i s'.heap/\(∀ b∈fp,H' b=none)/\W i n acc H') ?_ m0 ⟨0,[],_,I4,st4,fun b hb=>(f3 b hb).1,w0⟩
  rintro n s5 ⟨i,acc,H5,I5,st5,fr5,w5⟩;obtain⟨hDl,hlen,alt⟩:=turn i n acc H5 w5;rcases alt with⟨stop,qn⟩|⟨go,step⟩
  ·refine thn (T.done (bh X scope s3.heap.objs.size N' s3 (upd H2 D (.lst [])) fp) rfl rfl rfl hc i _ s5 _ H5 (fun _ _=>False) I5 (f4 fr5) st5 stop) fun r s6 hZ=>?_
   obtain⟨hr,I6⟩:=hZ;subst hr;obtain⟨m6,hn6,_⟩:=I6.loc;refine hRR D s3.heap.objs.size s6 H5 m6 hn6 (Fs I3.lt) ⟨I6.free,I3.sz,fun x c hx z=>?_,fun p hp z=>?_⟩ (fun h' hsb=>?_) qn
   ·obtain⟨v,q⟩:=I3.cell x c hx;exact absurd (z▸q.lt) (EG _)
   ·exact absurd (z▸Dz (I3.pin p hp).1) (EG _)
   have I7:Inv X pins σ H5 s6:=I3.Bw I6.os I6.base I6.hok I6.bare fun b hb=>⟨(f3 b hb).2.2.2.1,(f3 b hb).2.1,(f3 b hb).2.2.2.2.1,(f3 b hb).2.2.2.2.2⟩
   have e6:s6={ s6 with toks:=s6.toks }:=by cases s6;rfl
   refine I7.turned (t':=s6.toks) (it:=s3.heap.objs.size) (fun b o hb e=>hsb.extBut b o hb e) I6.free (Fs I3.lt) (.inr I3.sz) (fun x c hx z=>?_) fun p hp z=>?_
   ·obtain⟨v,q⟩:=I3.cell x c hx;exact absurd (z▸q.lt) (EG _)
   ·exact absurd (z▸Dz (I3.pin p hp).1) (EG _)
  ·refine thn (T.item (bh X scope s3.heap.objs.size N' s3 (upd H2 D (.lst [])) fp) rfl rfl rfl hc i _ s5 _ H5 (fun _ _=>False) I5 (f4 fr5) st5 go) fun r s6 hZ=>?_
   obtain⟨u,hr,h6⟩:=hZ;subst hr;refine thn h6 fun _ s7 hZ=>?_
   obtain⟨x,H7,I7,r7,y7,st7,fr7⟩:=hZ;have I7':=I7.pinned (f4 fr7) (T.obj _ _ st7);refine thn (hg _ _ _ _ _ s7 _ H7 x u _ I7' r7 (step x H7 y7)) fun _ s8 hZ=>?_
   obtain⟨σ8,H8,I8,hσ8,q8⟩:=hZ;refine thn (hif _ _ _ _ _ s8 σ8 H8 _ I8 q8) fun ok s9 hZ=>?_
   obtain⟨H9,I9,q9⟩:=hZ;have back:∀{σ':L2.St} {H':Hp} {s':Shared} {a':List V},Inv (bh X scope s3.heap.objs.size N' s3 (upd H2 D (.lst [])) fp) (X.pn++pins++iA fp s7.heap) σ' H' s'->(∃ m',m'<n/\W (i+1) m' a' H')->(∀(k:Nat) v,(frV fr σ)[k]? =some (some v)->σ'[k]? =some (some v)) →
     ∃ m,m<n/\∃ i acc H',Inv (bh X scope s3.heap.objs.size N' s3 (upd H2 D (.lst [])) fp) (X.pn++pins) (frV fr σ) H' s'/\tn i s'.heap/\(∀ b∈fp,H' b=none)/\W i m acc H':=fun {σ' H' s' a'} I' ⟨m',hm,w'⟩ hσ=>by
    refine⟨m',hm,i+1,a',H',(I'.i6).weak (by rw[I'.len];unfold frV;rw[Dd];exact S.len.symm) hσ,T.keep _ _ _ st7 fun b hb o e=>(I'.pin (b,o) (Ek _ (Ek _ (iR hb e)))).1,fun b hb=>?_,w'⟩
    obtain⟨o,e,d⟩:=T.obj _ _ st7 b hb
    exact(I'.pin (b,o) (Ek _ (Ek _ (iR hb e)))).2.1
   cases ok with
   | false=>
    rw[if_neg (by decide)]at q9
    rw[if_neg (by decide)]
    exact back I9 q9 hσ8
   | true=>
    rw[if_pos rfl]at q9;rw[if_pos rfl];refine thn (he _ _ _ _ _ s9 σ8 H9 _ I9 q9) fun y s10 hZ=>?_
    obtain⟨yv,H10,I10,r10,hD10,q10⟩:=hZ;refine thn (oy (X:=bh X scope s3.heap.objs.size N' s3 (upd H2 D (.lst [])) fp) _ s10 σ8 H10 (.ref D) [yv] (.ref D) [y] (fun _ H'=>∃ m',m'<n/\W (i+1) m' (acc++[yv]) H') I10 rfl (.cons r10 .nil) ⟨D,acc,yv,rfl,rfl,hD10,hlen,q10⟩) fun _ s11 hZ=>?_
    obtain⟨_,H11,I11,_,q11⟩:=hZ;exact back I11 q11 hσ8
 have hself:wpAny (model X.prog X.w) X.A (pyIter (.ref it)) (fun it' s'=>codeAny (model X.prog X.w) X.A (.compLoop (.ListComp elt [⟨tg,iter,ifs,0⟩] scope pos) 0 it' (.ref D) (compEnvC scope (aQ X.env scope.names []) s3.heap.objs.size X.env)) (RR (.ref D) s3.heap.objs.size) s')
   (notedBy (model X.prog X.w) X.A (compEnvC scope (aQ X.env scope.names []) s3.heap.objs.size X.env) fun x s'=>RR (.ref D) s3.heap.objs.size (.error x) s') { s3 with heap:=h1 }:=T.self _ 0 _ _ _ st4 loop
 exact codeAny_compStart_list loop hself
theorem rN{fr:List (Option Nat)}{elt:Expr}{wi:TI}{g:TG}(hc:X.calm=true)(S:fH X.N X.env scope N' fr)(hi:PI X tg iter wi)(hg:∀ C s₁ H₁ ex,PG (bh X scope C N' s₁ H₁ ex) tg g)(hif:∀ C s₁ H₁ ex,PIf (bh X scope C N' s₁ H₁ ex) ifs tif)(he:∀ C s₁ H₁ ex,PE (bh X scope C N' s₁ H₁ ex) elt te)(hs:∀ x,foldedSetIterable iter X.env x=pure x:=by intro _;rfl):PE X (.ListComp elt [⟨tg,iter,ifs,0⟩] scope pos) (ti fr wi g tif te):=by
 intro pins s σ H Q I h;rw[eval_ListComp];refine wpAny_comprehension_free (use:=none) (cl:=aQ X.env scope.names []) rfl hs (nR (jN I S)) S.kind S.names (thn (hi pins s σ H _ I h) fun v s1 h1=>thn h1 fun itv s2 h2=>?_)
 obtain⟨it,fp,tn,J,H2,e,I2,T,st2,f2,hW⟩:=h2;subst e;refine ox (RR:=fun acc C=>compPost (model X.prog X.w) X.A X.xe none (EP X pins σ Q) acc C) hc S hg hif he I2 T st2 f2 ?_ hW
 intro D C s' H' m hn hC _ hI q;exact⟨m,hn,fun h' hsb=>⟨V.ref D,H',hI h' hsb,rfl,q⟩⟩
theorem C9{fr:List (Option Nat)}{elt:Expr}{spos py:Pos}{y:Str}{wi:TI}{g:TG}(hc:X.calm=true)(S:fH X.N X.env scope N' fr)(hi:PI X tg iter wi)(hg:∀ C s₁ H₁ ex,PG (bh X scope C N' s₁ H₁ ex) tg g)(hif:∀ C s₁ H₁ ex,PIf (bh X scope C N' s₁ H₁ ex) ifs tif)(he:∀ C s₁ H₁ ex,PE (bh X scope C N' s₁ H₁ ex) elt te)(hN:X.N.Nodup)(hiN:X.N[i]? =some y)(hx:Loc X.env.scope y)(hf:X.fn y=true\/X.env.scope.names.lookup y=some .local)(hsw:swapsWith (.ListComp elt [⟨tg,iter,ifs,0⟩] scope pos) (some (.Name y py)) spos.line X.env=pure true)(hs:∀ x,foldedSetIterable iter X.env x=pure x:=by intro _;rfl):PS X (.Assign [.Name y py] (.ListComp elt [⟨tg,iter,ifs,0⟩] scope pos) spos) (iC (ti fr wi g tif te) (bR i)):=by
 intro pins s σ H D I h;rw[exec_Assign_Name_used _ _ _ _ hsw];refine De (wpAny_standAt (De ?_));show wpAny _ _ (do let _ <-comprehension (.ListComp elt [⟨tg,iter,ifs,0⟩] scope pos) scope X.env _ (newList []) false (eval iter X.env) (some (assign (.Name y py) X.env))) _ _ s
 refine De (EA (wpAny_comprehension_free (use:=some (assign (.Name y py) X.env)) (cl:=aQ X.env scope.names []) (Q:=fun _ s'=>SP X pins D .next s') rfl hs (nR (jN I S)) S.kind S.names
  (thn (hi pins s σ H _ I h) fun v s1 h1=>thn h1 fun itv s2 h2=>?_)) (fun _ s' hq=>Df (Df hq)) fun _ _ e=>e)
 obtain⟨it,fp,tn,J,H2,e,I2,T,st2,f2,hW⟩:=h2;subst e;refine ox (Q:=fun x H1=>bR i x σ H1 D.nx) (RR:=fun acc C=>compPost (model X.prog X.w) X.A X.xe (some (assign (.Name y py) X.env)) (fun _ s'=>SP X pins D .next s') acc C) hc S hg hif he I2 T st2 f2 ?_ hW
 intro A C s' H' m hn hC hfr hI q;obtain⟨hfree,hge,hcells,hpins⟩:=hfr;have I':Inv X pins σ H' s':=hI s'.heap (Heap.SameBut.refl ..);show wpAny _ _ (assign (.Name y py) X.env (.ref A)) _ _ s'
 refine wpAny_assign_Name (pI (v:=.ref A) I' hN hiN hx rfl (fun s'' I'' ⟨a,hsb,ha⟩=>?_) hf)
 have haC:C≠a:=by
  rcases ha with rfl|ha
  ·exact hC
  ·exact fun z=>hcells _ _ ha z.symm
 refine⟨m,hn.sameBut hsb haC,fun h' hs'=>⟨_,H',?_,q⟩⟩
 exact I''.turned (t':=s''.toks) (it:=C) (fun b o hb e=>(hs'.2 b hb).trans e) hfree hC (.inr hge) hcells hpins
end
noncomputable def Its (x:Str):It:=⟨fun i _=>i<x.length,fun i H v H'=>H'=H/\∃ c,x.cps[i]? =some c/\v=.str ⟨#[c]⟩,fun i _=>x.length<=i⟩
theorem qP{K:PySem.W.Frag}(it:Addr)(x:Str)(t:Tok){ty:String}(hty:ty = "str_ascii_iterator"\/ty = "str_iterator"):Turn P w K tg (Its x) [it] it (fun i h=>i<=x.length/\h.IsStrIter it ty x t i) where
 mem:=by simp
 obj:=fun i h st b hb=>by
  have e:b=it:=by simpa using hb
  subst e;obtain⟨_,o,e,c,d⟩:=st;exact⟨o,e,fun v z=>by rw[d]at z;cases z⟩
 keep:=fun i h h' st k=>⟨st.1,by obtain⟨_,o,e,r⟩:=st;exact⟨o,k it (by simp) o e,r⟩⟩
 item:=by
  intro X hP hw hK hc i pins s σ H E I hf st hg;subst hP hw hK;obtain⟨f0,f1,f2,f3,f4,f5⟩:=hf it (by simp)
  have W:Walks X.prog X.w X.A it [it] [it] x.cps.size (SignAt x) (fun i h=>h.IsStrIter it ty x t i):=by
   rcases hty with rfl|rfl
   ·exact Walks.strAscii (I.ok.hd hc) it x t
   ·exact Walks.strWide (I.ok.hd hc) it x t
  refine W.item i s _ _ hg st.2 fun v h' tk hv st' kk=>?_
  obtain⟨c,u,hc',rfl⟩:=hv;have I1:Inv X pins σ H { s with heap:=h',toks:=tk }:=I.turned (fun b o hb e=>kk b o (by simpa using hb) e) f0 f1 f3 f4 f5
  obtain⟨o,e,cl,d⟩:=id st';refine⟨_,rfl,iB (s:={ s with heap:=h',toks:=tk }) e cl d (by rcases hty with rfl|rfl <;> decide) ⟨.str ⟨#[c]⟩,H,I1,⟨u,rfl⟩,⟨rfl,c,hc',rfl⟩,⟨hg,st'⟩,fun b hb=>(hf b hb).1⟩⟩
 done:=by
  intro X hP hw hK hc i pins s σ H E I hf st hg;subst hP hw hK;obtain⟨f0,f1,f2,f3,f4,f5⟩:=hf it (by simp)
  have W:Walks X.prog X.w X.A it [it] [it] x.cps.size (SignAt x) (fun i h=>h.IsStrIter it ty x t i):=by
   rcases hty with rfl|rfl
   ·exact Walks.strAscii (I.ok.hd hc) it x t
   ·exact Walks.strWide (I.ok.hd hc) it x t
  have hi:i=x.cps.size:=Nat.le_antisymm st.1 hg;subst hi;exact W.done s _ _ st.2 fun h' tk kk=>⟨rfl,I.turned (fun b o hb e=>kk b o (by simpa using hb) e) f0 f1 f3 f4 f5⟩
 self:=fun A i s Q E st h=>by
  rcases hty with rfl|rfl
  ·exact wpAny_pyIter_striter_ascii st.2 h
  ·exact wpAny_pyIter_striter_wide st.2 h
section
variable {X:Cx}{tg:Expr}
noncomputable def zd (tl:TE):TI:=fun σ H R=>tl σ H fun v H1=>∃ x,v=.str x/\R (Its x) H1
theorem uS{l:Expr}{tl:TE}(hl:PE X l tl):PI X tg l (zd tl):=by
 intro pins s σ H R I h;refine thn (hl pins s σ H _ I h) fun v s1 hZ=>?_
 obtain⟨x,H1,I1,r1,q1⟩:=hZ;obtain⟨x,rfl,q⟩:=q1;obtain⟨t,rfl⟩:=r1;cases ha:x.cps.all (· < 128)
 ·refine wpAny_pyIter_wide ha ⟨s1.heap.objs.size,[s1.heap.objs.size],_,_,H1,rfl,I1.kept (t':=s1.toks) fun b o e=>Dh _ e,qP _ x t (.inr rfl),⟨DZ _,_,DE _ rfl,rfl,rfl⟩,fun b hb=>?_,q⟩
  have e:b=s1.heap.objs.size:=by simpa using hb
  subst e;exact I1.eT (Di _) (I1.hok.fresh (Di _))
 ·refine wpAny_pyIter_ascii ha ⟨s1.heap.objs.size,[s1.heap.objs.size],_,_,H1,rfl,I1.kept (t':=s1.toks) fun b o e=>Dh _ e,qP _ x t (.inl rfl),⟨DZ _,_,DE _ rfl,rfl,rfl⟩,fun b hb=>?_,q⟩
  have e:b=s1.heap.objs.size:=by simpa using hb
  subst e;exact I1.eT (Di _) (I1.hok.fresh (Di _))
theorem wZ{bs:List Bool}:∀{us:List Value},Vals (bs.map V.bl) us->us=bs.map Value.bool:=by
 induction bs with
 | nil=>intro us r;cases r;rfl
 | cons b bs ih=>intro us r;cases r with|cons r1 r2=>cases r1;rw[ih r2];rfl
theorem range_all(bs:List Bool):(List.range bs.length).all (fun i=>bs.getD i false)=bs.all id:=by
 have:(List.range bs.length).map (fun i=>bs.getD i false)=bs:=by
  apply List.ext_getElem
  ·simp
  ·intro i h1 h2;simp [EJ,Dv h2]
 conv=>rhs;rw[<-this]
 rw[List.all_map];rfl
theorem uQ(bs:List Bool):TruthOf prog w A (fun i v=>(bs.map Value.bool).toArray[i]? =some v) (fun i=>bs.getD i false):=fun i v s Q E hP hQ=>by
 simp only[List.getElem?_toArray,Dq,Dy]at hP;obtain⟨b,hb,rfl⟩:=hP;refine ER ?_;have e:bs.getD i false=b:=by rw[EJ,hb];rfl
 have hQ:Q (bs.getD i false) s:=hQ;rw[e]at hQ;exact hQ
noncomputable def zo (K:PySem.W.Frag):List V->Hp->VK->Prop:=fun xs H Q=>∃(a:Addr)(bs:List Bool),xs=[.ref a]/\SqL K H a (bs.map V.bl)/\Q (.bl (bs.all id)) H
theorem uO(hc:X.calm=true):aD X (.builtin "all") (zo X.K):=by
 intro pins s σ H xs us Q I r h;obtain⟨a,bs,rfl,ha,q⟩:=h;obtain⟨u,rfl,ru⟩:=vals1 r;cases ru
 obtain⟨its,rv,pl,hz⟩:=I.list ha;have e:=wZ rv;subst e;refine call_all_walk (wpAny_pyIter_list pl.isList ?_);have hne:a≠s.heap.objs.size:=fun z=>by obtain⟨o,n,e,_⟩:=pl;exact absurd (z▸Dz e) (EG _)
 refine⟨_,_,_,_,_,_,fun i=>bs.getD i false,rfl,Walks.list (A:=X.A.in1) (I.ok.hd hc) s.heap.objs.size a hne (bs.map Value.bool).toArray,⟨⟨_,DE _ rfl,rfl,rfl⟩,pl.isList.push _⟩,uQ bs,fun h' tk kk=>?_⟩
 have e2:(bs.map Value.bool).toArray.size=bs.length:=by simp
 rw[e2,range_all];refine⟨.bl (bs.all id),H,I.kept (h':=h') (t':=tk) fun b o e=>kk b o ?_ (Dh _ e),rfl,q⟩
 simpa using DO (Dz e)
noncomputable def Bt:List V->Hp->VK->Prop:=fun xs H Q=>∃ a kvs,xs=[.ref a]/\Rd H a (.dK kvs)/\∀ p,H p=none->Q (.ref p) (upd H p (.dK kvs))
theorem Bv:aD X (.type "dict") Bt:=by
 intro pins s σ H xs us Q I r h;obtain⟨a,kvs,rfl,ha,q⟩:=h;obtain⟨u,rfl,ru⟩:=vals1 r;cases ru
 obtain⟨z,hd,vs,rel,dd⟩:=fg I.hok ha;refine kt_call_dict hd dd (by rw[<-rel.length];exact z) fun h' dd' hs=>?_
 have keep:∀ b o,s.heap.get? b=some o->h'.get? b=some o:=fun b o e=>(hs.2 b (DO (Dz e))).trans (Dh _ e)
 have hsys:(s.heap.objs.size==sysModules)=false:=by
  have:=L2.Inv.big I
  exact beq_eq_false_iff_ne.mpr (Fs this)
 exact⟨.ref s.heap.objs.size,_,I.laid (t':=s.toks) keep (Di _) (nD z hsys rel dd'),rfl,q _ (I.hok.fresh (Di _))⟩
noncomputable def xP (K:PySem.W.Frag):List V->Hp->VK->Prop:=fun xs H Q=>∃ x n t b,xs=[x,.ty n]/\cu K H x t/\PySem.W.kitOne K t (.type n)=some b/\Q (.bl b) H
theorem vV:aD X (.builtin "isinstance") (xP X.K):=by
 intro pins s σ H xs us Q I r h;obtain⟨x,n,t,b,rfl,ty,e,q⟩:=h;cases r with
 | cons r1 r2=>
  cases r2 with
  | cons r2 r3=>
   cases r3
   cases r2
   exact ym I r1 ty e fun tk=>⟨.bl b,H,I.tok _,rfl,q⟩
end
section
variable {X:Cx}
noncomputable def BC:V->Option Int->Option Int->Hp->VK->Prop:=fun x lo hi H Q=>∃ z,x=.str z/\z.length<=sizeLine/\Q (.str (Txt.slice z lo hi)) H
theorem part_of{o:Option Int}(h:IsPart v o):∃ p:Option (Int×Tok),v=partValue p/\o=p.map (·.1):=by
 cases h with
 | none=>exact⟨none,rfl,rfl⟩
 | int i t=>exact⟨some (i,t),rfl,rfl⟩
theorem zU:SlR X BC:=by
 intro pins s σ H x v vl vu lo hi sl Q I rx hs pl pu h;obtain⟨z,rfl,hz,q⟩:=h;obtain⟨t,rfl⟩:=rx;obtain⟨l,rfl,rfl⟩:=part_of pl;obtain⟨u,rfl,rfl⟩:=part_of pu;refine⟨"str",_,PySem.F.slot_str_getitem.lookup,typeIs_str _ _ _,wpAny_getItem_str_slice (l:=l) (u:=u) (st:=none) ?_ rfl (post_val_or_str ⟨Ea (Txt.slice_le z _ _) hz,fun t' k=>?_⟩)⟩
 ·obtain⟨o,e,c,d⟩:=hs;exact⟨o,e,c,d⟩
 ·exact⟨.str (Txt.slice z (l.map (·.1)) (u.map (·.1))),H,I.tok k,⟨t',rfl⟩,q⟩
theorem ue{t:Addr}(hne:t≠it):∀(n i:Nat)(s:Shared)(Q:List Value->Shared->Prop),s.heap.IsListIter it t i->s.heap.IsList t items->i+n<=items.size →
  (∀ h',h'.IsListIter it t (i+n)->Heap.SameBut it s.heap h'->Q ((items.toList.drop i).take n) { s with heap:=h' })->wpAny (model prog w) A (draw (.ref it) n) Q E s
 | 0,i,s,Q,hit,_,_,hQ=>by
  show wpAny _ _ (pure []) Q E s
  exact Df (by simpa using hQ s.heap hit (Heap.SameBut.refl ..))
 | n+1,i,s,Q,hit,ht,hle,hQ=>by
  have hlt:i<items.size:=by lia
  show wpAny _ _ (pyNext (.ref it) >>= _) Q E s
  refine De (wpAny_pyNext_list_item hit ht (x:=items[i]) (by simp [hlt]) fun h₁ hit₁ hs₁=>?_)
  have ht₁:h₁.IsList t items:=ht.at fun o e=>(hs₁.2 t hne).trans e
  refine De (Ew (ue hne n (i+1) _ _ hit₁ ht₁ (by lia) fun h₂ hit₂ hs₂=>Df ?_))
  have hd:items.toList.drop i=items[i]::items.toList.drop (i+1):=by simp [Er,hlt]
  have:=hQ h₂ (by rw[show i+(n+1)=i+1+n by lia];exact hit₂) (hs₁.trans hs₂)
  rw[hd,List.take_succ_cons]at this;exact this
theorem CF{t:Addr}{Q:List Value->Shared->Prop}(hh:A.handled=none)(ht:s.heap.IsList t items)(hQ:∀ h',Heap.ExtBut s.heap.objs.size s.heap h'->Q items.toList { s with heap:=h' }):wpAny (model prog w) A (unpackItems (.ref t) items.size none) Q E s:=by
 have hlt:t≠s.heap.objs.size:=by obtain⟨o,ho,_⟩:=ht;exact DO (Dz ho)
 unfold unpackItems;refine De ?_
 ·unfold notIterableAtAll;refine De (wpAny_specialOf ht.typeIs PySem.F.slot_list_iter.lookup ?_);refine Df ?_;simp only[Dx,if_false];refine De (Ew (wpAny_pyIter_list ht ?_));refine De (Ew (ue hlt items.size 0 _ _ ⟨_,DE _ rfl,rfl,rfl⟩ (ht.push _) (by lia) fun h₁ hit₁ hs₁=>?_))
  have hall:List.take items.size (List.drop 0 items.toList)=items.toList:=by
   rw[List.drop_zero];exact Ec (by simp)
  rw[hall];rw[if_neg (by simp)]
  have ht₁:h₁.IsList t items:=(ht.push _).at fun o e=>(hs₁.2 t hlt).trans e
  refine De (Ew (wpAny_pyNext_list_end hh hit₁ ht₁ (by simp) fun h₂ he₂=>?_))
  simp only[Option.isSome_none,Dx,if_false];refine Df (hQ h₂ fun b o hb e=>he₂ b o hb (hs₁.extBut b o hb (Dh _ e)))
noncomputable def vR (K:PySem.W.Frag)(n:Nat)(t:TGs):TG:=fun v σ H Q=>∃ a xs,v=.ref a/\SqL K H a xs/\xs.length=n/\t xs σ H Q
theorem yH{es:List Expr}{k:Nat}{t:TGs}(hc:X.calm=true)(h:PGs X es t)(hn:(assignEach es X.env).length=n:=by rfl)(hst:(assignEach es X.env).findIdx? (·.1)=none:=by rfl):PG X (.Tuple es k pos) (vR X.K n t):=by
 intro pins s σ H v u Q I r hw;obtain⟨a,xs,e1,hq,hl,hw⟩:=hw;subst e1;cases r
 obtain⟨its,rv,pl,hz⟩:=I.list hq;rw[assign_Tuple];refine De (wpAny_standAt ?_);unfold unpack;rw[show(assignEach es X.env).length=its.toArray.size from by simp [hn,<-hl,rv.length],hst]
 refine De (Ew (CF (I.ok.hd hc) pl.isList fun h' hx=>?_))
 have I1:Inv X pins σ H { s with heap:=h' }:=I.kept (t':=s.toks) fun b o e=>hx b o (DO (Dz e)) e
 exact h pins _ σ H xs _ Q I1 (by simpa using rv) hw
end
noncomputable def Itd (o:Obj)(a:Addr)(kvs:List (L2.Key×V)):It:=
 ⟨fun i H=>H a=some (.frz o (.dK kvs))/\i<kvs.length,
  fun i H x H'=>∃ p k v,H p=none/\kvs[i]? =some (k,v)/\x=.ref p/\H'=upd H p (.tup [kV k,v]),
  fun i H=>H a=some (.frz o (.dK kvs))/\kvs.length<=i⟩
theorem o4{kvs:List (L2.Key×V)}(x:HOk P w H h)(e:H a=some (.frz o (.dK kvs)))(hd:o.data=.dict es ep) :
  (a==sysModules)=false/\∃ vs,KV kvs vs/\h.DictAt (au P w) a vs ep:=by
 obtain⟨ho,z,hs,vs,rel,o',es',ep',ho',ex,hd',r⟩:=(show aj P w H h a (.frz o (.dK kvs)) from x a _ e)
 rw[ho]at ho';cases ho'
 rw[hd]at hd';cases hd'
 exact⟨hs,vs,rel,o,_,ho,ex,hd,r⟩
theorem kz{kvs:List (L2.Key×V)}{vs:List (L2.Key×Value)}(r:KV kvs vs):∀{i:Nat}{k:L2.Key}{v:V},kvs[i]? =some (k,v)->∃ u,vs[i]? =some (k,u)/\RelV v u:=by
 unfold KV at r;induction r with
 | nil=>intro i k v h;simp at h
 | @cons p q ps qs h t ih=>
  intro i k v hi;cases i with
  | zero=>
   simp at hi;subst hi;obtain⟨h1,h2⟩:=h;exact⟨q.2,by
    have h1:k=q.1:=h1;subst h1
    rfl,h2⟩
  | succ i=>exact ih (by simpa using hi)
theorem yu{K:PySem.W.Frag}{elts:List Expr}{x1:Nat}(a it:Addr)(o:Obj)(kvs:List (L2.Key×V))(hdat:o.data=.dict es ep) :
  Turn P w K (.Tuple elts x1 pos) (Itd o a kvs) [it] it (fun i h=>i<=kvs.length/\∃ ok ov,IsItemIter h it a i kvs.length ep ok ov) where
 mem:=by simp
 obj:=fun i h st b hb=>by
  have e:b=it:=by simpa using hb
  subst e;obtain⟨_,ok,ov,e⟩:=st;exact⟨_,e,fun v z=>by
   have z':Data.fields _=Data.cell v:=z;cases z'⟩
 keep:=fun i h h' st k=>by
  obtain⟨hi,ok,ov,e⟩:=st;exact⟨hi,ok,ov,k it (by simp) _ e⟩
 item:=by
  intro X hP hw hK hc i pins s σ H E I hf st hg;subst hP hw hK;obtain⟨hfr,hi⟩:=hg;obtain⟨_,ok,ov,hit⟩:=st;obtain⟨hs,vs,rel,hm⟩:=o4 I.hok hfr hdat;obtain⟨f0,f1,f2,f3,f4,f5⟩:=hf it (by simp)
  obtain⟨⟨k,v⟩,hkv⟩:∃ p,kvs[i]? =some p:=⟨_,Dv hi⟩;obtain⟨u,hu,ru⟩:=kz rel hkv;have hlen:kvs.length=vs.length:=Paired.length rel;rw[hlen]at hit;refine wpAny_pyNext_items_item hit hm hu fun key h' hkey hout htup hsz hkeep=>?_
  have hitlt:it<s.heap.objs.size:=Dz hit;refine⟨_,rfl,wpAny_letOwnedTupleGo_items hout fun h2 hit2 hsb2=>?_⟩
  have hfresh:H s.heap.objs.size=none:=I.hok.fresh (Di _);have I1:Inv X pins σ (upd H s.heap.objs.size (.tup [kV k,v])) { s with heap:=s.heap.push { cls:=.type "tuple",data:=.seq #[key,u] } }:=
   I.laid (t':=s.toks) (fun b o e=>Dh _ e) (Di _) (show aj X.prog X.w _ _ _ (.tup [kV k,v]) from⟨by rw[DV];show 2<=16777216;decide,[key,u],.cons (fU hkey) (.cons ru .nil),⟨_,DE _ rfl,rfl,_,rfl⟩⟩)
  have hne:it≠s.heap.objs.size:=DO hitlt;have I2:Inv X pins σ (upd H s.heap.objs.size (.tup [kV k,v])) { s with heap:=h2 }:=by
   refine L2.Inv.turned (s:={ s with heap:=s.heap.push { cls:=.type "tuple",data:=.seq #[key,u] } }) (t':=s.toks) (it:=it) I1 (fun b ob hb e=>?_) (by rw[ao hne];exact f0) f1 f3 f4 f5
   refine(hsb2.2 b hb).trans ?_;rcases Heap.get?_push_cases e with⟨rfl,rfl⟩|e2
   ·exact htup
   ·exact hkeep b ob hb e2
  exact⟨.ref s.heap.objs.size,_,I2,rfl,⟨s.heap.objs.size,k,v,hfresh,hkv,rfl,rfl⟩,⟨hi,key,u,by rw[hlen];exact hit2⟩,fun b hb=>by
   have e:b=it:=by simpa using hb
   subst e;rw[ao hne];exact f0⟩
 done:=by
  intro X hP hw hK hc i pins s σ H E I hf st hg;subst hP hw hK;obtain⟨hfr,hi⟩:=hg;obtain⟨_,ok,ov,hit⟩:=st;obtain⟨hs,vs,rel,hm⟩:=o4 I.hok hfr hdat;obtain⟨f0,f1,f2,f3,f4,f5⟩:=hf it (by simp)
  have hlen:kvs.length=vs.length:=Paired.length rel;rw[hlen]at hit;exact wpAny_pyNext_items_end (I.ok.hd hc) hit hm (Eg.mpr (by lia)) fun h' eb=>⟨rfl,I.turned (t':=s.toks) (fun b o hb e=>eb b o hb e) f0 f1 f3 f4 f5⟩
 self:=fun A i s Q E st h=>by
  obtain⟨_,ok,ov,hit⟩:=st;have hT:s.TypeIs (.ref it) "dict_itemiterator":=⟨_,hit,rfl⟩
  refine wpAny_pyIter_slot hT PySem.F.slot_dict_itemiterator_iter (EB PySem.F.slot_dict_itemiterator_iter hT PySem.W.kcp_entry ?_ (PySem.F.args_dict_itemiterator_iter_1 _));show wpAny _ _ (ret (.ref it)) _ _ s
  exact Df ⟨_,rfl,"dict_itemiterator",_,hT,PySem.F.slot_dict_itemiterator_next.lookup,h⟩
section
variable {X:Cx}{pins:List (Addr×Obj)}{σ:L2.St}{H:Hp}{s:Shared}{a:Addr}
theorem Inv.jD{u u':HO}(I:Inv X pins σ H s)(e:H a=some u)(h1:∀ b,u≠.own b)(h2:∀ xs,u≠.tup xs)(h3:∀ ps,u≠.tbl ps)(h4:∀ o v,X.H₀ a=some (.frz o v)->u'=.frz o v)(new:aj X.prog X.w (upd H a u') s.heap a u'):Inv X pins σ (upd H a u') s:=by
 have na:∀ b v,H b=some v->v≠u->b≠a:=fun b v q n z=>by subst z;rw[e]at q;exact n (DL q).symm
 have n0:∀ b,H b=none->b≠a:=fun b q z=>by subst z;rw[e]at q;cases q
 refine⟨I.ok,I.os,I.bare,⟨I.base.keep,I.base.slot,fun b o q n hx=>?_,I.base.there,fun b xs q=>?_,fun b o v q=>?_,fun b ps q=>?_⟩,I.loc,I.cell,?_,fun x c q=>?_,fun p hp=>?_,fun b v q=>?_,I.len⟩
 ·have:=I.base.free b o q n hx
  rw[ao (n0 b this)];exact this
 ·have:=I.base.tups b xs q
  rw[ao (na b _ this fun z=>h2 xs z.symm)];exact this
 ·by_cases z:b=a
  ·subst z;rw[aW,h4 o v q]
  ·rw[ao z];exact I.base.frzs b o v q
 ·obtain⟨m,q⟩:=I.base.tbls b ps q;exact⟨m,by rw[ao (na b _ q fun z=>h3 _ z.symm)];exact q⟩
 ·rw[ao (n0 _ I.free)];exact I.free
 ·rw[ao (n0 _ (I.freeC x c q))];exact I.freeC x c q
 ·obtain⟨q1,q2,q3⟩:=I.pin p hp;exact⟨q1,by rw[ao (n0 _ q2)];exact q2,q3⟩
 ·by_cases z:b=a
  ·subst z;rw[aW]at q;cases q
   exact new
  ·rw[ao z]at q;refine(I.hok b v q).dC (fun c w hc r=>r) (fun c r=>?_) fun c xs r=>?_
   ·rw[ao (na c _ r fun z=>h1 _ z.symm)];exact r
   ·rw[ao (na c _ r fun z=>h2 _ z.symm)];exact r
theorem Inv.freeze{kvs:List (L2.Key×V)}(I:Inv X pins σ H s)(e:H a=some (.dK kvs)):∃ o es ep,s.heap.get? a=some o/\o.data=.dict es ep/\Inv X pins σ (upd H a (.frz o (.dK kvs))) s:=by
 obtain⟨z,hs,vs,rel,o,es,ep,ho,ex,hd,r⟩:=(show aj X.prog X.w H s.heap a (.dK kvs) from I.hok a _ e)
 refine⟨o,es,ep,ho,hd,SB.Inv.jD I e (fun _ z=>nomatch z) (fun _ z=>nomatch z) (fun _ z=>nomatch z) (fun o' v q=>?_) ⟨ho,z,hs,vs,rel,o,es,ep,ho,ex,hd,r⟩⟩
 have:=I.base.frzs a o' v q
 rw[e]at this;cases this
theorem Inv.BJ{kvs:List (L2.Key×V)}(I:Inv X pins σ H s)(e:H a=some (.frz o (.dK kvs)))(h0:∀ o v,X.H₀ a≠some (.frz o v)):Inv X pins σ (upd H a (.dK kvs)) s:=by
 obtain⟨ho,z,hs,vs,rel,dd⟩:=(show aj X.prog X.w H s.heap a (.frz o (.dK kvs)) from I.hok a _ e)
 exact SB.Inv.jD I e (fun _ z=>nomatch z) (fun _ z=>nomatch z) (fun _ z=>nomatch z) (fun o' v q=>absurd q (h0 o' v)) ⟨z,hs,vs,rel,dd⟩
end
noncomputable def uL (td:TE):TI:=fun σ H R=>td σ H fun x H1=>∃ a kvs,x=.ref a/\H1 a=some (.dK kvs)/\∀ o,R (Itd o a kvs) (upd H1 a (.frz o (.dK kvs)))
section
variable {X:Cx}
theorem wQ{elts:List Expr}{x1:Nat}{d:Expr}{td:TE}{apos cpos:Pos}(hd:PE X d td)(hbase:attributeBase d "items" X.env (eval d X.env)=eval d X.env:=by rfl) (hline:(apos.endLine==cpos.line)=true:=by rfl) :
  PI X (.Tuple elts x1 pos) (.Call (.Attribute d "items" apos) [] [] cpos) (uL td):=by
 intro pins s σ H R I h;refine wpAny_Call_method0_late hbase hline (thn (hd pins s σ H _ I h) fun v s1 hZ=>?_)
 obtain⟨x,H1,I1,r1,q1⟩:=hZ;obtain⟨a,kvs,rfl,ha,q⟩:=q1;cases r1
 obtain⟨z,hs,vs,rel,dd⟩:=ml I1.hok ha;obtain⟨ob,es,ep,hob,hex,hdat,hrest⟩:=id dd;refine⟨"dict",_,PySem.F.plainAttrs_dict,PySem.F.slot_dict_items,PySem.F.type_dict_items,dd.typeIs,fun b e=>by cases e;exact⟨ob,hob,hex.2.1⟩,Calls.callWith_builtin rfl (PySem.evalArgs_none ?_)⟩
 refine call_meetsIn PySem.F.slot_dict_items dd.typeIs PySem.F.entry_dict_items (PySem.F.args_dict_items_1 _) (meets_dict_items (au X.prog X.w) a hs) ⟨⟨vs,dd⟩,?_⟩;obtain⟨o',es',ep',ho',hd',I2⟩:=SB.Inv.freeze I1 ha;rw[hob]at ho';cases ho'
 rw[hdat]at hd';cases hd'
 have I3:Inv X pins σ (upd H1 a (.frz ob (.dK kvs))) { s1 with heap:=s1.heap.push { cls:=.type "dict_items",data:=.fields #[.ref a] } }:=I2.kept (t':=s1.toks) fun b o e=>Dh _ e
 have hm:(s1.heap.push { cls:=.type "dict_items",data:=.fields #[.ref a] }).DictAt (au X.prog X.w) a vs ep:=Heap.DictAt.push ⟨ob,es,hob,hex,hdat,hrest⟩ _
 have hlen:kvs.length=vs.length:=Paired.length rel;refine wpAny_pyIter_items ⟨_,DE _ rfl,rfl,rfl⟩ hm ⟨_,[_],_,_,_,rfl,I3.kept (t':=s1.toks) fun b o e=>Dh _ e,yu a _ ob kvs hdat,⟨DZ _,.none,.none,?_⟩,fun b hb=>?_,q ob⟩
 ·rw[hlen];exact DE _ rfl
 ·have e:=Dj.mp hb;subst e;exact I3.eT (Di _) (I3.hok.fresh (Di _))
theorem xB{kvs:List (L2.Key×V)}{g:TG}{tb:TS}(Pv:Nat->L2.St->Hp->Prop)(h0:Pv 0 σ H)(hl:∀ i σ H,i<=kvs.length->Pv i σ H->H a=some (.frz o (.dK kvs)))(hs:∀ i k v p σ H,kvs[i]? =some (k,v)->H p=none->Pv i σ H->g (.ref p) σ (upd H p (.tup [kV k,v])) fun σ2 H2=>tb { D with nx:=Pv (i+1),ct:=Pv (i+1),bk:=D.nx } σ2 H2)(hd:∀ σ H,Pv kvs.length σ H->D.nx σ H) :
  ∃ W:Nat->Nat->L2.St->Hp->Prop,(∃ m,W 0 m σ H)/\∀ i m σ H,W i m σ H →
   ((Itd o a kvs).stop i H/\D.nx σ H)\/((Itd o a kvs).go i H/\∃ N:L2.St->Hp->Prop,(∀ σ' H',N σ' H'->∃ m',m'<m/\W (i+1) m' σ' H')/\∀ x H',(Itd o a kvs).yld i H x H'->g x σ H' fun σ2 H2=>tb { D with nx:=N,ct:=N,bk:=D.nx } σ2 H2):=by
 refine⟨fun i m σ H=>m=kvs.length-i/\i<=kvs.length/\Pv i σ H,⟨kvs.length,by simp,DZ _,h0⟩,?_⟩
 rintro i m σ H ⟨rfl,hi,p⟩;have q:=hl i σ H hi p
 by_cases hlt:i<kvs.length
 ·refine .inr ⟨⟨q,hlt⟩,Pv (i+1),fun σ' H' p'=>⟨kvs.length-(i+1),by lia,rfl,hlt,p'⟩,fun x H' y=>?_⟩
  obtain⟨b,k,v,hb,hk,rfl,rfl⟩:=y;exact hs i k v b σ H hk hb p
 ·have e:i=kvs.length:=by lia
  subst e;exact .inl ⟨⟨q,Di _⟩,hd σ H p⟩
noncomputable def wC (H₀:Hp)(t:TS):TS:=fun D σ H=>t { D with nx:=fun σ' H'=>∃ a o kvs,H' a=some (.frz o (.dK kvs))/\(∀ o v,H₀ a≠some (.frz o v))/\D.nx σ' (upd H' a (.dK kvs)) } σ H
theorem vk{st:Stmt}{t:TS}(h:PS X st t):PS X st (wC X.H₀ t):=by
 intro pins s σ H D I hw;refine thn (h pins s σ H _ I hw) fun f s1 q=>?_
 cases f with
 | next=>
  obtain⟨σ',H',I',a,o,kvs,e,n,q⟩:=q;exact⟨σ',_,SB.Inv.BJ I' e n,q⟩
 | brk=>exact q
 | cont=>exact q
 | ret v=>exact q
end
inductive Dt where
 | sc (v:V)
 | lst (ds:List Dt)
 | tup (ds:List Dt)
mutual
noncomputable def Is (K:PySem.W.Frag)(H:Hp):Dt->V->Prop
 | .sc v,x=>x=v/\bI v=true
 | .lst ds,x=>∃ a xs,x=.ref a/\SqL K H a xs/\IsL K H ds xs
 | .tup ds,x=>∃ a xs,x=.ref a/\SqT K H a xs/\IsL K H ds xs
noncomputable def IsL (K:PySem.W.Frag)(H:Hp):List Dt->List V->Prop
 | [],xs=>xs=[]
 | d::ds,xs=>∃ x r,xs=x::r/\Is K H d x/\IsL K H ds r
end
mutual
noncomputable def dep:Dt->Nat
 | .sc _=>0
 | .lst ds=>aZ ds+1
 | .tup ds=>aZ ds+1
noncomputable def aZ:List Dt->Nat
 | []=>0
 | d::ds=>max (dep d) (aZ ds)
end
noncomputable def nb:V->V->Bool
 | .bl _,.int _=>false
 | .int _,.bl _=>false
 | _,_=>true
mutual
noncomputable def Alike:Dt->Dt->Prop
 | .sc v,.sc w=>nb v w=true
 | .lst ds,.lst es=>bB ds es
 | .tup ds,.tup es=>bB ds es
 | _,_=>False
noncomputable def bB:List Dt->List Dt->Prop
 | d::ds,e::es=>Alike d e/\bB ds es
 | _,_=>True
end
theorem Ae{x y:V}(hx:bI x=true)(hy:bI y=true)(n:nb x y=true):eqV x y=decide (x=y):=by
 cases x <;> cases y <;> first|(cases hx;done)|(cases hy;done)|(cases n;done)|rfl|(simp only[eqV,V.bl.injEq,V.int.injEq,V.str.injEq];apply Ej.mpr;simp)|skip
theorem cV{K:PySem.W.Frag}:∀{ds:List Dt}{xs:List V},IsL K H ds xs->ds.length=xs.length
 | [],xs,h=>by unfold IsL at h;subst h;rfl
 | d::ds,xs,h=>by
  unfold IsL at h;obtain⟨x,r,rfl,_,h⟩:=h;rw[DR,DR,cV h]
theorem iD{K:PySem.W.Frag}:∀{ds:List Dt}{xs:List V}{j:Nat}{x:V},IsL K H ds xs->xs[j]? =some x->∃ d,ds[j]? =some d/\Is K H d x
 | [],xs,j,x,h,e=>by unfold IsL at h;subst h;simp at e
 | d::ds,xs,j,x,h,e=>by
  unfold IsL at h;obtain⟨y,r,rfl,h1,h2⟩:=h;cases j with
  | zero=>simp at e;subst e;exact⟨d,rfl,h1⟩
  | succ j=>
   have:=iD (j:=j) h2 (by simpa using e)
   simpa using this
theorem nU:∀{ds es:List Dt}{j:Nat}{d e:Dt},bB ds es->ds[j]? =some d->es[j]? =some e->Alike d e
 | [],_,j,d,e,_,h,_=>by simp at h
 | _::_,[],j,d,e,_,_,h=>by simp at h
 | d'::ds,e'::es,j,d,e,h,h1,h2=>by
  unfold bB at h;cases j with
  | zero=>simp at h1 h2;subst h1;subst h2;exact h.1
  | succ j=>exact nU h.2 (by simpa using h1) (by simpa using h2)
theorem md:∀{ds:List Dt}{j:Nat}{d:Dt},ds[j]? =some d->dep d<=aZ ds
 | [],j,d,h=>by simp at h
 | d'::ds,j,d,h=>by
  unfold aZ;cases j with
  | zero=>simp at h;subst h;exact Nat.le_max_left ..
  | succ j=>exact Ea (md (by simpa using h)) (Nat.le_max_right ..)
section
variable {X:Cx}
theorem kO(I:Inv X pins σ H s):∀(n:Nat){d e:Dt}{x:V},dep d<=n->Is X.K H d x->Is X.K H e x->Alike d e->d=e:=by
 intro n;induction n with
 | zero=>
  intro d e x hd h1 h2 ha;cases d with
  | sc v=>
   cases e with
   | sc w=>unfold Is at h1 h2;rw[<-h1.1,<-h2.1]
   | lst es=>unfold Alike at ha;exact ha.elim
   | tup es=>unfold Alike at ha;exact ha.elim
  | lst ds=>unfold dep at hd;lia
  | tup ds=>unfold dep at hd;lia
 | succ n ih=>
  have hl:∀{ds es:List Dt} {xs:List V},aZ ds<=n->IsL X.K H ds xs->IsL X.K H es xs->bB ds es->ds=es:=fun {ds es xs} hd h1 h2 ha=>by
   refine List.ext_getElem? fun j=>?_
   cases e:xs[j]? with
   | none=>
    have l1:=cV h1;have l2:=cV h2
    have:=Eg.mp e
    rw[Eg.mpr (by lia),Eg.mpr (by lia)]
   | some x=>
    obtain⟨d1,e1,q1⟩:=iD h1 e;obtain⟨d2,e2,q2⟩:=iD h2 e;rw[e1,e2,ih (Ea (md e1) hd) q1 q2 (nU ha e1 e2)]
  intro d e x hd h1 h2 ha;cases d with
  | sc v=>
   cases e with
   | sc w=>unfold Is at h1 h2;rw[<-h1.1,<-h2.1]
   | lst es=>unfold Alike at ha;exact ha.elim
   | tup es=>unfold Alike at ha;exact ha.elim
  | lst ds=>
   cases e with
   | sc w=>unfold Alike at ha;exact ha.elim
   | tup es=>unfold Alike at ha;exact ha.elim
   | lst es=>
    unfold Is at h1 h2;unfold Alike at ha;unfold dep at hd;obtain⟨a,xs,rfl,q1,p1⟩:=h1;obtain⟨b,ys,e,q2,p2⟩:=h2;cases e
    rw[I.sP q2 q1]at p2;rw[hl (by lia) p1 p2 ha]
  | tup ds=>
   cases e with
   | sc w=>unfold Alike at ha;exact ha.elim
   | lst es=>unfold Alike at ha;exact ha.elim
   | tup es=>
    unfold Is at h1 h2;unfold Alike at ha;unfold dep at hd;obtain⟨a,xs,rfl,q1,p1⟩:=h1;obtain⟨b,ys,e,q2,p2⟩:=h2;cases e
    rw[I.oS q2 q1]at p2;rw[hl (by lia) p1 p2 ha]
open Classical in
noncomputable def eqD (d e:Dt):Bool:=decide (d=e)
theorem cX{d e:Dt}(h:d=e):eqD d e=true:=by unfold eqD;simp [h]
theorem dO{d e:Dt}(h:d≠e):eqD d e=false:=by unfold eqD;simp [h]
theorem eQ{d e:Dt}:eqD d e=true↔d=e:=by unfold eqD;simp
noncomputable def ck (ds es:List Dt)(j:Nat):Bool:=match ds[j]?,es[j]? with
 | some d,some e=>eqD d e
 | _,_=>true
theorem jK{ds es:List Dt}(hl:ds.length=es.length):(List.range ds.length).all (ck ds es)=true↔ds=es:=by
 rw[EW];constructor
 ·intro h;refine List.ext_getElem? fun j=>?_
  by_cases q:j<ds.length
  ·have:=h j (Eh.mpr q)
   unfold ck at this;rw[Dv q,Dv (by lia:j<es.length)]at this
   rw[Dv q,Dv (by lia:j<es.length),eQ.mp this]
  ·rw[Eg.mpr (by lia),Eg.mpr (by lia)]
 ·rintro rfl j hj;have q:=Eh.mp hj;unfold ck;rw[Dv q];exact cX rfl
noncomputable def EqJ (X:Cx)(H:Hp)(n:Nat)(x y:V)(b:Bool):Prop:=∀(pins:List (Addr×Obj))(s:Shared)(σ:L2.St)(u v:Value)(A:Around),Inv X pins σ H s->RelV x u->RelV y v->A.units+n<cLine->SeqAt.EqAt A s u v b
theorem i7{ds es:List Dt}{ys:List V}(hd:aZ ds<=n)(p1:IsL X.K H ds xs)(p2:IsL X.K H es ys)(ha:bB ds es)(ih:∀{d e:Dt}{x y:V},dep d<=n->Is X.K H d x->Is X.K H e y->Alike d e->EqJ X H n x y (eqD d e)){jts:List Value}(I:Inv X pins σ H s)(r1:Vals xs its)(r2:Vals ys jts)(hu:A.units+n<cLine) :
  ∀ j (h1:j<its.toArray.size) (h2:j<jts.toArray.size),SeqAt.EqAt A s its.toArray[j] jts.toArray[j] (ck ds es j):=by
 intro j h1 h2;simp only[D8]at h1 h2;have l1:=r1.length;have l2:=r2.length;obtain⟨d,e1,q1⟩:=iD p1 (Dv (by lia:j<xs.length))
 obtain⟨e,e2,q2⟩:=iD p2 (Dv (by lia:j<ys.length))
 obtain⟨u,hu1,ru⟩:=r1.get (Dv (by lia:j<xs.length))
 obtain⟨v,hv1,rv⟩:=r2.get (Dv (by lia:j<ys.length))
 have eu:its.toArray[j]=u:=by
  rw[Dv h1]at hu1;simpa using DL hu1
 have ev:jts.toArray[j]=v:=by
  rw[Dv h2]at hv1;simpa using DL hv1
 rw[eu,ev];unfold ck;rw[e1,e2];exact ih (Ea (md e1) hd) q1 q2 (nU ha e1 e2) pins s σ u v A I ru rv hu
theorem gS{ds es:List Dt}:(Dt.lst ds=Dt.lst es)↔ds=es:=⟨fun h=>by cases h;rfl,fun h=>by rw[h]⟩
theorem iE{ds es:List Dt}:(Dt.tup ds=Dt.tup es)↔ds=es:=⟨fun h=>by cases h;rfl,fun h=>by rw[h]⟩
theorem eqj:∀(n:Nat){d e:Dt}{x y:V},dep d<=n->Is X.K H d x->Is X.K H e y->Alike d e->EqJ X H n x y (eqD d e):=by
 intro n;have flat:∀{m:Nat} {v w x y:V},Is X.K H (.sc v) x->Is X.K H (.sc w) y->Alike (.sc v) (.sc w)->EqJ X H m x y (eqD (.sc v) (.sc w)):=fun {m v w x y} h1 h2 ha pins s σ u v' A I r1 r2 _=>by
  unfold Is at h1 h2;unfold Alike at ha;obtain⟨rfl,f1⟩:=h1;obtain⟨rfl,f2⟩:=h2
  have:=pq (A:=A) (s:=s) r1 r2 f1 f2
  rw[Ae f1 f2 ha]at this;have e:eqD (.sc x) (.sc y)=decide (x=y):=by
   by_cases q:x=y
   ·rw[DB q,cX (by rw[q])]
   ·rw[DT q,dO (fun z=>q (by cases z;rfl))]
  rw[e];exact this
 induction n with
 | zero=>
  intro d e x y hd h1 h2 ha;cases d with
  | sc v=>
   cases e with
   | sc w=>exact flat h1 h2 ha
   | lst es=>unfold Alike at ha;exact ha.elim
   | tup es=>unfold Alike at ha;exact ha.elim
  | lst ds=>unfold dep at hd;lia
  | tup ds=>unfold dep at hd;lia
 | succ n ih=>
  intro d e x y hd h1 h2 ha;cases d with
  | sc v=>
   cases e with
   | sc w=>exact flat h1 h2 ha
   | lst es=>unfold Alike at ha;exact ha.elim
   | tup es=>unfold Alike at ha;exact ha.elim
  | lst ds=>
   cases e with
   | sc w=>unfold Alike at ha;exact ha.elim
   | tup es=>unfold Alike at ha;exact ha.elim
   | lst es=>
    intro pins s σ u v A I r1 r2 hu;have h1':=h1;have h2':=h2;unfold Is at h1 h2;unfold Alike at ha;have hd':=hd;unfold dep at hd';obtain⟨a,xs,rfl,q1,p1⟩:=h1;obtain⟨b,ys,rfl,q2,p2⟩:=h2;cases r1
    cases r2
    by_cases hab:a=b
    ·subst hab;rw[cX (kO I (n+1) hd h1' h2' (by unfold Alike;exact ha))]
     exact SeqAt.EqAt.same _
    ·obtain⟨its,v1,pl1,_⟩:=I.list q1;obtain⟨jts,v2,pl2,_⟩:=I.list q2;have l1:=v1.length;have l2:=v2.length;have m1:=cV p1;have m2:=cV p2
     by_cases hlen:ds.length=es.length
     ·have:=SeqAt.EqAt.of_refs hab (SeqAt.RcAt.lists (A:=A) (s:=s) pl1.isList pl2.isList (by simp;lia) (by lia) (e:=ck ds es) (i7 (by lia) p1 p2 ha (fun h1 h2 h3 h4=>ih h1 h2 h3 h4) I v1 v2 (A:=A.in1) (by show A.units+1+n<cLine;lia)))
      have e:(List.range its.toArray.size).all (ck ds es)=eqD (.lst ds) (.lst es):=by
       rw[show its.toArray.size=ds.length by simp;lia]
       apply Ej.mpr;rw[jK hlen,eQ,gS]
      rw[e]at this;exact this
     ·rw[dO (fun z=>hlen (by rw[gS.mp z]))]
      exact SeqAt.EqAt.of_refs hab (SeqAt.RcAt.lists_lengths pl1.isList pl2.isList (by simp;lia) (by lia))
  | tup ds=>
   cases e with
   | sc w=>unfold Alike at ha;exact ha.elim
   | lst es=>unfold Alike at ha;exact ha.elim
   | tup es=>
    intro pins s σ u v A I r1 r2 hu;have h1':=h1;have h2':=h2;unfold Is at h1 h2;unfold Alike at ha;have hd':=hd;unfold dep at hd';obtain⟨a,xs,rfl,q1,p1⟩:=h1;obtain⟨b,ys,rfl,q2,p2⟩:=h2;cases r1
    cases r2
    by_cases hab:a=b
    ·subst hab;rw[cX (kO I (n+1) hd h1' h2' (by unfold Alike;exact ha))]
     exact SeqAt.EqAt.same _
    ·obtain⟨its,v1,pl1,_⟩:=I.tuple q1;obtain⟨jts,v2,pl2,_⟩:=I.tuple q2;have l1:=v1.length;have l2:=v2.length;have m1:=cV p1;have m2:=cV p2
     have:=SeqAt.EqAt.of_refs hab (SeqAt.RcAt.tuples (A:=A) (s:=s) (show s.heap.IsTuple a its.toArray from pl1) (show s.heap.IsTuple b jts.toArray from pl2) (by lia) (e:=ck ds es) (i7 (by lia) p1 p2 ha (fun h1 h2 h3 h4=>ih h1 h2 h3 h4) I v1 v2 (A:=A.in1) (by show A.units+1+n<cLine;lia)))
     have e:((List.range (min its.toArray.size jts.toArray.size)).all (ck ds es)&&its.toArray.size==jts.toArray.size)=eqD (.tup ds) (.tup es):=by
      by_cases hlen:ds.length=es.length
      ·rw[show min its.toArray.size jts.toArray.size=ds.length by simp;lia,show(its.toArray.size==jts.toArray.size)=true by simp;lia,Bool.and_true]
       apply Ej.mpr;rw[jK hlen,eQ,iE]
      ·rw[show(its.toArray.size==jts.toArray.size)=false by simp;lia,Fp,dO (fun z=>hlen (by rw[iE.mp z]))]
     rw[e]at this;exact this
noncomputable def mX:Dt->Bool
 | .sc _=>false
 | _=>true
noncomputable def sG (K:PySem.W.Frag)(neg:Bool):R2:=fun x y H Q=>∃ d e,Is K H d x/\Is K H e y/\Alike d e/\mX d=true/\dep d<=40/\Q (.bl (if neg then !eqD d e else eqD d e)) H
theorem rcD{x y:V}{d e:Dt}(I:Inv X pins σ H s)(r1:RelV x u)(r2:RelV y v)(h1:Is X.K H d x)(h2:Is X.K H e y)(ha:Alike d e)(hs:mX d=true)(hd:dep d<=40)(hu:A.units+41<cLine) :
  SeqAt.RcAt A s u v (eqD d e)/\SeqAt.RcNeAt A s u v (!eqD d e):=by
 cases d with
 | sc v=>cases hs
 | lst ds=>
  cases e with
  | sc w=>unfold Alike at ha;exact ha.elim
  | tup es=>unfold Alike at ha;exact ha.elim
  | lst es=>
   unfold Is at h1 h2;unfold Alike at ha;unfold dep at hd;obtain⟨a,xs,rfl,q1,p1⟩:=h1;obtain⟨b,ys,rfl,q2,p2⟩:=h2;cases r1
   cases r2
   obtain⟨its,v1,pl1,_⟩:=I.list q1;obtain⟨jts,v2,pl2,_⟩:=I.list q2;have l1:=v1.length;have l2:=v2.length;have m1:=cV p1;have m2:=cV p2
   by_cases hlen:ds.length=es.length
   ·have parts:=i7 (X:=X) (n:=40) (ds:=ds) (es:=es) (by lia) p1 p2 ha (fun h1 h2 h3 h4=>eqj 40 h1 h2 h3 h4) I v1 v2 (A:=A.in1) (by show A.units+1+40<cLine;lia)
    have t1:=SeqAt.RcAt.lists (A:=A) (s:=s) pl1.isList pl2.isList (by simp;lia) (by lia) (e:=ck ds es) parts
    have t2:=SeqAt.RcNeAt.lists (A:=A) (s:=s) pl1.isList pl2.isList (by simp;lia) (by lia) (e:=ck ds es) parts
    have e:(List.range its.toArray.size).all (ck ds es)=eqD (.lst ds) (.lst es):=by
     rw[show its.toArray.size=ds.length by simp;lia]
     apply Ej.mpr;rw[jK hlen,eQ,gS]
    rw[e]at t1 t2;exact⟨t1,t2⟩
   ·rw[dO (fun z=>hlen (by rw[gS.mp z]))]
    exact⟨SeqAt.RcAt.lists_lengths pl1.isList pl2.isList (by simp;lia) (by lia),SeqAt.RcNeAt.lists_lengths pl1.isList pl2.isList (by simp;lia) (by lia)⟩
 | tup ds=>
  cases e with
  | sc w=>unfold Alike at ha;exact ha.elim
  | lst es=>unfold Alike at ha;exact ha.elim
  | tup es=>
   unfold Is at h1 h2;unfold Alike at ha;unfold dep at hd;obtain⟨a,xs,rfl,q1,p1⟩:=h1;obtain⟨b,ys,rfl,q2,p2⟩:=h2;cases r1
   cases r2
   obtain⟨its,v1,pl1,_⟩:=I.tuple q1;obtain⟨jts,v2,pl2,_⟩:=I.tuple q2;have l1:=v1.length;have l2:=v2.length;have m1:=cV p1;have m2:=cV p2;have parts:=i7 (X:=X) (n:=40) (ds:=ds) (es:=es) (by lia) p1 p2 ha (fun h1 h2 h3 h4=>eqj 40 h1 h2 h3 h4) I v1 v2 (A:=A.in1) (by show A.units+1+40<cLine;lia)
   have t1:=SeqAt.RcAt.tuples (A:=A) (s:=s) (show s.heap.IsTuple a its.toArray from pl1) (show s.heap.IsTuple b jts.toArray from pl2) (by lia) (e:=ck ds es) parts
   have t2:=SeqAt.RcNeAt.tuples (A:=A) (s:=s) (show s.heap.IsTuple a its.toArray from pl1) (show s.heap.IsTuple b jts.toArray from pl2) (by lia) (e:=ck ds es) parts
   have e:((List.range (min its.toArray.size jts.toArray.size)).all (ck ds es)&&its.toArray.size==jts.toArray.size)=eqD (.tup ds) (.tup es):=by
    by_cases hlen:ds.length=es.length
    ·rw[show min its.toArray.size jts.toArray.size=ds.length by simp;lia,show(its.toArray.size==jts.toArray.size)=true by simp;lia,Bool.and_true]
     apply Ej.mpr;rw[jK hlen,eQ,iE]
    ·rw[show(its.toArray.size==jts.toArray.size)=false by simp;lia,Fp,dO (fun z=>hlen (by rw[iE.mp z]))]
   rw[e]at t1 t2;exact⟨t1,t2⟩
theorem Be(hu:X.A.units+64<cLine):OpR X (compareOp .Eq) (sG X.K false):=by
 intro pins s σ H x y u v Q I rx ry h;obtain⟨d,e,h1,h2,ha,hs,hd,q⟩:=h
 exact(rcD I rx ry h1 h2 ha hs hd (by lia)).1 X.prog X.w _ _ ⟨.bl (eqD d e),H,I,rfl,q⟩
theorem fw(hu:X.A.units+64<cLine):OpR X (compareOp .NotEq) (sG X.K true):=by
 intro pins s σ H x y u v Q I rx ry h;obtain⟨d,e,h1,h2,ha,hs,hd,q⟩:=h
 exact(rcD I rx ry h1 h2 ha hs hd (by lia)).2 X.prog X.w _ _ ⟨.bl (!eqD d e),H,I,rfl,q⟩
noncomputable def AK (K:PySem.W.Frag)(neg:Bool):R2:=fun x y H Q=>∃ d a xs ds,y=.ref a/\SqL K H a xs/\IsL K H ds xs/\Is K H d x/\(∀ e∈ds,Alike e d/\dep e<=40)/\Q (.bl (if neg then !ds.any (fun e=>eqD e d) else ds.any (fun e=>eqD e d))) H
end
noncomputable def Eqs (P:Program)(w:World)(A:Around)(s:Shared)(u v:Value):Prop:=∀(E:Value->Shared->Prop)(Q:Bool->Shared->Prop),Q true s->wpAny (model P w) A (eqBool u v) Q E s
section
variable {P:Program}{w:World}{A:Around}{s:Shared}
theorem Eqs.refs(h:∀(E:Value->Shared->Prop)(Q:Value->Shared->Prop),Q (.bool true) s->wpAny (model P w) A (richCompare .Eq (.ref a) (.ref b)) Q E s):Eqs P w A s (.ref a) (.ref b):=fun E Q hq=>by
 by_cases hab:a=b
 ·subst hab;exact SeqAt.EqAt.same _ P w E Q hq
 ·unfold eqBool;refine Ew (wpAny_ite_split (fun z=>absurd (by have:=eq_of_beq z;injection this) hab) (fun _=>?_))
  exact De (h E _ (ER hq))
end
section
variable {X:Cx}
end
theorem PE.weak{t t':TE}(h:PE X e t)(k:∀ σ H Q,t' σ H Q->t σ H Q):PE X e t':=fun pins s σ H Q I w=>h pins s σ H Q I (k σ H Q w)
theorem PS.weak{st:Stmt}{t t':TS}(h:PS X st t)(k:∀ D σ H,t' D σ H->t D σ H):PS X st t':=fun pins s σ H D I w=>h pins s σ H D I (k D σ H w)
theorem OpR.weak{f:Value->Value->Sem Value}{r r':R2}(h:OpR X f r)(k:∀ x y H Q,r' x y H Q->r x y H Q):OpR X f r':=fun pins s σ H x y v u Q I rx ry w=>h pins s σ H x y v u Q I rx ry (k x y H Q w)
theorem aD.weak{f:Value}{r r':List V->Hp->VK->Prop}(h:aD X f r)(k:∀ xs H Q,r' xs H Q->r xs H Q):aD X f r':=fun pins s σ H xs us Q I r w=>h pins s σ H xs us Q I r (k xs H Q w)
theorem MtR.weak{id:String}{r r':V->List V->Hp->VK->Prop}(h:MtR X id r)(k:∀ x xs H Q,r' x xs H Q->r x xs H Q):MtR X id r':=fun pins s σ H x xs v us Q I r1 r2 w=>h pins s σ H x xs v us Q I r1 r2 (k x xs H Q w)
noncomputable def aU (C:Prop):Prop:=C
noncomputable def Ext (H H':Hp):Prop:=∀ b o,H b=some o->H' b=some o
theorem Ext.refl:Ext H H:=fun _ _ h=>h
theorem Ext.trans(a:Ext H H1)(b:Ext H1 H2):Ext H H2:=fun c o h=>b c o (a c o h)
theorem Ext.up{o:HO}(e:Ext H H')(h:H a=some o):H' a=some o:=e a o h
theorem Ext.free(e:Ext H H')(h:H' p=none):H p=none:=by
 cases q:H p with
 | none=>rfl
 | some o=>rw[e p o q]at h;cases h
theorem cU{o:HO}(h:H p=none):Ext H (upd H p o):=fun b u q=>by rw[ao (aB q h)];exact q
theorem Ext.same(e:Ext H H'):L2.eE H H':=e
noncomputable def New (H:Hp)(o:HO)(Q:VK):Prop:=∀ p H',H p=none->H' p=some o->Ext H H'->Q (.ref p) H'
theorem New.at{o:HO}{Q:VK}(h:New H o Q)(hp:H p=none):Q (.ref p) (upd H p o):=h p _ hp aW (cU hp)
noncomputable def But (l:Addr)(H H':Hp):Prop:=∀ b,b≠l->H' b=H b
theorem But.up(m:But l H H'){o:HO}(n:a≠l)(h:H a=some o):H' a=some o:=by rw[m a n];exact h
noncomputable def cN (H:Hp)(l:Addr)(o:HO)(K:Hp->Prop):Prop:=∀ H',H' l=some o->But l H H'->K H'
theorem cN.at{o:HO}{K:Hp->Prop}(h:cN H l o K):K (upd H l o):=h _ aW fun b hb=>ao hb
noncomputable def RdL (H:Hp)(a:Addr)(xs:List V):Prop:=Rd H a (.lst xs)
noncomputable def RdT (H:Hp)(a:Addr)(xs:List V):Prop:=Rd H a (.tup xs)
noncomputable def RdD (H:Hp)(a:Addr)(kvs:List (L2.Key×V)):Prop:=Rd H a (.dK kvs)
theorem Ext.rd{u:HO}(e:Ext H H')(h:Rd H a u):Rd H' a u:=by
 rcases h with h|⟨o,h⟩
 ·exact .inl (e _ _ h)
 ·exact .inr ⟨o,e _ _ h⟩
theorem RdL.sq{K:PySem.W.Frag}(h:RdL H a xs):SqL K H a xs:=.inl h
theorem RdT.sq{K:PySem.W.Frag}(h:RdT H a xs):SqT K H a xs:=.inl h
section
variable {X:Cx}
noncomputable def mB (i:Nat):TE:=fun σ H Q=>match σ[i]? with|some (some v)=>Q v H|_=>False
theorem wx(σ:L2.St)(H:Hp)(Q:VK)(h:mB i σ H Q):lY i σ H Q:=by
 unfold mB at h;unfold lY
 split at h
 ·rename_i v e;exact⟨v,e,h⟩
 ·exact h.elim
theorem q_v(i:Nat)(hN:X.N[i]? =some x:=by rfl)(hv:Vis X.env.scope x:=by first|exact Or.inl rfl|exact Or.inr (Or.inl rfl)|exact Or.inr (Or.inr rfl))(hd:(x==("__debug__":Str))=false:=by decide) (hcd:(x==("__classdict__":Str))=false:=by decide):PE X (.Name x pos) (mB i):=PE.weak (AU hN hv hd hcd) wx
noncomputable def uI (C:Int->Int->Prop)(g:Int->Int->V):R2:=fun x y H Q=>match x,y with
 | .int i,.int j=>aU (C i j)/\Q (g i j) H
 | _,_=>False
theorem jE{C:Int->Int->Prop}{g:Int->Int->V}(x y:V)(H:Hp)(Q:VK)(h:uI C g x y H Q):rI C g x y H Q:=by
 unfold uI at h
 split at h
 ·exact⟨_,_,rfl,rfl,h.1,h.2⟩
 ·exact h.elim
noncomputable def uI0 (g:Int->Int->V):R2:=fun x y H Q=>match x,y with
 | .int i,.int j=>Q (g i j) H
 | _,_=>False
theorem nW{g:Int->Int->V}(x y:V)(H:Hp)(Q:VK)(h:uI0 g x y H Q):rI0 g x y H Q:=by
 unfold uI0 at h
 split at h
 ·exact⟨_,_,rfl,rfl,h⟩
 ·exact h.elim
noncomputable def qW:R2:=fun x y H Q=>match x,y with
 | .int i,.int j=>Q (.int (i+j)) H
 | .str i,.str j=>aU (i.length+j.length<=sizeLine)/\Q (.str (i++j)) H
 | .ref a,.ref b=>∃ xs,H a=some (.lst xs)/\∃ ys,H b=some (.lst ys)/\aU (xs.length+ys.length<=sizeLine)/\New H (.lst (xs++ys)) Q
 | _,_=>False
theorem bW:OpR X (binaryOp .Add) qW:=by
 intro pins s σ H x y v u Q I rx ry h;unfold qW at h
 split at h
 ·exact Aa pins s σ H _ _ v u Q I rx ry ⟨_,_,rfl,rfl,h⟩
 ·exact Cp pins s σ H _ _ v u Q I rx ry ⟨_,_,rfl,rfl,h.1,h.2⟩
 ·obtain⟨xs,ha,ys,hb,hz,q⟩:=h;exact wc pins s σ H _ _ v u Q I rx ry ⟨_,_,xs,ys,rfl,rfl,ha,hb,hz,fun p hp=>q.at hp⟩
 ·exact h.elim
theorem fX:OpR X (binaryOp .Mult) (uI jQ fun i j=>.int (i*j)):=OpR.weak Cd jE
theorem cn:OpR X (binaryOp .FloorDiv) (uI rq fun i j=>.int (i / j)):=OpR.weak Cu jE
theorem bE:OpR X (binaryOp .Mod) (uI (fun _ j=>0<j) fun i j=>.int (i%j)):=OpR.weak vw jE
theorem rR:OpR X (compareOp .Lt) (uI0 fun i j=>.bl (decide (i<j))):=OpR.weak wM nW
theorem kC:OpR X (compareOp .LtE) (uI0 fun i j=>.bl (decide (i<=j))):=OpR.weak uy nW
theorem nM:OpR X (compareOp .Gt) (uI0 fun i j=>.bl (decide (j<i))):=OpR.weak BS nW
theorem du:OpR X (compareOp .Eq) rEq:=yD
theorem wJ:OpR X (compareOp .NotEq) rNe:=xa
noncomputable def iT (neg:Bool):R2:=fun x y H Q=>match y with
 | .non=>Q (.bl (if neg then !decide (x=.non) else decide (x=.non))) H
 | _=>False
theorem wt:OpR X (compareOp .Is) (iT false):=OpR.weak A3 fun x y H Q h=>by unfold iT at h;split at h;exact⟨rfl,h⟩;exact h.elim
theorem oB:OpR X (compareOp .IsNot) (iT true):=OpR.weak wa fun x y H Q h=>by unfold iT at h;split at h;exact⟨rfl,h⟩;exact h.elim
noncomputable def jL (neg:Bool):R2:=fun x y H Q=>match y with
 | .ref p=>∃ xs,RdL H p xs/\aU (bI x=true/\xs.all bI=true)/\Q (.bl (if neg then !inV x xs else inV x xs)) H
 | _=>False
theorem px{K:PySem.W.Frag}{neg:Bool}(x y:V)(H:Hp)(Q:VK)(h:jL neg x y H Q):rIn K neg x y H Q:=by
 unfold jL at h
 split at h
 ·obtain⟨xs,h1,⟨h2,h3⟩,q⟩:=h;exact⟨_,xs,rfl,.inl h1.sq,h2,h3,q⟩
 ·exact h.elim
theorem tU:OpR X (compareOp .In) (jL false):=OpR.weak rM px
theorem sU:OpR X (compareOp .NotIn) (jL true):=OpR.weak yA px
noncomputable def qK (neg:Bool):R2:=fun x y H Q=>match x,y with
 | .str i,.str j=>Q (.bl (if neg then !(!(Builtin.Str.occurrences j i 0 j.length 1).isEmpty) else !(Builtin.Str.occurrences j i 0 j.length 1).isEmpty)) H
 | _,_=>False
theorem yc:OpR X (compareOp .In) (qK false):=OpR.weak vn fun x y H Q h=>by unfold qK at h;split at h;exact⟨_,_,rfl,rfl,h⟩;exact h.elim
noncomputable def uT (t:TE):TT:=fun σ H Q=>t σ H fun x H'=>match x with | .bl k=>Q k H'|_=>False
end
section
variable {X:Cx}{a b c:Expr}{ta tb tc:TE}{pos:Pos}
theorem zL{op:CmpOp}{r:R2}(ho:OpR X (compareOp op) r)(ha:PE X a ta)(hb:PE X b tb)(hm:behindInMarks op b=false):PT X (.Compare a [op] [b] pos) (uT (tOp r ta tb)):=by
 intro pins s σ H Q I h;refine wpAny_isTrue_Compare1 (thn (ha pins s σ H _ I h) fun v s1 ⟨x,H1,I1,r1,q1⟩=>thn (hb pins s1 σ H1 _ I1 q1) fun u s2 ⟨y,H2,I2,r2,q2⟩=>
  thn (ho pins s2 σ H2 x y v u _ I2 r1 r2 q2) fun c s3 ⟨z,H3,I3,r3,q3⟩=>?_) hm
 dsimp only at q3
 split at q3
 ·cases r3
  exact ER ⟨H3,I3,q3⟩
 ·exact q3.elim
theorem ka{t:TE}(h:PE X e t)(he:∀ whole,isTrue e X.env whole=(do let v <-whole;standAt e.pos;holding [v] (truthy v)):=by intro _;rfl):PT X e (uT t):=by
 intro pins s σ H Q I hw;refine isTrue_plain (thn (h pins s σ H _ I hw) fun v s1 ⟨x,H1,I1,r1,q1⟩=>?_) (he _)
 dsimp only at q1
 split at q1
 ·cases r1
  exact ER ⟨H1,I1,q1⟩
 ·exact q1.elim
noncomputable def uTL (t:TE):TT:=fun σ H Q=>t σ H fun x H'=>match x with | .ref p=>∃ xs,RdL H' p xs/\Q (!xs.isEmpty) H'|_=>False
theorem pG{t:TE}(h:PE X e t)(he:∀ whole,isTrue e X.env whole=(do let v <-whole;standAt e.pos;holding [v] (truthy v)):=by intro _;rfl):PT X e (uTL t):=by
 intro pins s σ H Q I hw;refine isTrue_plain (thn (h pins s σ H _ I hw) fun v s1 ⟨x,H1,I1,r1,q1⟩=>?_) (he _)
 dsimp only at q1
 split at q1
 ·obtain⟨xs,hx,q⟩:=q1;exact qc pins s1 σ H1 _ v Q I1 r1 ⟨_,.inl ⟨xs,hx.sq,rfl⟩,q⟩
 ·exact q1.elim
noncomputable def qf (r r':R2)(ta tb tc:TE):TE:=fun σ H Q=>ta σ H fun x H1=>tb σ H1 fun y H2=>r x y H2 fun z H3=>match z with
 | .bl k=>(if k=true then tc σ H3 fun w' H4=>r' y w' H4 Q else Q (.bl false) H3)
 | _=>False
theorem yb{op op':CmpOp}{r r':R2}(ho:OpR X (compareOp op) r)(ho':OpR X (compareOp op') r')(ha:PE X a ta)(hb:PE X b tb)(hc:PE X c tc)(hm:lastMarks [op,op'] [b,c]=false:=by with_unfolding_all rfl):PE X (.Compare a [op,op'] [b,c] pos) (qf r r' ta tb tc):=by
 intro pins s σ H Q I h;refine Compare_chain (thn (ha pins s σ H _ I h) fun v s1 ⟨x,H1,I1,r1,q1⟩=>chain_link (thn (hb pins s1 σ H1 _ I1 q1) fun u s2 ⟨y,H2,I2,r2,q2⟩=>
  thn (ho pins s2 σ H2 x y v u _ I2 r1 r2 q2) fun d s3 ⟨z,H3,I3,r3,q3⟩=>?_)) hm
 dsimp only at q3
 split at q3
 ·rename_i k
  cases r3
  refine ER ?_;cases k with
  | false=>exact ite_ff ⟨.bl false,H3,I3,rfl,q3⟩
  | true=>exact ite_tt (chain_last (thn (hc pins s3 σ H3 _ I3 q3) fun w' s4 ⟨z',H4,I4,r4,q4⟩=>ho' pins s4 σ H4 y z' u w' Q I4 r2 r4 q4))
 ·exact q3.elim
theorem vc{op op':CmpOp}{r r':R2}(ho:OpR X (compareOp op) r)(ho':OpR X (compareOp op') r')(ha:PE X a ta)(hb:PE X b tb)(hc:PE X c tc)(hm:lastMarks [op,op'] [b,c]=false:=by with_unfolding_all rfl):PT X (.Compare a [op,op'] [b,c] pos) (uT (qf r r' ta tb tc)):=by
 intro pins s σ H Q I h;refine isTrue_chain (thn (ha pins s σ H _ I h) fun v s1 ⟨x,H1,I1,r1,q1⟩=>test_link (thn (hb pins s1 σ H1 _ I1 q1) fun u s2 ⟨y,H2,I2,r2,q2⟩=>
  thn (ho pins s2 σ H2 x y v u _ I2 r1 r2 q2) fun d s3 ⟨z,H3,I3,r3,q3⟩=>?_)) hm
 dsimp only at q3
 split at q3
 ·rename_i k
  cases r3
  refine ER ?_;cases k with
  | false=>exact ite_ff ⟨H3,I3,q3⟩
  | true=>
   refine ite_tt (test_last (thn (hc pins s3 σ H3 _ I3 q3) fun w' s4 ⟨z',H4,I4,r4,q4⟩=>thn (ho' pins s4 σ H4 y z' u w' _ I4 r2 r4 q4) fun d' s5 hZ=>?_))
   obtain⟨z2,H5,I5,r5,q5⟩:=hZ
   try dsimp only at q5
   split at q5
   ·cases r5
    exact ER ⟨H5,I5,q5⟩
   ·exact q5.elim
 ·exact q3.elim
noncomputable def xw (ta tb:TE):TE:=fun σ H Q=>ta σ H fun x H1=>match x with | .bl c=>(if c=true then tb σ H1 Q else Q (.bl false) H1)|_=>False
variable {rest:List Expr}
theorem qd(ha:PE X a ta)(hb:PE X (.BoolOp .And (b::rest) pos) tb):PE X (.BoolOp .And (a::b::rest) pos) (xw ta tb):=by
 intro pins s σ H Q I h;refine BoolOp_and (thn (ha pins s σ H _ I h) fun v s1 hZ=>?_)
 obtain⟨x,H1,I1,r1,q1⟩:=hZ
 try dsimp only at q1
 split at q1
 ·rename_i c
  cases r1
  refine ER ?_;cases c with
  | false=>exact⟨.bl false,H1,I1,rfl,q1⟩
  | true=>exact hb pins s1 σ H1 Q I1 q1
 ·exact q1.elim
end
noncomputable def clE (t:TE):TE:=fun σ H Q=>∃ Q0:VK,t σ H Q0/\∀ v H',Q0 v H'->Q v H'
noncomputable def clA (t:TA):TA:=fun σ H Q=>∃ Q0:List V->Hp->Prop,t σ H Q0/\∀ v H',Q0 v H'->Q v H'
theorem PE.cl{t:TE}(h:PE X e t):PE X e (clE t):=fun pins s σ H Q I ⟨Q0,w,k⟩=>thn (h pins s σ H Q0 I w) fun _ _ ⟨v,H',I',r,q⟩=>⟨v,H',I',r,k v H' q⟩
theorem PA.cl{es:List Expr}{t:TA}(h:PA X es t):PA X es (clA t):=fun pos pins s σ H Q I ⟨Q0,w,k⟩=>thn (h pos pins s σ H Q0 I w) fun _ _ ⟨v,H',I',r,q⟩=>⟨v,H',I',r,k v H' q⟩
section
variable {X:Cx}{a b c e o:Expr}{ta tb tc te:TE}{pos:Pos}
noncomputable def qZ:R2:=fun x y H Q=>match x,y with
 | .ref p,.int i=>∃ xs,RdL H p xs/\∃ v,atI xs i=some v/\Q v H
 | .str z,.int i=>aU (z.length<=sizeLine)/\∃ c,atI z.cps.toList i=some c/\Q (.str ⟨#[c]⟩) H
 | _,_=>False
theorem cz:IxR X qZ:=by
 intro value slice pins s σ H x y v u Q I rx ry h;unfold qZ at h
 split at h
 ·obtain⟨xs,hx,w,hw,q⟩:=h;exact Bx value slice pins s σ H _ _ v u Q I rx ry ⟨_,xs,_,w,rfl,rfl,hx.sq,hw,q⟩
 ·obtain⟨hz,c,hc,q⟩:=h;exact zI value slice pins s σ H _ _ v u Q I rx ry ⟨_,_,c,rfl,rfl,hz,hc,q⟩
 ·exact h.elim
noncomputable def pN:R2:=fun x y H Q=>match x,y with
 | .ref p,.int i=>∃ xs,RdT H p xs/\∃ v,atI xs i=some v/\Q v H
 | _,_=>False
theorem ek:IxR X pN:=by
 intro value slice pins s σ H x y v u Q I rx ry h;unfold pN at h
 split at h
 ·obtain⟨xs,hx,w,hw,q⟩:=h;exact zG value slice pins s σ H _ _ v u Q I rx ry ⟨_,xs,_,w,rfl,rfl,hx.sq,hw,q⟩
 ·exact h.elim
noncomputable def wY (t:TE):TO:=fun σ H Q=>t σ H fun x H1=>match x with | .int i=>Q (some i) H1|_=>False
theorem eF(h:PE X e te):PO X (some e) (wY te):=by
 intro pins s σ H Q I hw;rw[evalPart_some];refine thn (h pins s σ H _ I hw) fun u s1 hZ=>?_
 obtain⟨x,H1,I1,r1,q1⟩:=hZ
 try dsimp only at q1
 split at q1
 ·obtain⟨t,rfl⟩:=r1;exact⟨some _,H1,I1,.int _ t,q1⟩
 ·exact q1.elim
noncomputable def uSl:V->Option Int->Option Int->Hp->VK->Prop:=fun x lo hi H Q=>match x with
 | .ref p=>∃ xs,RdL H p xs/\New H (.lst (dq xs lo hi)) Q
 | .str z=>aU (z.length<=sizeLine)/\Q (.str (Txt.slice z lo hi)) H
 | _=>False
theorem gj:SlR X uSl:=by
 intro pins s σ H x v vl vu lo hi sl Q I rx hs pl pu h;unfold uSl at h
 split at h
 ·obtain⟨xs,hx,q⟩:=h;exact wq pins s σ H _ v vl vu lo hi sl Q I rx hs pl pu ⟨_,xs,rfl,hx.sq,fun p hp=>q.at hp⟩
 ·exact zU pins s σ H _ v vl vu lo hi sl Q I rx hs pl pu ⟨_,rfl,h.1,h.2⟩
 ·exact h.elim
noncomputable def uRev (te:TE):TE:=fun σ H Q=>te σ H fun x H1=>match x with
 | .ref p=>∃ xs,RdL H1 p xs/\New H1 (.lst xs.reverse) Q
 | _=>False
noncomputable def ve (t:TA):TE:=fun σ H Q=>t σ H fun xs H1=>aU (xs.length<=sizeLine)/\New H1 (.lst xs) Q
noncomputable def CN (t:TA):TE:=fun σ H Q=>t σ H fun xs H1=>aU (xs.length<=sizeLine)/\New H1 (.tup xs) Q
variable {es:List Expr}{t:TA}
theorem bf(h:PA X es t):PE X (.List es pos) (ve t):=by
 intro pins s σ H Q I hq;refine wpAny_List_spliced (thn (h pos pins s σ H _ I hq) fun us s1 ⟨xs,H1,I1,r,z,q⟩=>⟨by rw[<-r.length];exact z,?_⟩)
 have hf:H1 s1.heap.objs.size=none:=I1.hok.fresh (Di _);exact⟨.ref s1.heap.objs.size,upd H1 s1.heap.objs.size (.lst xs),I1.laid (t':=s1.toks) (fun b u e=>Dh _ e) (Di _) ⟨z,us,0,r,DE _ rfl⟩,rfl,q.at hf⟩
theorem dj{x1}(h:PA X es t):PE X (.Tuple es x1 pos) (CN t):=by
 intro pins s σ H Q I hq;refine wpAny_Tuple_spliced (thn (h pos pins s σ H _ I hq) fun us s1 ⟨xs,H1,I1,r,z,q⟩=>⟨by rw[<-r.length];exact z,?_⟩)
 have hf:H1 s1.heap.objs.size=none:=I1.hok.fresh (Di _);exact⟨.ref s1.heap.objs.size,upd H1 s1.heap.objs.size (.tup xs),I1.laid (t':=s1.toks) (fun b u e=>Dh _ e) (Di _) ⟨z,us,r,⟨_,DE _ rfl,rfl,_,rfl⟩⟩,rfl,q.at hf⟩
noncomputable def Bg:TE:=fun _ H Q=>New H (.dK []) Q
theorem mG:PE X (.Dict [] [] pos) Bg:=PE.weak yZ fun _ _ _ h p hp=>h.at hp
noncomputable def vp (C:Addr)(ta:TE)(f:Str):TE:=fun σ H Q=>ta σ H fun x H1=>match x with
 | .ref p=>∃ dx fs,H1 p=some (.ins C dx fs)/\∃ v,fs.lookup f=some v/\Q v H1
 | _=>False
theorem ji{f:Str}(cl:Cls X.K C)(na:cB X.K C f)(he:PE X e ta)(hb:attributeBase e f X.env (eval e X.env)=eval e X.env:=by rfl):PE X (.Attribute e f pos) (vp C ta f):=
 PE.weak (Bm (PE.cl he) hb) fun σ H Q h=>⟨_,h,fun x H1 q=>by
  try dsimp only at q
  split at q
  ·obtain⟨dx,fs,h1,v,h2,q⟩:=q;exact⟨_,C,dx,fs,v,rfl,h1,cl,na,h2,q⟩
  ·exact q.elim⟩
noncomputable def BM (C:Addr)(ta tv:TE)(f:Str):TS:=fun D σ H=>tv σ H fun y H1=>ta σ H1 fun x H2=>match x with
 | .ref p=>∃ dx fs,H2 p=some (.ins C dx fs)/\aU (fs.length<1000)/\cN H2 p (.ins C dx (bV f y fs)) (D.nx σ)
 | _=>False
theorem gI{f:Str}{value:Expr}{tv:TE}(cl:Cls X.K C)(na:cB X.K C f)(ha:PE X o ta)(hv:PE X value tv)(hs:swapsWith value (some (.Attribute o f pos')) pos.line X.env=pure false:=by rfl):PS X (.Assign [.Attribute o f pos'] value pos) (BM C ta tv f):=
 PS.weak (yO (PE.cl ha) (PE.cl hv) hs) fun D σ H h=>⟨_,h,fun y H1 h1=>⟨_,h1,fun x H2 q=>by
  try dsimp only at q
  split at q
  ·obtain⟨dx,fs,h1,h2,q⟩:=q;exact⟨_,C,dx,fs,rfl,h1,cl,na,h2,q.at⟩
  ·exact q.elim⟩⟩
variable {CX:CXT}{k:Nat}{f C:Addr}{fd:FuncData}{ps:List Str}{sp:Sp}{dvs:List V}{ds:List Value}{E:XK}{x m:Str}{p apos:Pos}
structure Known (P:Program)(w:World)(K:PySem.W.Frag)(mg:Str->Option Value)(base:Heap)(k:Nat)(x:Str)(ps:List Str)(sp:Sp):Prop where
 ex:∃ f fd,ar P w K mg base CX0 k f fd ps sp/\mg x=some (.ref f)/\PySem.W.keepIn K (.ref f)=true/\Binds K fd ps []
noncomputable def xK (sp:Sp)(t:TA):TE:=fun σ H Q=>t σ H fun vs H1=>sp vs H1 Q E0
theorem aH(F:Known X.prog X.w X.K X.mg X.base k x ps sp)(hr:aA k X.A)(ha:PA X (e::es) t)(hg:Gl X x:=by rfl)(hdb:(x==("__debug__":Str))=false:=by decide) (he:starEach (e::es) X.env=(false,eval e X.env)::starEach es X.env:=by rfl) (hpl:(backTo pos (starEach es X.env)).any (·.1)=false:=by rfl):PE X (.Call (.Name x p) (e::es) [] pos) (xK sp t):=by
 obtain⟨f,fd,F,mgf,kp,b⟩:=F.ex;refine PE.weak (uB F hr hg mgf kp b .nil (iz (X:=X)) (PA.cl ha) hdb he hpl) fun σ H Q h=>⟨_,h,fun vs H1 q=>?_⟩
 show sp (vs++[]) H1 Q E0
 rw[D9];exact q
structure c9 (P:Program)(w:World)(K:PySem.W.Frag)(mg:Str->Option Value)(base:Heap)(k:Nat)(C:Addr)(m:Str)(ps:List Str)(sp:Sp):Prop where
 ex:∃ f fd,ar P w K mg base CX0 k f fd ps sp/\Meth K C m f/\Binds K fd ps []
noncomputable def pY (C:Addr)(m:Str)(sp:Sp)(ta:TE)(t:TA):TE:=fun σ H Q=>ta σ H fun x H1=>match x with
 | .ref a=>∃ dx fs,H1 a=some (.ins C dx fs)/\aU (fs.lookup m=none)/\t σ H1 fun vs H2=>sp (.ref a::vs) H2 Q E0
 | _=>False
theorem rQ{pl:Sem Bool}(he:PE X o ta)(c:Cls X.K C)(F:c9 X.prog X.w X.K X.mg X.base k C m ps sp)(hr:aA k X.A)(ha:PA X (e::es) t)(hst:starEach (e::es) X.env=(false,eval e X.env)::starEach es X.env:=by rfl)(hpl:(backTo pos (starEach es X.env)).any (·.1)=false:=by rfl)(ht:eval (.Call (.Attribute o m apos) (e::es) [] pos) X.env=(do
   let ov <-eval o X.env
   standAt apos.atName
   let (f,first) <-holding [ov] (getMethod ov m pl)
   callWith pos f first (backTo pos (starEach (e::es) X.env)) (backToKw pos (keywordEach [] X.env))):=by rfl):PE X (.Call (.Attribute o m apos) (e::es) [] pos) (pY C m sp ta t):=by
 obtain⟨f,fd,F,me,b⟩:=F.ex;refine PE.weak (Cb (PE.cl he) c me F hr b .nil (iz (X:=X)) (PA.cl ha) hst hpl ht) fun σ H Q h=>⟨_,h,fun x H1 q=>?_⟩
 try dsimp only at q
 split at q
 ·obtain⟨dx,fs,h1,h2,q⟩:=q;exact⟨_,dx,fs,rfl,h1,h2,_,q,fun vs H2 q=>by show sp (_::(vs++[])) H2 Q E0;rw[D9];exact q⟩
 ·exact q.elim
theorem kJ{pl:Sem Bool}(he:PE X o ta)(c:Cls X.K C)(F:c9 X.prog X.w X.K X.mg X.base k C m ps sp)(hr:aA k X.A)(ht:eval (.Call (.Attribute o m apos) [] [] pos) X.env=(do
   let ov <-eval o X.env
   standAt apos.atName
   let (f,first) <-holding [ov] (getMethod ov m pl)
   callWith pos f first (backTo pos (starEach [] X.env)) (backToKw pos (keywordEach [] X.env))):=by rfl):PE X (.Call (.Attribute o m apos) [] [] pos) (pY C m sp ta eO):=by
 obtain⟨f,fd,F,me,b⟩:=F.ex;refine PE.weak (Bn (PE.cl he) c me F hr b .nil (iz (X:=X)) ht) fun σ H Q h=>⟨_,h,fun x H1 q=>?_⟩
 try dsimp only at q
 split at q
 ·obtain⟨dx,fs,h1,h2,q⟩:=q;exact⟨_,dx,fs,rfl,h1,h2,by
   show sp (.ref _::([]++[])) H1 Q E0
   exact q⟩
 ·exact q.elim
structure jJ (P:Program)(w:World)(K:PySem.W.Frag)(mg:Str->Option Value)(base:Heap)(k:Nat)(x:Str)(C:Addr)(ps:List Str)(sp:Sp):Prop where
 ex:∃ f fd,Mk K C f/\ar P w K mg base CX0 k f fd ps sp/\mg x=some (.ref C)/\Binds K fd ps []
noncomputable def wW (C:Addr)(sp:Sp)(t:TA):TE:=fun σ H Q=>t σ H fun vs H1=>∀ x dx H',H1 x=none->H1 dx=none->H' x=some (.ins C dx [])->Ext H1 H' →
 sp (.ref x::vs) H' (fun v H2=>v=.non/\Q (.ref x) H2) E0
theorem AA(F:jJ X.prog X.w X.K X.mg X.base k x C ps sp)(hr:aA (k+1) X.A)(ha:PA X (e::es) t)(hg:Gl X x:=by rfl)(hdb:(x==("__debug__":Str))=false:=by decide) (he:starEach (e::es) X.env=(false,eval e X.env)::starEach es X.env:=by rfl) (hpl:(backTo pos (starEach es X.env)).any (·.1)=false:=by rfl):PE X (.Call (.Name x p) (e::es) [] pos) (wW C sp t):=by
 obtain⟨f,fd,M,F,mgC,b⟩:=F.ex;refine PE.weak (yX M F hr hg mgC b .nil (iz (X:=X)) (PA.cl ha) hdb he hpl) fun σ H Q h=>⟨_,h,fun vs H1 q y dx hy hdx hne=>?_⟩
 show sp (_::(vs++[])) _ _ E0
 rw[D9];refine q y dx _ hy hdx aW fun b o hb=>?_
 rw[ao (aB hb hy),ao (aB hb hdx)];exact hb
end
section
variable {X:Cx}{a b c e o:Expr}{ta tb tc te:TE}{pos p apos cpos:Pos}{es:List Expr}{t:TA}
noncomputable def pO:List V->Hp->VK->Prop:=fun xs H Q=>match xs with
 | [.ref p]=>∃ ys,RdL H p ys/\Q (.int ys.length) H
 | [.str z]=>aU (z.length<=sizeLine)/\Q (.int z.length) H
 | _=>False
theorem ef:aD X (.builtin "len") pO:=by
 intro pins s σ H xs us Q I r h;unfold pO at h
 split at h
 ·obtain⟨ys,hy,q⟩:=h;exact qm pins s σ H _ us Q I r ⟨_,ys,rfl,.inl hy.sq,q⟩
 ·exact zF pins s σ H _ us Q I r ⟨_,rfl,h.1,h.2⟩
 ·exact h.elim
noncomputable def rG (any:Bool):List V->Hp->VK->Prop:=fun xs H Q=>match xs with
 | [.ref p]=>∃ bs:List Bool,RdL H p (bs.map V.bl)/\Q (.bl (if any then bs.any id else bs.all id)) H
 | _=>False
theorem o7(hc:X.calm=true):aD X (.builtin "all") (rG false):=aD.weak (uO hc) fun xs H Q h=>by
 unfold rG at h
 split at h
 ·obtain⟨bs,hb,q⟩:=h;exact⟨_,bs,rfl,hb.sq,q⟩
 ·exact h.elim
noncomputable def qo:List V->Hp->VK->Prop:=fun xs H Q=>match xs with
 | [.ref p]=>∃ ys,RdL H p ys/\New H (.lst ys) Q
 | _=>False
theorem jS:aD X (.type "list") qo:=aD.weak sF fun xs H Q h=>by
 unfold qo at h
 split at h
 ·obtain⟨ys,hy,q⟩:=h;exact⟨_,ys,rfl,.inl hy.sq,fun l hl=>q.at hl⟩
 ·exact h.elim
noncomputable def qA:List V->Hp->VK->Prop:=fun xs H Q=>match xs with
 | [.ref p]=>∃ kvs,RdD H p kvs/\New H (.dK kvs) Q
 | _=>False
theorem BP:aD X (.type "dict") qA:=aD.weak Bv fun xs H Q h=>by
 unfold qA at h
 split at h
 ·obtain⟨ys,hy,q⟩:=h;exact⟨_,ys,rfl,hy,fun l hl=>q.at hl⟩
 ·exact h.elim
noncomputable def iu (r:V->List V->Hp->VK->Prop)(to:TE)(t:TA):TE:=fun σ H Q=>to σ H fun x H1=>match x with
 | .ref l=>∃ xs,RdL H1 l xs/\t σ H1 fun vs H2=>r (.ref l) vs H2 Q
 | _=>False
theorem zX{K:PySem.W.Frag}{r:V->List V->Hp->VK->Prop}{to:TE}{t:TA}(σ:L2.St)(H:Hp)(Q:VK)(h:iu r to t σ H Q):tBM K "list" r (clE to) (clA t) σ H Q:=⟨_,h,fun x H1 q=>by
 split at q
 ·obtain⟨xs,hx,q⟩:=q;exact⟨.inl ⟨rfl,xs,hx.sq⟩,_,q,fun _ _ z=>z⟩
 ·exact q.elim⟩
theorem rX{K:PySem.W.Frag}{r:V->List V->Hp->VK->Prop}{to:TE}(σ:L2.St)(H:Hp)(Q:VK)(h:iu r to eO σ H Q):oP K "list" r (clE to) σ H Q:=⟨_,h,fun x H1 q=>by
 split at q
 ·obtain⟨xs,hx,q⟩:=q;exact⟨.inl ⟨rfl,xs,hx.sq⟩,q⟩
 ·exact q.elim⟩
noncomputable def mV:V->List V->Hp->VK->Prop:=fun x vs H Q=>match x,vs with
 | .ref l,[y]=>∃ xs,H l=some (.lst xs)/\aU (xs.length<sizeLine)/\cN H l (.lst (xs++[y])) (Q .non)
 | _,_=>False
theorem vJ:MtR X "list.append" mV:=MtR.weak oy fun x vs H Q h=>by
 unfold mV at h
 split at h
 ·obtain⟨xs,hx,hz,q⟩:=h;exact⟨_,xs,_,rfl,rfl,hx,hz,q.at⟩
 ·exact h.elim
noncomputable def kx:V->List V->Hp->VK->Prop:=fun x vs H Q=>match x,vs with
 | .ref l,[]=>∃ xs,H l=some (.lst xs)/\cN H l (.lst xs.reverse) (Q .non)
 | _,_=>False
theorem zM:MtR X "list.reverse" kx:=MtR.weak xq fun x vs H Q h=>by
 unfold kx at h
 split at h
 ·obtain⟨xs,hx,q⟩:=h;exact⟨_,xs,rfl,rfl,hx,q.at⟩
 ·exact h.elim
noncomputable def keyOf:V->Option L2.Key
 | .int i=>some (.inl i)
 | .str x=>some (.inr x)
 | _=>none
theorem gY{y:V}{k:L2.Key}(h:keyOf y=some k):y=kV k:=by
 unfold keyOf at h
 split at h
 ·cases h;rfl
 ·cases h;rfl
 ·cases h
noncomputable def xp (td ty:TE):TE:=fun σ H Q=>td σ H fun x H1=>match x with
 | .ref p=>∃ kvs,RdD H1 p kvs/\ty σ H1 fun y H2=>∃ kvs,RdD H2 p kvs/\∃ k,keyOf y=some k/\Q ((aJ kvs k).getD .non) H2
 | _=>False
theorem su(hu:X.A.units+64<cLine)(ho:PE X o ta)(he:PE X e te)(m:M1 X o "get" apos e cpos):PE X (.Call (.Attribute o "get" apos) [e] [] cpos) (xp ta te):=
 PE.weak (vX (by lia) (PE.cl ho) (PE.cl he) m) fun σ H Q h=>⟨_,h,fun x H1 q=>by
  split at q
  ·obtain⟨kvs,hk,q⟩:=q;exact⟨_,rfl,.inl ⟨kvs,hk⟩,_,q,fun y H2 q=>by
    obtain⟨kvs,hk,k,hy,q⟩:=q;exact⟨_,.inl ⟨kvs,k,hk,gY hy,rfl⟩,q⟩⟩
  ·exact q.elim⟩
noncomputable def AZ (td ty tv:TE):TS:=fun D σ H=>tv σ H fun v H1=>td σ H1 fun x H2=>match x with
 | .ref p=>ty σ H2 fun y H3=>∃ kvs,H3 p=some (.dK kvs)/\aU (kvs.length<sizeLine)/\∃ k,keyOf y=some k/\cN H3 p (.dK (putK kvs k v)) (D.nx σ)
 | _=>False
theorem mS{value:Expr}{tv:TE}(hu:X.A.units+64<cLine)(ho:PE X o ta)(hi:PE X e te)(hv:PE X value tv)(hs:swapsWith value (some (.Subscript o e pos')) pos.line X.env=pure false:=by rfl) :
  PS X (.Assign [.Subscript o e pos'] value pos) (AZ ta te tv):=
 PS.weak (zT (by lia) (PE.cl ho) (PE.cl hi) (PE.cl hv) hs) fun D σ H h=>⟨_,h,fun v H1 h1=>⟨_,h1,fun x H2 q=>by
  split at q
  ·exact⟨_,q,fun y H3 q=>by
    obtain⟨kvs,hk,hz,k,hy,q⟩:=q;exact⟨_,_,rfl,.inl ⟨kvs,k,hk,gY hy,hz,rfl⟩,q.at⟩⟩
  ·exact q.elim⟩⟩
end
theorem my{α:Type} [DecidableEq α]:∀{ys ks:List α},ys.Nodup->(∀ k,k∈ys->k∈ks)->ys.length<=ks.length
 | [],ks,_,_=>DZ _
 | y::ys,ks,nd,h=>by
  obtain⟨h1,h2⟩:=Eu.mp nd;have hy:=h y (Dm ..)
  have:=my (ks:=ks.erase y) h2 fun k hk=>(List.mem_erase_of_ne (fun z:k=y=>h1 (by rw[<-z];exact hk))).mpr (h k (Dr _ hk))
  rw[List.length_erase_of_mem hy]at this;have hp:0<ks.length:=List.length_pos_of_mem hy;rw[DR];lia
section
variable {X:Cx}{a b c e o:Expr}{ta tb tc te:TE}{pos p p1 p2 pos2 apos cpos:Pos}{es:List Expr}{t:TA}
noncomputable def CQ (te:TE):TE:=fun σ H Q=>te σ H fun x H1=>match x with
 | .ref l=>∃ ks:List Ky,RdL H1 l (ks.map kV)/\∃ b:Bool,aU ((∀ k∈ks,isI k=b)/\ks.length<=60)/\New H1 (.lst ((srt kLt ks).map kV)) Q
 | _=>False
theorem mF(hc:X.calm=true)(he:PE X e te)(hm:X.mg "sorted" = none) (hm2:X.mg "set" = none) (hg:Gl X "sorted":=by rfl) (hg2:Gl X "set":=by rfl) (hs:starEach [e] X.env=[(false,eval e X.env)]:=by rfl) (hs2:starEach [.Call (.Name "set" p2) [e] [] pos2] X.env=[(false,eval (.Call (.Name "set" p2) [e] [] pos2) X.env)]:=by rfl) :
  PE X (.Call (.Name "sorted" p) [.Call (.Name "set" p2) [e] [] pos2] [] pos) (CQ te):=by
 refine PE.weak (nr (AO hc) hg hm (by rfl) (aa (kY (yh hc) hg2 hm2 (by rfl) (aa (PE.cl he) ab hs) (he:=hs) (hpl:=by rfl)) ab hs2) (he:=hs2) (hpl:=by rfl)) fun σ H Q h=>?_
 refine⟨_,h,fun x H1 q=>?_⟩
 split at q
 ·obtain⟨ks,hk,b,⟨h1,h2⟩,n⟩:=q;refine⟨_,ks,rfl,hk.sq,h2,fun q ys hq nd hm=>⟨q,ys,b,rfl,aW,nd,fun k hk=>h1 k ((hm k).mp hk),?_,fun r hr=>?_⟩⟩
  ·have:=my nd fun k hk=>(hm k).mp hk
   lia
  ·have e:srt kLt ys=srt kLt ks:=iY (cI b) (fun k hk=>h1 k ((hm k).mp hk)) hm
   rw[e];have ex:Ext H1 (upd H1 q (dI X.w q (ys.map kV))):=cU hq;exact n r _ (ex.free hr) aW (ex.trans (cU hr))
 ·exact q.elim
noncomputable def yl (te:TE):TE:=fun σ H Q=>te σ H fun x H1=>match x with
 | .ref l=>∃ ps:List (List Ky×Addr),RdL H1 l (ps.map fun p=>V.ref p.2)/\∃ sh:List Bool,(∀ p∈ps,H1 p.2=some (.tup (p.1.map kV))/\p.1.map isI=true::sh)/\aU (ps.length<=60) ∧
   ∀(r:Addr) (out:List (List Ky×Addr)) (H':Hp),H1 r=none->H' r=some (.lst (out.map fun q=>V.ref q.2))->Ext H1 H'->out.map (·.1)=srt cD (ps.map (·.1))->(∀ q∈out,q∈ps)->Q (.ref r) H'
 | _=>False
theorem we(hc:X.calm=true)(hu:X.A.units+64<cLine)(he:PE X e te)(hm:X.mg "sorted" = none) (hm2:X.mg "set" = none) (hg:Gl X "sorted":=by rfl) (hg2:Gl X "set":=by rfl) (hs:starEach [e] X.env=[(false,eval e X.env)]:=by rfl) (hs2:starEach [.Call (.Name "set" p2) [e] [] pos2] X.env=[(false,eval (.Call (.Name "set" p2) [e] [] pos2) X.env)]:=by rfl) :
  PE X (.Call (.Name "sorted" p) [.Call (.Name "set" p2) [e] [] pos2] [] pos) (yl te):=by
 refine PE.weak (nr (xT hc) hg hm (by rfl) (aa (kY (vj hc hu) hg2 hm2 (by rfl) (aa (PE.cl he) ab hs) (he:=hs) (hpl:=by rfl)) ab hs2) (he:=hs2) (hpl:=by rfl)) fun σ H Q h=>?_
 refine⟨_,h,fun x H1 q=>?_⟩
 split at q
 ·obtain⟨ps,hp,sh,h1,h2,n⟩:=q;refine⟨_,ps,rfl,hp.sq,fun p hp=>(h1 p hp).1,h2,fun q qs hq nd hin hm hl=>?_⟩
  have ex:Ext H1 (upd H1 q (dI X.w q (qs.map fun q=>V.ref q.2))):=cU hq
  refine⟨q,qs,sh,rfl,aW,nd,fun x hx=>⟨ex.up (h1 x (hin x hx)).1,(h1 x (hin x hx)).2⟩,(by have h2:ps.length<=60:=h2;lia),fun r out hr ho hso hol=>?_⟩
  refine n r out _ (ex.free hr) aW (ex.trans (cU hr)) ?_ fun z hz=>hin z (hso z hz)
  rw[ho];refine iY (iM (true::sh)) (fun k hk=>?_) hm
  obtain⟨z,hz,rfl⟩:=Dg.mp hk
  exact(h1 z (hin z hz)).2
 ·exact q.elim
noncomputable def pS (K:PySem.W.Frag):List V->Hp->VK->Prop:=fun xs H Q=>match xs with
 | [x,.ty n]=>∃ t,cu K H x t/\∃ b,PySem.W.kitOne K t (.type n)=some b/\Q (.bl b) H
 | _=>False
theorem sX:aD X (.builtin "isinstance") (pS X.K):=aD.weak vV fun xs H Q h=>by
 unfold pS at h
 split at h
 ·obtain⟨t,h1,b,h2,q⟩:=h;exact⟨_,_,t,b,rfl,h1,h2,q⟩
 ·exact h.elim
end
structure Wk (J:It)(H:Hp)(xs:List V):Prop where
 go:∀ i H',Ext H H'->i<xs.length->J.go i H'
 yld:∀ i H' x H2,Ext H H'->i<xs.length->J.yld i H' x H2->H2=H'/\xs[i]? =some x
 stop:∀ H',Ext H H'->J.stop xs.length H'
theorem fu{K:PySem.W.Frag}(h:RdL H a xs):Wk (Itl K a) H xs where
 go:=fun i H' e hi=>⟨xs,xs[i],(show RdL H' a xs from e.rd h).sq,by simp [hi]⟩
 yld:=fun i H' x H2 e hi y=>⟨y.1,y.2 xs (show RdL H' a xs from e.rd h).sq⟩
 stop:=fun H' e=>⟨xs,(show RdL H' a xs from e.rd h).sq,Di _⟩
theorem B6(z:Str):Wk (Its z) H (z.cps.toList.map fun c=>V.str ⟨#[c]⟩) where
 go:=fun i H' e hi=>by
  show i<z.cps.size
  simpa using hi
 yld:=fun i H' x H2 e hi y=>by
  obtain⟨rfl,c,hc,rfl⟩:=y;refine⟨rfl,?_⟩;rw[Dq,DK,hc];rfl
 stop:=fun H' e=>by
  show z.length<=_
  simp
  exact Di _
theorem jU(lo:Int)(n:Nat):Wk (Itr lo n) H ((List.range n).map fun(k:Nat)=>V.int (lo+k)) where
 go:=fun i H' e hi=>by
  show i<n
  simpa using hi
 yld:=fun i H' x H2 e hi y=>by
  obtain⟨rfl,rfl⟩:=y;refine⟨rfl,?_⟩;have hi:i<n:=by simpa using hi
  rw[Dq,List.getElem?_range hi];rfl
 stop:=fun H' e=>by
  show n<=_
  simp
structure eZ (fr:List (Option Nat))(σ:L2.St)(g:TG)(tif:TT)(te:TE)(J:It)(H1:Hp)(Q:VK):Prop where
 run:∀ D:Addr,H1 D=none →
  ∃ W:Nat->Nat->List V->Hp->Prop,(∃ m,W 0 m [] (upd H1 D (.lst [])))/\∀ i m acc H,W i m acc H->H D=some (.lst acc)/\acc.length<sizeLine ∧
   ((J.stop i H/\Q (.ref D) H)\/(J.go i H/\∀ x H2,J.yld i H x H2->g x (frV fr σ) H2 fun σ' H3=>cR fr σ σ'/\tif σ' H3 fun b H4=>
    if b=true then te σ' H4 fun y H5=>H5 D=some (.lst acc)/\∃ m',m'<m/\W (i+1) m' (acc++[y]) (upd H5 D (.lst (acc++[y]))) else ∃ m',m'<m/\W (i+1) m' acc H4))
theorem C6{J:It}{fr:List (Option Nat)}{g:TG}{Q:VK}(wk:Wk J H1 xs)(hz:xs.length<sizeLine)(f:Nat->Option V)(step:∀(i:Nat)(x:V)(H:Hp)(K:Option V->Hp->Prop),xs[i]? =some x->Ext H1 H->(∀ H',Ext H H'->K (f i) H')->g x (frV fr σ) H fun σ' H3=>cR fr σ σ'/\tif σ' H3 fun b H4=>if b=true then te σ' H4 fun y H5=>K (some y) H5 else K none H4)(fin:New H1 (.lst ((List.range xs.length).filterMap f)) Q):eZ fr σ g tif te J H1 Q:=by
 refine⟨?_⟩;intro D hD;refine⟨fun i m acc H=>m=xs.length-i/\i<=xs.length/\acc=(List.range i).filterMap f/\H D=some (.lst acc)/\Ext H1 H,⟨xs.length,by simp,DZ _,by simp,aW,cU hD⟩,?_⟩
 rintro i m acc H ⟨rfl,hi,hacc,hDa,ex⟩;have hl:acc.length<=xs.length:=by
  rw[hacc];refine Ea (List.length_filterMap_le _ _) ?_;rw[Ef];lia
 refine⟨hDa,by lia,?_⟩
 by_cases hlt:i<xs.length
 ·refine .inr ⟨wk.go i H ex hlt,fun x H2 y=>?_⟩
  obtain⟨rfl,hx⟩:=wk.yld i H x H2 ex hlt y;refine step i x _ (fun o H'=>match o with
   | some y=>H' D=some (.lst acc)/\∃ m',m'<xs.length-i/\m'=xs.length-(i+1)/\i+1<=xs.length/\acc++[y]=(List.range (i+1)).filterMap f/\(upd H' D (.lst (acc++[y]))) D=some (.lst (acc++[y]))/\Ext H1 (upd H' D (.lst (acc++[y])))
   | none=>∃ m',m'<xs.length-i/\m'=xs.length-(i+1)/\i+1<=xs.length/\acc=(List.range (i+1)).filterMap f/\H' D=some (.lst acc)/\Ext H1 H') hx ex fun H' ex'=>?_
  cases hf:f i with
  | some y=>
   refine⟨ex'.up hDa,_,(by lia:xs.length-(i+1)<xs.length-i),rfl,hlt,?_,aW,fun b o hb=>?_⟩
   ·rw[List.range_succ,List.filterMap_append,hacc]
    simp [hf]
   ·rw[ao (aB hb hD)];exact ex'.up (ex.up hb)
  | none=>
   refine⟨_,(by lia:xs.length-(i+1)<xs.length-i),rfl,hlt,?_,ex'.up hDa,ex.trans ex'⟩
   rw[List.range_succ,List.filterMap_append,hacc]
   simp [hf]
 ·have e:i=xs.length:=by lia
  subst e;subst hacc;exact .inl ⟨wk.stop H ex,fin D H hD hDa ex⟩
theorem pK{α β:Type}(f:α->Option β):∀ zs:List α,(List.range zs.length).filterMap (fun i=>(zs[i]?).bind f)=zs.filterMap f
 | []=>rfl
 | a::r=>by
  rw[DR,List.range_succ_eq_map,Es,List.filterMap_map,Es];have e:((fun i=>((a::r)[i]?).bind f)∘Nat.succ)=fun i=>(r[i]?).bind f:=by funext i;simp
  rw[e,pK f r]
  simp
theorem dX{α:Type}{enc:α->V}{zs:List α}{J:It}{fr:List (Option Nat)}{g:TG}{Q:VK}(f:α->Option V)(wk:Wk J H1 (zs.map enc))(hz:zs.length<sizeLine)(step:∀(i:Nat)(a:α)(H:Hp)(K:Option V->Hp->Prop),zs[i]? =some a->Ext H1 H->(∀ H',Ext H H'->K (f a) H')->g (enc a) (frV fr σ) H fun σ' H3=>cR fr σ σ'/\tif σ' H3 fun b H4=>if b=true then te σ' H4 fun y H5=>K (some y) H5 else K none H4)(fin:New H1 (.lst (zs.filterMap f)) Q):eZ fr σ g tif te J H1 Q:=by
 refine C6 wk (by rw[Dd];exact hz) (fun i=>(zs[i]?).bind f) (fun i x H K hx ex k=>?_) (by rw[Dd,pK];exact fin)
 rw[Dq,Dy]at hx;obtain⟨a,ha,rfl⟩:=hx;refine step i a H K ha ex fun H' ex'=>?_
 have:=k H' ex'
 rw[ha]at this;exact this
theorem nA{α:Type}{enc:α->V}{zs:List α}{J:It}{fr:List (Option Nat)}{g:TG}{Q:VK}(f:α->V)(wk:Wk J H1 (zs.map enc))(hz:zs.length<sizeLine)(step:∀(i:Nat)(a:α)(H:Hp)(K:V->Hp->Prop),zs[i]? =some a->Ext H1 H->(∀ H',Ext H H'->K (f a) H')->g (enc a) (frV fr σ) H fun σ' H3=>cR fr σ σ'/\te σ' H3 K)(fin:New H1 (.lst (zs.map f)) Q)(hg:∀ x σ H (Q Q':L2.St->Hp->Prop),(∀ v H',Q v H'->Q' v H')->g x σ H Q->g x σ H Q':=by intro x σ H Q Q' k q;exact k _ _ q):eZ fr σ g (fun _ H Q=>Q true H) te J H1 Q:=by
 refine dX (fun a=>some (f a)) wk hz (fun i a H K ha ex k=>?_) (by rw[show(fun a=>some (f a))=some∘f from rfl,List.filterMap_eq_map];exact fin)
 refine hg _ _ _ _ _ (fun σ' H3 q=>⟨q.1,?_⟩) (step i a H (fun y H'=>K (some y) H') ha ex k)
 show if true=true then _ else _
 rw[if_pos rfl];exact q.2
theorem PI.weak{it:Expr}{w w':TI}(h:PI X tg it w)(k:∀ σ H R,w' σ H R->w σ H R):PI X tg it w':=fun pins s σ H R I q=>h pins s σ H R I (k σ H R q)
theorem PI.cl{it:Expr}{w:TI}(h:PI X tg it w):PI X tg it (fun σ H R=>∃ R0:It->Hp->Prop,w σ H R0/\∀ J H1,R0 J H1->R J H1):=fun pins s σ H R I ⟨R0,q,k⟩=>
 thn (h pins s σ H R0 I q) fun v s1 h1=>thn h1 fun itv s2 ⟨it,fp,tn,J,H',e,I',T,st,f,r⟩=>⟨it,fp,tn,J,H',e,I',T,st,f,k J H' r⟩
noncomputable def lE (fr:List (Option Nat))(wi:TI)(g:TG)(tif:TT)(te:TE):TE:=fun σ H Q=>wi σ H fun J H1=>eZ fr σ g tif te J H1 Q
structure gs (g:TG)(tb:TS)(D:Ends)(σ:L2.St)(J:It)(H1:Hp):Prop where
 run:∃ W:Nat->Nat->L2.St->Hp->Prop,(∃ m,W 0 m σ H1)/\∀ i m σ H,W i m σ H →
  (J.stop i H/\D.nx σ H)\/(J.go i H/\∃ N:L2.St->Hp->Prop,(∀ σ' H',N σ' H'->∃ m',m'<m/\W (i+1) m' σ' H')/\∀ x H',J.yld i H x H'->g x σ H' fun σ2 H2=>tb { D with nx:=N,ct:=N,bk:=D.nx } σ2 H2)
noncomputable def vy (wi:TI)(g:TG)(tb:TS):TS:=fun D σ H=>wi σ H fun J H1=>gs g tb D σ J H1
theorem bC{wi:TI}{g:TG}{tb:TS}(hp:PassesOwn (model X.prog X.w) X.A X.env X.xe)(hc:X.calm=true)(hi:PI X tg iter wi)(hg:PG X tg g)(hb:PSs X body tb)(hs:∀ x,foldedSetIterable iter X.env x=pure x:=by intro _;rfl):PS X (.For tg iter body [] pos) (vy wi g tb):=
 PS.weak (A6 hp hc (PI.cl hi) hg hb hs) fun D σ H h=>⟨_,h,fun J H1 q=>q.run⟩
section
variable {X:Cx}{tg l a b e o:Expr}{tl ta tb te:TE}{pos p apos cpos:Pos}
noncomputable def uIL (K:PySem.W.Frag)(tl:TE):TI:=fun σ H R=>tl σ H fun x H1=>match x with
 | .ref a=>∃ xs,RdL H1 a xs/\R (Itl K a) H1
 | _=>False
theorem bu(hl:PE X l tl):PI X tg l (uIL X.K tl):=PI.weak (vG (PE.cl hl)) fun σ H R h=>⟨_,h,fun x H1 q=>by
 split at q
 ·obtain⟨xs,hx,q⟩:=q;exact⟨_,rfl,⟨xs,hx.sq⟩,q⟩
 ·exact q.elim⟩
noncomputable def uIS (tl:TE):TI:=fun σ H R=>tl σ H fun x H1=>match x with
 | .str z=>R (Its z) H1
 | _=>False
theorem xY(hl:PE X l tl):PI X tg l (uIS tl):=PI.weak (uS (PE.cl hl)) fun σ H R h=>⟨_,h,fun x H1 q=>by
 split at q
 ·exact⟨_,rfl,q⟩
 ·exact q.elim⟩
noncomputable def uIR (ta:TE):TI:=fun σ H R=>ta σ H fun x H1=>match x with
 | .int j=>aU (-(2^62)<=j/\j<2^62)/\R (Itr 0 j.toNat) H1
 | _=>False
theorem eG(ha:PE X a ta)(hm:X.mg "range" = none) (hg:Gl X "range":=by rfl) (hs:starEach [a] X.env=[(false,eval a X.env)]:=by rfl):PI X tg (.Call (.Name "range" p) [a] [] pos) (uIR ta):=
 PI.weak (yY hg hm (aa (PE.cl ha) ab hs) hs) fun σ H R h=>⟨_,h,fun x H1 q=>by
  split at q
  ·exact⟨_,rfl,q.1.1,q.1.2,q.2⟩
  ·exact q.elim⟩
noncomputable def uII (td:TE):TI:=fun σ H R=>td σ H fun x H1=>match x with
 | .ref a=>∃ kvs,H1 a=some (.dK kvs)/\∀ o,cN H1 a (.frz o (.dK kvs)) (R (Itd o a kvs))
 | _=>False
theorem zZ{elts:List Expr}{x1:Nat}(hd:PE X o ta)(hbase:attributeBase o "items" X.env (eval o X.env)=eval o X.env:=by rfl) (hline:(apos.endLine==cpos.line)=true:=by rfl) :
  PI X (.Tuple elts x1 pos') (.Call (.Attribute o "items" apos) [] [] cpos) (uII ta):=PI.weak (wQ (PE.cl hd) hbase hline) fun σ H R h=>⟨_,h,fun x H1 q=>by
  split at q
  ·obtain⟨kvs,h1,q⟩:=q;exact⟨_,kvs,rfl,h1,fun o=>(q o).at⟩
  ·exact q.elim⟩
noncomputable def uGL (n:Nat)(t:TGs):TG:=fun v σ H Q=>match v with
 | .ref a=>∃ xs,RdL H a xs/\aU (xs.length=n)/\t xs σ H Q
 | _=>False
noncomputable def uGT (n:Nat)(t:TGs):TG:=fun v σ H Q=>match v with
 | .ref a=>∃ xs,RdT H a xs/\aU (xs.length=n)/\t xs σ H Q
 | _=>False
noncomputable def qh:TGs:=fun vs σ H Q=>match vs with
 | []=>Q σ H
 | _=>False
noncomputable def qB (t:TG)(u:TGs):TGs:=fun vs σ H Q=>match vs with
 | v::r=>t v σ H fun σ' H'=>u r σ' H' Q
 | _=>False
theorem dN:PGs X [] qh:=fun pins s σ H vs us Q I r h=>xh pins s σ H vs us Q I r (by
 unfold qh at h
 split at h
 ·exact⟨rfl,h⟩
 ·exact h.elim)
theorem bj{es:List Expr}{t:TG}{u:TGs}(h1:PG X e t)(h2:PGs X es u)(hs:(assignEach (e::es) X.env).map (·.2)=assign e X.env::(assignEach es X.env).map (·.2):=by rfl):PGs X (e::es) (qB t u):=fun pins s σ H vs us Q I r h=>BR h1 h2 hs pins s σ H vs us Q I r (by
 unfold qB at h
 split at h
 ·exact⟨_,_,rfl,h⟩
 ·exact h.elim)
theorem pC{es:List Expr}{k:Nat}{t:TGs}(hc:X.calm=true)(h:PGs X es t)(hn:(assignEach es X.env).length=n:=by rfl)(hst:(assignEach es X.env).findIdx? (·.1)=none:=by rfl):PG X (.Tuple es k pos) (uGL n t):=fun pins s σ H v u Q I r h'=>yH hc h hn hst pins s σ H v u Q I r (by
 unfold uGL at h'
 split at h'
 ·obtain⟨xs,h1,h2,q⟩:=h';exact⟨_,xs,rfl,h1.sq,h2,q⟩
 ·exact h'.elim)
theorem eI{es:List Expr}{k:Nat}{t:TGs}(hc:X.calm=true)(h:PGs X es t)(hn:(assignEach es X.env).length=n:=by rfl)(hst:(assignEach es X.env).findIdx? (·.1)=none:=by rfl):PG X (.Tuple es k pos) (uGT n t):=fun pins s σ H v u Q I r h'=>uG hc h hn hst pins s σ H v u Q I r (by
 unfold uGT at h'
 split at h'
 ·obtain⟨xs,h1,h2,q⟩:=h';exact⟨_,xs,rfl,h1.sq,h2,q⟩
 ·exact h'.elim)
theorem bZ{K:PySem.W.Frag}{a:Addr}{g:TG}{tb:TS}(Pv:Nat->L2.St->Hp->Prop)(h0:Pv 0 σ H)(hl:∀ i σ H,i<=xs.length->Pv i σ H->RdL H a xs)(hs:∀ i x σ H,xs[i]? =some x->Pv i σ H->g x σ H fun σ2 H2=>tb { D with nx:=Pv (i+1),ct:=Pv (i+1),bk:=D.nx } σ2 H2)(hd:∀ σ H,Pv xs.length σ H->D.nx σ H) :
  gs g tb D σ (Itl K a) H:=⟨Co (xs:=xs) Pv h0 (fun i σ H hi p=>(hl i σ H hi p).sq) hs hd⟩
theorem nq{lo:Int}{g:TG}{tb:TS}(Pv:Nat->L2.St->Hp->Prop)(h0:Pv 0 σ H)(hs:∀ i σ H,i<n->Pv i σ H->g (.int (lo+i)) σ H fun σ2 H2=>tb { D with nx:=Pv (i+1),ct:=Pv (i+1),bk:=D.nx } σ2 H2)(hd:∀ σ H,Pv n σ H->D.nx σ H):gs g tb D σ (Itr lo n) H:=⟨xt Pv h0 hs hd⟩
theorem zg{o:Obj}{a:Addr}{kvs:List (L2.Key×V)}{g:TG}{tb:TS}(Pv:Nat->L2.St->Hp->Prop)(h0:Pv 0 σ H)(hl:∀ i σ H,i<=kvs.length->Pv i σ H->H a=some (.frz o (.dK kvs)))(hs:∀ i k v p σ H H',kvs[i]? =some (k,v)->H p=none->H' p=some (.tup [kV k,v])->Ext H H'->Pv i σ H->g (.ref p) σ H' fun σ2 H2=>tb { D with nx:=Pv (i+1),ct:=Pv (i+1),bk:=D.nx } σ2 H2)(hd:∀ σ H,Pv kvs.length σ H->D.nx σ H):gs g tb D σ (Itd o a kvs) H:=
 ⟨xB Pv h0 hl (fun i k v p σ H hk hp pv=>hs i k v p σ H _ hk hp aW (cU hp) pv) hd⟩
variable {x:Str}{es:List Expr}{t:TA}{id T:String}{r:List V->Hp->VK->Prop}
theorem lh{n:Int}{tk:Tok}(hm:X.mg x=some (.int n tk))(hg:Gl X x:=by rfl)(hd:(x==("__debug__":Str))=false:=by decide):PE X (.Name x pos) (tC (.int n)):=p8 hg hm ⟨tk,rfl⟩ hd
theorem AQ{tk:Tok}(hm:X.mg x=some (.str z tk))(hg:Gl X x:=by rfl)(hd:(x==("__debug__":Str))=false:=by decide):PE X (.Name x pos) (tC (.str z)):=p8 hg hm ⟨tk,rfl⟩ hd
theorem qy{n:String}(hm:X.mg x=none)(hv:bootBuiltins x=some (.type n):=by rfl)(hg:Gl X x:=by rfl)(hn:x≠"__name__":=by decide) (hd:(x==("__debug__":Str))=false:=by decide):PE X (.Name x pos) (tC (.ty n)):=vW hg hm hv rfl hn hd
theorem q_b(hc:aD X (.builtin id) r)(hm:X.mg x=none)(ha:PA X (e::es) t)(hv:bootBuiltins x=some (.builtin id):=by rfl)(hg:Gl X x:=by rfl)(hn:x≠"__name__":=by decide) (hdb:(x==("__debug__":Str))=false:=by decide) (he:starEach (e::es) X.env=(false,eval e X.env)::starEach es X.env:=by rfl) (hpl:(backTo pos (starEach es X.env)).any (·.1)=false:=by rfl):PE X (.Call (.Name x p) (e::es) [] pos) (tCB r t):=nr hc hg hm hv ha hn hdb he hpl
theorem q_t(hc:aD X (.type T) r)(hm:X.mg x=none)(ha:PA X (e::es) t)(hv:bootBuiltins x=some (.type T):=by rfl)(hg:Gl X x:=by rfl)(hn:x≠"__name__":=by decide) (hdb:(x==("__debug__":Str))=false:=by decide) (he:starEach (e::es) X.env=(false,eval e X.env)::starEach es X.env:=by rfl) (hpl:(backTo pos (starEach es X.env)).any (·.1)=false:=by rfl):PE X (.Call (.Name x p) (e::es) [] pos) (tCB r t):=kY hc hg hm hv ha hn hdb he hpl
theorem gh{op:CmpOp}{r:R2}(ho:OpR X (compareOp op) r)(ha:PE X a ta)(hb:PE X b tb)(hm:behindInMarks op b=false:=by with_unfolding_all rfl):PE X (.Compare a [op] [b] pos) (tOp r ta tb):=Bo ho ha hb hm
theorem aR{op:CmpOp}{r:R2}(ho:OpR X (compareOp op) r)(ha:PE X a ta)(hb:PE X b tb)(hm:behindInMarks op b=false:=by with_unfolding_all rfl):PT X (.Compare a [op] [b] pos) (uT (tOp r ta tb)):=zL ho ha hb hm
end
noncomputable def jG (esc:Scope)(l:List (Str×NameKind)):List (Str×NameKind):=l.map fun(n,k)=>if (k==.free&&esc.kind==.function&&esc.names.lookup n==some .cell) then(n,NameKind.cell) else(n,k)
noncomputable def cA (N:List Str)(esc scope:Scope):List Str->List (Option Nat)->Bool
 | x::N',some j::fr=>N[j]?==some x&&scope.names.contains (x,NameKind.free)&&((jG esc scope.names).lookup x==some .cell||(jG esc scope.names).lookup x==some .free)&&cA N esc scope N' fr
 | _::N',none::fr=>cA N esc scope N' fr
 | [],[]=>true
 | _,_=>false
noncomputable def gW (N:List Str)(esc scope:Scope)(N':List Str)(fr:List (Option Nat)):Bool:=
 scope.kind==.function&&esc.kind==.function&&scope.names.all (fun y=>y.2 !=.cell)&&scope.names.all (fun y=>y.2 !=.local||scope.names.lookup y.1==some .local) &&
 scope.names.all (fun y=>y.2 !=.free||(esc.names.lookup y.1==some .cell||esc.names.lookup y.1==some .free))&&cA N esc scope N' fr
theorem mK{esc:Scope}:∀{N':List Str}{fr:List (Option Nat)},cA N esc scope N' fr=true->N'.length=fr.length
 | [],[],_=>rfl
 | [],_::_,h=>by simp [cA]at h
 | _::_,[],h=>by simp [cA]at h
 | x::N',some j::fr,h=>by
  simp only[cA,Ey]at h;rw[DR,DR,mK h.2]
 | x::N',none::fr,h=>by
  simp only[cA]at h;rw[DR,DR,mK h]
theorem kI{esc:Scope}:∀{N':List Str}{fr:List (Option Nat)},cA N esc scope N' fr=true->∀(i j:Nat)(x:Str),fr[i]? =some (some j)->N'[i]? =some x →
  N[j]? =some x/\(x,NameKind.free)∈scope.names/\((jG esc scope.names).lookup x=some .cell\/(jG esc scope.names).lookup x=some .free)
 | [],[],_,i,j,x,h,_=>by simp at h
 | [],_::_,h,_,_,_,_,_=>by simp [cA]at h
 | _::_,[],h,_,_,_,_,_=>by simp [cA]at h
 | y::N',some k::fr,h,i,j,x,h1,h2=>by
  simp only[cA,Ey]at h;cases i with
  | zero=>
   simp at h1 h2;subst h1;subst h2
   obtain⟨⟨⟨a,b⟩,c⟩,_⟩:=h;refine⟨by simpa using a,by simpa using b,?_⟩
   simpa using c
  | succ i=>exact kI h.2 i j x (by simpa using h1) (by simpa using h2)
 | y::N',none::fr,h,i,j,x,h1,h2=>by
  simp only[cA]at h;cases i with
  | zero=>simp at h1
  | succ i=>exact kI h i j x (by simpa using h1) (by simpa using h2)
theorem lV{esc:Scope}{fr:List (Option Nat)}(h:gW N esc scope N' fr=true)(e:env.scope=esc):fH N env scope N' fr:=by
 simp only[gW,Ey,EW]at h;obtain⟨⟨⟨⟨⟨h1,h2⟩,h3⟩,h4⟩,h5⟩,h6⟩:=h;subst e;refine⟨by simpa using h1,by simpa using h2,mK h6,fun y hy=>by simpa using h3 y hy,fun y hy hl=>?_,fun y hy hl=>?_,fun i j x a b=>?_⟩
 ·have:=h4 y hy
  rw[hl]at this;simpa using this
 ·have:=h5 y hy
  rw[hl]at this;simpa using this
 ·exact kI h6 i j x a b
section
variable {X:Cx}
theorem g8(N:List Str)(esc:Scope)(N':List Str)(fr:List (Option Nat)){elt:Expr}{wi:TI}{g:TG}(hc:X.calm=true)(hi:PI X tg iter wi)(hg:∀ C s₁ H₁ ex,PG (bh X scope C N' s₁ H₁ ex) tg g)(he:∀ C s₁ H₁ ex,PE (bh X scope C N' s₁ H₁ ex) elt te)(S:gW N esc scope N' fr=true:=by decide +kernel)(eN:X.N=N:=by rfl)(e:X.env.scope=esc:=by rfl)(hs:∀ x,foldedSetIterable iter X.env x=pure x:=by intro _;rfl):PE X (.ListComp elt [⟨tg,iter,[],0⟩] scope pos) (lE fr wi g (fun _ H Q=>Q true H) te):=
 PE.weak (rN hc (eN▸lV S e) (PI.cl hi) hg (fun _ _ _ _=>BI) he hs) fun σ H Q h=>⟨_,h,fun J H1 q=>q.run⟩
theorem iZ(N:List Str)(esc:Scope)(N':List Str)(fr:List (Option Nat)){elt tst:Expr}{wi:TI}{g:TG}(hc:X.calm=true)(hi:PI X tg iter wi)(hg:∀ C s₁ H₁ ex,PG (bh X scope C N' s₁ H₁ ex) tg g)(hif:∀ C s₁ H₁ ex,PT (bh X scope C N' s₁ H₁ ex) tst tif)(he:∀ C s₁ H₁ ex,PE (bh X scope C N' s₁ H₁ ex) elt te)(S:gW N esc scope N' fr=true:=by decide +kernel)(eN:X.N=N:=by rfl)(e:X.env.scope=esc:=by rfl)(hs:∀ x,foldedSetIterable iter X.env x=pure x:=by intro _;rfl):PE X (.ListComp elt [⟨tg,iter,[tst],0⟩] scope pos) (lE fr wi g tif te):=
 PE.weak (rN hc (eN▸lV S e) (PI.cl hi) hg (fun C s₁ H₁ ex=>p9 (hif C s₁ H₁ ex)) he hs) fun σ H Q h=>⟨_,h,fun J H1 q=>q.run⟩
theorem q_g(N:List Str)(i:Nat)(hN:N.Nodup:=by decide +kernel)(eN:X.N=N:=by rfl)(hi:X.N[i]? =some x:=by rfl)(hx:Loc X.env.scope x:=by first|exact Or.inl rfl|exact Or.inr rfl)(hf:X.fn x=true\/X.env.scope.names.lookup x=some .local:=by first|exact .inl rfl|exact .inr rfl|assumption):PG X (.Name x pos) (bR i):=
 Dc (eN▸hN) hi hx hf
end
section
variable {X:Cx}
theorem iX(N:List Str)(i:Nat)(esc:Scope)(N':List Str)(fr:List (Option Nat)){elt tst:Expr}{y:Str}{spos py:Pos}{wi:TI}{g:TG}(hc:X.calm=true)(hi:PI X tg iter wi)(hg:∀ C s₁ H₁ ex,PG (bh X scope C N' s₁ H₁ ex) tg g)(hif:∀ C s₁ H₁ ex,PT (bh X scope C N' s₁ H₁ ex) tst tif)(he:∀ C s₁ H₁ ex,PE (bh X scope C N' s₁ H₁ ex) elt te)(hN:N.Nodup:=by decide +kernel)(hiN:X.N[i]? =some y:=by rfl)(hx:Loc X.env.scope y:=by first|exact Or.inl rfl|exact Or.inr rfl)(hf:X.fn y=true\/X.env.scope.names.lookup y=some .local:=by first|exact .inl rfl|exact .inr rfl|assumption)(hsw:swapsWith (.ListComp elt [⟨tg,iter,[tst],0⟩] scope pos) (some (.Name y py)) spos.line X.env=pure true:=by rfl)(S:gW N esc scope N' fr=true:=by decide +kernel)(eN:X.N=N:=by rfl)(e:X.env.scope=esc:=by rfl)(hs:∀ x,foldedSetIterable iter X.env x=pure x:=by intro _;rfl):PS X (.Assign [.Name y py] (.ListComp elt [⟨tg,iter,[tst],0⟩] scope pos) spos) (iC (lE fr wi g tif te) (bR i)):=
 PS.weak (C9 hc (eN▸lV S e) (PI.cl hi) hg (fun C s₁ H₁ ex=>p9 (hif C s₁ H₁ ex)) he (eN▸hN) hiN hx hf hsw hs) fun D σ H h=>⟨_,h,fun J H1 q=>q.run⟩
end
end SB
end
section
namespace K
open PySem PySem.Spec PyProof.Rows L2 SB
noncomputable def top (i:Nat):Stmt:=PySem.Challenge.pw_sightbook_k31_secrets.main.body.getD i (.Pass ⟨0,0,0,0⟩)
noncomputable abbrev gn:Stmt:=top 11
local macro_rules | `(tactic| walk_at "lft")=>`(tactic| first
 | assumption
 | (refine Ext.up (by assumption) ?_;walk_at "lft")
 | (refine Or.inl ?_;walk_at "lft"))
local macro_rules | `(tactic| walk_at "side")=>`(tactic| (show aU _;unfold aU;first|lia|decide|assumption|(simp;lia)))
local macro_rules | `(tactic| walk_at "st")=>`(tactic| first
 | refine⟨_,(by walk_at "lft"),?_⟩
 | refine⟨(by walk_at "side"),?_⟩
 | refine⟨_,rfl,?_⟩)
noncomputable def lower (c:Nat):Bool:=decide (97<=c)&&decide (c<=122)
noncomputable def isW (z:Str):Bool:=decide (1<=z.length)&&decide (z.length<=8)&&z.cps.toList.all lower
theorem CU(c:Nat):(!(Builtin.Str.occurrences "abcdefghijklmnopqrstuvwxyz" ⟨#[c]⟩ 0 ("abcdefghijklmnopqrstuvwxyz":Str).length 1).isEmpty)=lower c:=by
 rw[StrLaws.found_one];have e:("abcdefghijklmnopqrstuvwxyz":Str).cps.toList=List.range' 97 26:=by decide +kernel
 rw[e];unfold lower;apply Ej.mpr
 simp [List.mem_range'_1]
 lia
structure Txt (K:PySem.W.Frag)(mg:Str->Option Value):Prop where
 len:mg "len" = none
 all:mg "all" = none
 letters:∃ t,mg "LETTERS" = some (.str "abcdefghijklmnopqrstuvwxyz" t)
 mostL:∃ t,mg "MOST_LETTERS" = some (.int 8 t)
noncomputable def nK:Sp:=fun vs H Q _=>∃ z,vs=[.str z]/\z.length<=1000/\∀ H',Ext H H'->Q (.bl (isW z)) H'
section
variable {P:Program}{w:World}{K:PySem.W.Frag}{mg:Str->Option Value}{base:Heap}
theorem wo:ba ["text"] ["text"] (aq gn):=⟨rfl,rfl,rfl,by decide +kernel,rfl,by decide +kernel,by decide +kernel⟩
theorem CA(F:Fun K "is_word" "is_word" gn f fd) (T:Txt K mg):ar P w K mg base CX0 1 f fd ["text"] nK:=by
 refine F.ok wo (fun vs H Q E h=>?_) (fun cdv A outer s H vs Q E hr h=>?_)
 ·obtain⟨z,rfl,_⟩:=h;rfl
 ·obtain⟨z,rfl,hz,k⟩:=h;have hu:=hr.units;obtain⟨tL,mL⟩:=T.letters;obtain⟨tM,mM⟩:=T.mostL;refine⟨_,ah (bz (qd (yb kC kC af (q_b ef T.len (aa (q_v 0) ab)) (lh mM))
   (oJ (q_b (o7 rfl) T.all (aa (g8 ["text"] (aq gn) ["letter"] [none] rfl (xY (q_v 0)) (fun _ _ _ _=>q_g ["letter"] 0) (fun _ _ _ _=>gh yc (q_v 0) (AQ mL))) ab))))),?_⟩
  have hz2:z.length<sizeLine:=by rw[DV];lia
  refine⟨Fe hz2,?_⟩;have fin:∀ b,isW z=b->Q (.bl b) H:=fun b e=>by rw[<-e];exact k H Ext.refl
  refine aV (fun h1=>?_) (fun h1=>?_)
  ·refine aV (fun h2=>?_) (fun h2=>?_)
   ·refine nA (fun c=>.bl (lower c)) (B6 z) ?_ ?_ ?_
    ·rw[DJ];exact hz2
    ·intro i c H1 Kk hx ex kk;refine⟨cE rfl,?_⟩
     have:=kk H1 Ext.refl
     show Kk (.bl (!(Builtin.Str.occurrences _ _ 0 _ 1).isEmpty)) H1
     rw[CU];exact this
    ·intro p H' hp hl ex;refine⟨z.cps.toList.map lower,Or.inl (by rw[Du];exact hl),?_⟩
     have:=k H' ex
     have h1:=DX h1;have h2:=DX h2;have e:isW z=(z.cps.toList.map lower).all id:=by
      unfold isW;rw[List.all_map,DB (by lia:1<=z.length),DB (by lia:z.length<=8)]
      rfl
     rw[e]at this;exact this
   ·refine fin false ?_;have h2:¬ z.length<=8:=fun q=>h2 (DB (by lia))
    unfold isW;rw[DT h2,Fp,Bool.false_and]
  ·refine fin false ?_;have h1:¬ 1<=z.length:=fun q=>h1 (DB (by lia))
   unfold isW;rw[DT h1,Bool.false_and,Bool.false_and]
end
noncomputable abbrev jM:Stmt:=top 12
noncomputable abbrev jI:Stmt:=top 13
noncomputable abbrev jO:Stmt:=top 14
noncomputable abbrev jZ:Stmt:=top 15
noncomputable abbrev iK:Stmt:=inClass (top 16) 0
noncomputable abbrev iW:Stmt:=inClass (top 16) 1
noncomputable abbrev jv:Stmt:=inClass (top 16) 2
noncomputable abbrev jT:Stmt:=inClass (top 16) 5
section
variable {P:Program}{w:World}{K:PySem.W.Frag}{mg:Str->Option Value}{base:Heap}
noncomputable def lI:Sp:=fun vs H Q _=>∃ n m:Int,vs=[.int n,.int m]/\n<=m/\Q .non H
theorem uY:ba ["number","most"] ["number","most"] (aq jM):=⟨rfl,rfl,rfl,by decide +kernel,rfl,by decide +kernel,by decide +kernel⟩
theorem uN(F:Fun K "need_at_most" "need_at_most" jM f fd):ar P w K mg base CX0 1 f fd ["number","most"] lI:=by
 refine F.ok uY (fun vs H Q E h=>?_) (fun cdv A outer s H vs Q E hr h=>?_)
 ·obtain⟨n,m,rfl,_⟩:=h;rfl
 ·obtain⟨n,m,rfl,hle,k⟩:=h;refine⟨_,ah (cc (aR nM (q_v 0) (q_v 1)) ly bY),?_⟩;refine aV (fun h=>?_) (fun _=>k)
  have:=DX h
  lia
noncomputable def i5:Sp:=fun vs H Q _=>∃ n r:Int,vs=[.int n,.int r]/\0<=r/\r<n/\Q .non H
theorem vE:ba ["size","room"] ["size","room"] (aq jI):=⟨rfl,rfl,rfl,by decide +kernel,rfl,by decide +kernel,by decide +kernel⟩
theorem AN(F:Fun K "need_room" "need_room" jI f fd):ar P w K mg base CX0 1 f fd ["size","room"] i5:=by
 refine F.ok vE (fun vs H Q E h=>?_) (fun cdv A outer s H vs Q E hr h=>?_)
 ·obtain⟨n,m,rfl,_⟩:=h;rfl
 ·obtain⟨n,r,rfl,h1,h2,k⟩:=h;refine⟨_,ah (cc (kE (vc kC rR af (q_v 1) (q_v 0))) ly bY),?_⟩;refine aV (fun h=>?_) (fun h=>absurd (DB h1) h)
  show if (!decide (r<n))=true then _ else _
  rw[DB h2];exact k
noncomputable def mq:Sp:=fun vs H Q _=>∃ z,vs=[.str z]/\isW z=true/\∀ H',Ext H H'->Q .non H'
theorem uR(h:isW z=true):1<=z.length/\z.length<=8:=by
 unfold isW at h;simp only[Ey,decide_eq_true_eq]at h;exact h.1
theorem uC:ba ["text"] ["text"] (aq jO):=⟨rfl,rfl,rfl,by decide +kernel,rfl,by decide +kernel,by decide +kernel⟩
theorem ur(F:Fun K "need_word" "need_word" jO f fd) (D:Known P w K mg base 1 "is_word" ["text"] nK):ar P w K mg base CX0 2 f fd ["text"] mq:=by
 refine F.ok uC (fun vs H Q E h=>?_) (fun cdv A outer s H vs Q E hr h=>?_)
 ·obtain⟨n,rfl,_⟩:=h;rfl
 ·obtain⟨z,rfl,hw,k⟩:=h;refine⟨_,ah (cc (kE (ka (aH D hr (aa (q_v 0) ab)))) ly bY),?_⟩
  have:=uR hw
  refine⟨z,rfl,by lia,fun H' ex=>?_⟩
  show if (!isW z)=true then _ else _
  rw[hw];exact k H' ex
end
noncomputable abbrev Mv:=Int×Str×Int
noncomputable def kf (m:Mv):List V:=[.int m.1,.str m.2.1,.int m.2.2]
noncomputable def bF (n:Int)(m:Mv):Prop:=(0<=m.1/\m.1<n)/\isW m.2.1=true/\0<=m.2.2/\m.2.2<n
noncomputable def refs (ps:List (Mv×Addr)):List V:=ps.map fun p=>V.ref p.2
noncomputable def eP (H:Hp)(ps:List (Mv×Addr)):Prop:=∀ p∈ps,H p.2=some (.tup (kf p.1))
noncomputable def sgV (sg:List (Str×Str)):List (L2.Key×V):=sg.map fun p=>(Sum.inr p.1,V.str p.2)
structure lD (n:Int)(st:List Int)(ps:List (Mv×Addr))(sg:List (Str×Str))(fl:List Str):Prop where
 size:1<=n/\n<=8
 few:ps.length<=24
 st:∀ r∈st,0<=r/\r<n
 mv:∀ p∈ps,bF n p.1
 sg:∀ p∈sg,isW p.1=true/\isW p.2=true
 fl:∀ z∈fl,isW z=true
structure gm (H:Hp)(n:Int)(a b c d:Addr)(st:List Int)(ps:List (Mv×Addr))(sg:List (Str×Str))(fl:List Str):Prop where
 st:RdL H a (st.map V.int)
 mv:RdL H b (refs ps)
 tup:eP H ps
 sg:H c=some (.dK (sgV sg))
 fl:RdL H d (fl.map V.str)
theorem gm.ext{n:Int}{d:Addr}{st:List Int}{ps:List (Mv×Addr)}{sg:List (Str×Str)}(p:gm H n a b c d st ps sg fl)(e:Ext H H'):gm H' n a b c d st ps sg fl:=
 ⟨e.rd p.st,e.rd p.mv,fun q hq=>e.up (p.tup q hq),e.up p.sg,e.rd p.fl⟩
structure qp (K:PySem.W.Frag)(mg:Str->Option Value):Prop where
 len:mg "len" = none
 rooms:∃ t,mg "MOST_ROOMS" = some (.int 8 t)
 moves:∃ t,mg "MOST_MOVES" = some (.int 24 t)
section
variable {P:Program}{w:World}{K:PySem.W.Frag}{mg:Str->Option Value}{base:Heap}
noncomputable def lu:Sp:=fun vs H Q _=>∃ n a b c d st ps sg fl,vs=[.int n,.ref a,.ref b,.ref c,.ref d]/\lD n st ps sg fl/\gm H n a b c d st ps sg fl/\∀ H',Ext H H'->Q .non H'
noncomputable abbrev nNM:List Str:=["size","starts","moves","signs","faults","room","first","deed","last","sign"]
theorem CK:ba nNM ["size","starts","moves","signs","faults"] (aq jZ):=⟨rfl,rfl,rfl,by decide +kernel,rfl,by decide +kernel,by decide +kernel⟩
theorem vS(F:Fun K "need_machine" "need_machine" jZ f fd) (T:qp K mg) (D1:Known P w K mg base 1 "need_at_most" ["number","most"] lI) (D2:Known P w K mg base 1 "need_room" ["size","room"] i5) (D3:Known P w K mg base 2 "need_word" ["text"] mq):ar P w K mg base CX0 3 f fd ["size","starts","moves","signs","faults"] lu:=by
 refine F.ok CK (fun vs H Q E h=>?_) (fun cdv A outer s H vs Q E hr h=>?_)
 ·obtain⟨n,a,b,c,d,st,ps,sg,fl,rfl,_⟩:=h;rfl
 ·obtain⟨n,a,b,c,d,st,ps,sg,fl,rfl,ok,at0,k⟩:=h;have hr1:aA 1 _:=hr.mono (by decide)
  obtain⟨t8,m8⟩:=T.rooms;obtain⟨t24,m24⟩:=T.moves;refine⟨_,ae (bw (aH D1 hr1 (aa (q_v 0) (aa (lh m8) ab))))
   (ae (bw (aH D1 hr1 (aa (q_b ef T.len (aa (q_v 2) ab)) (aa (lh m24) ab))))
   (ae (bC PassesOwn.never rfl (bu (q_v 1)) (q_g nNM 5) (ah (bw (aH D2 hr1 (aa (q_v 0) (aa (q_v 5) ab))))))
   (ae (bC PassesOwn.never rfl (bu (q_v 2)) (eI rfl (bj (q_g nNM 6) (bj (q_g nNM 7) (bj (q_g nNM 8) dN))))
    (ae (bw (aH D2 hr1 (aa (q_v 0) (aa (q_v 6) ab)))) (ae (bw (aH D3 hr (aa (q_v 7) ab))) (ah (bw (aH D2 hr1 (aa (q_v 0) (aa (q_v 8) ab))))))))
   (ae (vk (bC PassesOwn.never rfl (zZ (q_v 3)) (eI rfl (bj (q_g nNM 7) (bj (q_g nNM 9) dN)))
    (ae (bw (aH D3 hr (aa (q_v 7) ab))) (ah (bw (aH D3 hr (aa (q_v 9) ab)))))))
   (ah (bC PassesOwn.never rfl (bu (q_v 4)) (q_g nNM 7) (ah (bw (aH D3 hr (aa (q_v 7) ab)))))))))),?_⟩
  refine⟨n,8,rfl,ok.size.2,?_⟩;refine⟨_,at0.mv,(refs ps).length,24,rfl,?_,?_⟩
  ·have:=ok.few
   unfold refs;rw[Dd];lia
  refine⟨_,at0.st,bZ (xs:=st.map V.int) (fun i σ H1=>∃ v,σ=[some (.int n),some (.ref a),some (.ref b),some (.ref c),some (.ref d),v,none,none,none,none]/\Ext H H1) ⟨_,rfl,Ext.refl⟩ (fun i σ H1 _ ⟨v,_,e⟩=>e.rd at0.st) ?_ ?_⟩
  ·rintro i x σ H1 hx ⟨v,rfl,e1⟩;rw[Dq,Dy]at hx;obtain⟨r,hr,rfl⟩:=hx
   have:=ok.st r (Dw hr)
   exact⟨n,r,rfl,this.1,this.2,_,rfl,e1⟩
  rintro σ H1 ⟨v,rfl,e1⟩;refine⟨_,e1.rd at0.mv,bZ (xs:=refs ps) (fun i σ H2=>∃ v1 v2 v3 v4,σ=[some (.int n),some (.ref a),some (.ref b),some (.ref c),some (.ref d),v1,v2,v3,v4,none]/\Ext H H2) ⟨_,_,_,_,rfl,e1⟩ (fun i σ H2 _ ⟨_,_,_,_,_,e⟩=>e.rd at0.mv) ?_ ?_⟩
  ·rintro i x σ H2 hx ⟨v1,v2,v3,v4,rfl,e2⟩;unfold refs at hx;rw[Dq,Dy]at hx;obtain⟨p,hp,rfl⟩:=hx;have hm:=Dw hp;obtain⟨⟨g1,g2⟩,g3,g4,g5⟩:=ok.mv p hm;refine⟨_,.inl (e2.up (at0.tup p hm)),rfl,n,p.1.1,rfl,g1,g2,p.1.2.1,rfl,g3,fun H3 e3=>?_⟩
   exact⟨n,p.1.2.2,rfl,g4,g5,_,_,_,_,rfl,e2.trans e3⟩
  rintro σ H2 ⟨v1,v2,v3,v4,rfl,e2⟩;refine⟨_,e2.up at0.sg,fun o H3 h3 b3=>zg (fun i σ H4=>∃ w1 w2 w3 w4 w5,σ=[some (.int n),some (.ref a),some (.ref b),some (.ref c),some (.ref d),w1,w2,w3,w4,w5]/\H4 c=some (.frz o (.dK (sgV sg)))/\∀ x u,x≠c->H x=some u->H4 x=some u) ⟨_,_,_,_,_,rfl,h3,fun x u hx hu=>b3.up hx (e2.up hu)⟩ (fun i σ H4 _ ⟨_,_,_,_,_,_,h,_⟩=>h) ?_ ?_⟩
  ·rintro i k v p σ H4 H5 hk hp h5 e5 ⟨w1,w2,w3,w4,w5,rfl,h4,b4⟩;unfold sgV at hk;rw[Dq,Dy]at hk;obtain⟨q,hq,hkv⟩:=hk;cases hkv
   have hm:=Dw hq;obtain⟨g1,g2⟩:=ok.sg q hm;refine⟨_,.inl h5,rfl,q.1,rfl,g1,fun H6 e6=>⟨q.2,rfl,g2,fun H7 e7=>?_⟩⟩
   exact⟨_,_,_,_,_,rfl,e7.up (e6.up (e5.up h4)),fun x u hx hu=>e7.up (e6.up (e5.up (b4 x u hx hu)))⟩
  rintro σ H4 ⟨w1,w2,w3,w4,w5,rfl,h4,b4⟩;refine⟨c,o,sgV sg,h4,fun o v z=>?_,?_⟩
  ·have z:H c=some (.frz o v):=z;rw[at0.sg]at z;cases z
  have e5:Ext H (upd H4 c (.dK (sgV sg))):=fun x u hu=>by
   by_cases q:x=c
   ·subst q;rw[at0.sg]at hu;rw[aW,hu]
   ·rw[ao q];exact b4 x u q hu
  refine⟨_,e5.rd at0.fl,bZ (xs:=fl.map V.str) (fun i σ H6=>∃ w1 w2 w3 w4 w5,σ=[some (.int n),some (.ref a),some (.ref b),some (.ref c),some (.ref d),w1,w2,w3,w4,w5]/\Ext H H6) ⟨_,_,_,_,_,rfl,e5⟩ (fun i σ H6 _ ⟨_,_,_,_,_,_,e⟩=>e.rd at0.fl) ?_ ?_⟩
  ·rintro i x σ H6 hx ⟨w1,w2,w3,w4,w5,rfl,e6⟩;rw[Dq,Dy]at hx;obtain⟨r,hr,rfl⟩:=hx;exact⟨r,rfl,ok.fl r (Dw hr),fun H7 e7=>⟨_,_,_,_,_,rfl,e6.trans e7⟩⟩
  rintro σ H6 ⟨w1,w2,w3,w4,w5,rfl,e6⟩;exact k H6 e6
end
noncomputable def unI:Ky->Int
 | .inl i=>i
 | .inr _=>0
noncomputable def unS:Ky->Str
 | .inr x=>x
 | .inl _=>""
noncomputable def mk (m:Mv):List Ky:=[.inl m.1,.inr m.2.1,.inl m.2.2]
noncomputable def unM:List Ky->Mv
 | [a,b,c]=>(unI a,unS b,unI c)
 | _=>(0,"",0)
noncomputable def cG (l:List Int):List Int:=(srt kLt (l.map Sum.inl)).map unI
noncomputable def aN (l:List Str):List Str:=(srt kLt (l.map Sum.inr)).map unS
noncomputable def eB (l:List Mv):List Mv:=(srt cD (l.map mk)).map unM
theorem nX(l:List Int):(srt kLt (l.map Sum.inl)).map kV=(cG l).map V.int:=by
 unfold cG;rw[Du];refine Fi fun k hk=>?_
 obtain⟨i,_,rfl⟩:=Dg.mp (cp.mp hk);rfl
theorem lS(l:List Str):(srt kLt (l.map Sum.inr)).map kV=(aN l).map V.str:=by
 unfold aN;rw[Du];refine Fi fun k hk=>?_
 obtain⟨i,_,rfl⟩:=Dg.mp (cp.mp hk);rfl
theorem rZ{l:List Int}{x:Int}:x∈cG l↔x∈l:=by
 unfold cG;constructor
 ·intro h;obtain⟨k,hk,rfl⟩:=Dg.mp h;obtain⟨i,hi,rfl⟩:=Dg.mp (cp.mp hk);exact hi
 ·intro h;exact Dg.mpr ⟨.inl x,cp.mpr (Dg.mpr ⟨x,h,rfl⟩),rfl⟩
theorem jX{l:List Str}:x∈aN l↔x∈l:=by
 unfold aN;constructor
 ·intro h;obtain⟨k,hk,rfl⟩:=Dg.mp h;obtain⟨i,hi,rfl⟩:=Dg.mp (cp.mp hk);exact hi
 ·intro h;exact Dg.mpr ⟨.inr x,cp.mpr (Dg.mpr ⟨x,h,rfl⟩),rfl⟩
theorem dZ{l:List Mv}{x:Mv}:x∈eB l↔x∈l:=by
 unfold eB;constructor
 ·intro h;obtain⟨k,hk,rfl⟩:=Dg.mp h;obtain⟨i,hi,rfl⟩:=Dg.mp (cp.mp hk);exact hi
 ·intro h;exact Dg.mpr ⟨mk x,cp.mpr (Dg.mpr ⟨x,h,rfl⟩),rfl⟩
theorem jf(l:List Int):∀ k∈l.map (Sum.inl:Int->Ky),isI k=true:=fun k hk=>by obtain⟨i,_,rfl⟩:=Dg.mp hk;rfl
theorem fh(l:List Str):∀ k∈l.map (Sum.inr:Str->Ky),isI k=false:=fun k hk=>by obtain⟨i,_,rfl⟩:=Dg.mp hk;rfl
theorem CC{l l':List Int}(h:∀ x,x∈l↔x∈l'):cG l=cG l':=by
 unfold cG;rw[iY (cI true) (jf l) fun k=>?_]
 simp only[Dg]
 constructor <;> rintro⟨a,ha,rfl⟩
 ·exact⟨a,(h a).mp ha,rfl⟩
 ·exact⟨a,(h a).mpr ha,rfl⟩
structure az where
 size:Int
 st:List Int
 mv:List Mv
 sg:List (Str×Str)
 fl:List Str
noncomputable def mkM (n:Int)(st:List Int)(mv:List Mv)(sg:List (Str×Str))(fl:List Str):az:=⟨n,cG st,eB mv,sg,aN fl⟩
noncomputable def wG (n:Int)(l1 l2 d l3:Addr):List (Str×V):=[("size",.int n),("start_rooms",.ref l1),("sorted_moves",.ref l2),("sign_by_deed",.ref d),("fault_deeds",.ref l3)]
structure gM (C:Addr)(H:Hp)(p:Addr)(M:az)(dx l1 l2 d l3:Addr)(ps:List (Mv×Addr)):Prop where
 ob:H p=some (.ins C dx (wG M.size l1 l2 d l3))
 st:H l1=some (.lst (M.st.map V.int))
 mv:H l2=some (.lst (refs ps))
 tup:eP H ps
 pm:ps.map (·.1)=M.mv
 sg:H d=some (.dK (sgV M.sg))
 fl:H l3=some (.lst (M.fl.map V.str))
theorem gM.ext{M:az}{dx l1 l2 d l3:Addr}{ps:List (Mv×Addr)}(m:gM C H p M dx l1 l2 d l3 ps)(e:Ext H H'):gM C H' p M dx l1 l2 d l3 ps:=
 ⟨e.up m.ob,e.up m.st,e.up m.mv,fun q hq=>e.up (m.tup q hq),m.pm,e.up m.sg,e.up m.fl⟩
noncomputable def bN (C:Addr)(H:Hp)(p:Addr)(M:az):Prop:=∃ dx l1 l2 d l3 ps,gM C H p M dx l1 l2 d l3 ps
theorem bN.ext{M:az}(m:bN C H p M)(e:Ext H H'):bN C H' p M:=by
 obtain⟨dx,l1,l2,d,l3,ps,m⟩:=m;exact⟨dx,l1,l2,d,l3,ps,m.ext e⟩
structure dk (K:PySem.W.Frag)(mg:Str->Option Value)(C:Addr):Prop where
 cl:Cls K C
 nS:cB K C "size"
 n1:cB K C "start_rooms"
 n2:cB K C "sorted_moves"
 n3:cB K C "sign_by_deed"
 n4:cB K C "fault_deeds"
 sorted:mg "sorted" = none
 set:mg "set" = none
 dict:mg "dict" = none
 list:mg "list" = none
noncomputable def Frm (p:Addr)(H H':Hp):Prop:=∀ x u,x≠p->H x=some u->H' x=some u
theorem Frm.ext(f:Frm p H H1)(e:Ext H1 H2):Frm p H H2:=fun x u n h=>e.up (f x u n h)
theorem Frm.but(f:Frm p H H1)(b:But p H1 H2):Frm p H H2:=fun x u n h=>b.up n (f x u n h)
theorem Frm.none{x:Addr}{o:HO}(f:Frm p H H1)(hp:H1 p=some o)(h:H1 x=none):H x=none:=by
 cases q:H x with
 | none=>rfl
 | some u=>
  by_cases e:x=p
  ·subst e;rw[hp]at h;cases h
  ·rw[f x u e q]at h;cases h
theorem Frm.rdL{dx:Addr}{fs:List (Str×V)}(f:Frm p H H1)(hp:H p=some (.ins C dx fs))(h:RdL H a xs):RdL H1 a xs:=by
 have n:a≠p:=by
  rintro rfl;rcases h with h|⟨o,h⟩ <;> (rw[hp]at h;cases h)
 rcases h with h|⟨o,h⟩
 ·exact .inl (f a _ n h)
 ·exact .inr ⟨o,f a _ n h⟩
section
variable {P:Program}{w:World}{K:PySem.W.Frag}{mg:Str->Option Value}{base:Heap}
noncomputable def lH (C:Addr):Sp:=fun vs H Q _=>∃ p dx n a b c d st ps sg fl,vs=[.ref p,.int n,.ref a,.ref b,.ref c,.ref d]/\H p=some (.ins C dx [])/\lD n st ps sg fl/\gm H n a b c d st ps sg fl/\st.length<=60/\fl.length<=60 ∧
 ∀ H' l1 l2 e l3 qs,gM C H' p (mkM n st (ps.map (·.1)) sg fl) dx l1 l2 e l3 qs->(H l1=none/\H l2=none/\H e=none/\H l3=none)->(∀ q∈qs,q∈ps)->(∀ x u,x≠p->H x=some u->H' x=some u)->Q .non H'
noncomputable abbrev gL:List Str:=["self","size","starts","moves","signs","faults"]
theorem vN:ba gL gL (aq iK):=⟨rfl,rfl,rfl,by decide +kernel,rfl,by decide +kernel,by decide +kernel⟩
theorem zW(F:Fun K "__init__" "Machine.__init__" iK f fd) (T:dk K mg C) (D:Known P w K mg base 3 "need_machine" ["size","starts","moves","signs","faults"] lu):ar P w K mg base CX0 4 f fd gL (lH C):=by
 refine F.ok vN (fun vs H Q E h=>?_) (fun cdv A outer s H vs Q E hr h=>?_)
 ·obtain⟨p,dx,n,a,b,c,d,st,ps,sg,fl,rfl,_⟩:=h;rfl
 ·obtain⟨p,dx,n,a,b,c,d,st,ps,sg,fl,rfl,hp,ok,at0,l60,f60,k⟩:=h;have hu:=hr.units;refine⟨_,ae (bw (aH D hr (aa (q_v 1) (aa (q_v 2) (aa (q_v 3) (aa (q_v 4) (aa (q_v 5) ab)))))))
   (ae (gI T.cl T.nS (q_v 0) (q_v 1))
   (ae (gI T.cl T.n1 (q_v 0) (mF rfl (q_v 2) T.sorted T.set))
   (ae (gI T.cl T.n2 (q_v 0) (we rfl hu (q_v 3) T.sorted T.set))
   (ae (gI T.cl T.n3 (q_v 0) (q_t BP T.dict (aa (q_v 4) ab)))
   (ah (gI T.cl T.n4 (q_v 0) (mF rfl (q_v 5) T.sorted T.set))))))),?_⟩
  refine⟨n,a,b,c,d,st,ps,sg,fl,rfl,ok,at0,fun H1 e1=>?_⟩
  have at1:=at0.ext e1;have f1:Frm p H H1:=fun x u _ h=>e1.up h
  refine⟨_,_,e1.up hp,by show 0<1000;decide,fun H2 h2 b2=>?_⟩
  have f2:=f1.but b2;have s2:RdL H2 a ((st.map Sum.inl).map kV):=by rw[Du];exact f2.rdL hp at0.st
  refine⟨st.map Sum.inl,s2,true,⟨jf st,by rw[Dd];exact l60⟩,fun l1 H3 n1 h3 e3=>?_⟩
  have f3:=f2.ext e3;rw[nX]at h3;refine⟨_,_,e3.up h2,by show 1<1000;decide,fun H4 h4 b4=>?_⟩
  have f4:=f3.but b4;have q1:l1≠p:=(aB h2 n1).symm;have s4:RdL H4 b ((ps.map fun q=>(mk q.1,q.2)).map fun q=>V.ref q.2):=by rw[Du];exact f4.rdL hp at0.mv
  have t4:∀ q∈ps,q.2≠p/\H4 q.2=some (.tup (kf q.1)):=fun q hq=>by
   have n:q.2≠p:=bo (at0.tup q hq) hp (fun z=>nomatch z)
   exact⟨n,f4 _ _ n (at0.tup q hq)⟩
  refine⟨ps.map fun q=>(mk q.1,q.2),s4,[false,true],fun q hq=>?_,by show _<=60;rw[Dd];have:=ok.few;lia,fun l2 out H5 n2 h5 e5 ho hin=>?_⟩
  ·obtain⟨r,hr,rfl⟩:=Dg.mp hq;exact⟨(t4 r hr).2,rfl⟩
  have f5:=f4.ext e5;refine⟨_,_,e5.up h4,by show 2<1000;decide,fun H6 h6 b6=>?_⟩
  have f6:=f5.but b6;have q2:l2≠p:=(aB h4 n2).symm;have nc:c≠p:=bo at0.sg hp (fun z=>nomatch z)
  refine⟨_,.inl (f6 _ _ nc at0.sg),fun e H7 n3 h7 e7=>?_⟩
  have f7:=f6.ext e7;refine⟨_,_,e7.up h6,by show 3<1000;decide,fun H8 h8 b8=>?_⟩
  have f8:=f7.but b8;have q3:e≠p:=(aB h6 n3).symm;have s8:RdL H8 d ((fl.map Sum.inr).map kV):=by rw[Du];exact f8.rdL hp at0.fl
  refine⟨fl.map Sum.inr,s8,false,⟨fh fl,by rw[Dd];exact f60⟩,fun l3 H9 n4 h9 e9=>?_⟩
  have f9:=f8.ext e9;rw[lS]at h9;refine⟨_,_,e9.up h8,by show 4<1000;decide,fun HA hA bA=>?_⟩
  have fA:=f9.but bA;have q4:l3≠p:=(aB h8 n4).symm;refine k HA l1 l2 e l3 (out.map fun o=>(unM o.1,o.2)) ⟨hA,?_,?_,?_,?_,?_,?_⟩ ⟨f2.none h2 n1,f4.none h4 n2,f6.none h6 n3,f8.none h8 n4⟩ ?_ fA
  ·exact bA.up q1 (e9.up (b8.up q1 (e7.up (b6.up q1 (e5.up (b4.up q1 h3))))))
  ·have:=bA.up q2 (e9.up (b8.up q2 (e7.up (b6.up q2 h5))))
   unfold refs;rw[Du];exact this
  ·intro q hq;obtain⟨o,ho',rfl⟩:=Dg.mp hq;obtain⟨r,hr,rfl⟩:=Dg.mp (hin o ho');exact fA _ _ (t4 r hr).1 (at0.tup r hr)
  ·show(out.map fun o=>(unM o.1,o.2)).map (·.1)=eB (ps.map (·.1))
   unfold eB;rw[Du,show((fun x:Mv×Addr=>x.1)∘fun o:List Ky×Addr=>(unM o.1,o.2))=unM∘(·.1) from rfl,<-Du,ho,Du,Du]
   rfl
  ·exact bA.up q3 (e9.up (b8.up q3 h7))
  ·exact bA.up q4 h9
  ·intro q hq;obtain⟨o,ho',rfl⟩:=Dg.mp hq;obtain⟨r,hr,rfl⟩:=Dg.mp (hin o ho');exact hr
end
noncomputable def aE (sg:List (Str×Str))(z:Str):Option Str:=(sg.find? fun p=>decide (p.1=z)).map (·.2)
noncomputable def qD:Option Str->V
 | some x=>.str x
 | none=>.non
theorem sA(sg:List (Str×Str))(z:Str):((aJ (sgV sg) (Sum.inr z)).getD .non)=qD (aE sg z):=by
 unfold aE aJ sgV;rw[List.find?_map,Option.map_map];have e:((fun kv:L2.Key×V=>decide (kv.1=Sum.inr z))∘fun p:Str×Str=>((Sum.inr p.1:L2.Key),V.str p.2))=fun p:Str×Str=>decide (p.1=z):=by
  funext p;apply Ej.mpr
  simp
 rw[e];cases sg.find? fun p=>decide (p.1=z) <;> rfl
theorem en(z:Int)(l:List Int):inV (.int z) (l.map V.int)=decide (z∈l):=by
 unfold inV;rw[List.any_map];apply Ej.mpr;rw[List.any_eq_true,decide_eq_true_eq];constructor
 ·rintro⟨x,hx,h⟩
  have:x=z:=by simpa [eqV] using h
  rw[<-this];exact hx
 ·intro h;exact⟨z,h,by simp [eqV]⟩
theorem oY(l:List Str):(l.map V.str).all bI=true:=by rw[List.all_map];exact EW.mpr fun _ _=>rfl
theorem cw(l:List Int):(l.map V.int).all bI=true:=by rw[List.all_map];exact EW.mpr fun _ _=>rfl
section
variable {P:Program}{w:World}{K:PySem.W.Frag}{mg:Str->Option Value}{base:Heap}
noncomputable def mP (C:Addr):Sp:=fun vs H Q _=>∃ p M,vs=[.ref p]/\bN C H p M/\New H (.lst (M.st.map V.int)) Q
theorem vU:ba ["self"] ["self"] (aq iW):=⟨rfl,rfl,rfl,by decide +kernel,rfl,by decide +kernel,by decide +kernel⟩
theorem Aw(F:Fun K "starts" "Machine.starts" iW f fd) (T:dk K mg C):ar P w K mg base CX0 1 f fd ["self"] (mP C):=by
 refine F.ok vU (fun vs H Q E h=>?_) (fun cdv A outer s H vs Q E hr h=>?_)
 ·obtain⟨p,M,rfl,_⟩:=h;rfl
 ·obtain⟨p,M,rfl,⟨dx,l1,l2,d,l3,ps,m⟩,k⟩:=h;refine⟨_,ah (bz (q_t jS T.list (aa (ji T.cl T.n1 (q_v 0)) ab))),?_⟩;exact⟨_,_,m.ob,_,rfl,_,.inl m.st,k⟩
noncomputable def jb (C:Addr):Sp:=fun vs H Q _=>∃ p M,vs=[.ref p]/\bN C H p M/\∀ l H' ps,H l=none->H' l=some (.lst (refs ps))->eP H' ps->ps.map (·.1)=M.mv->Ext H H'->Q (.ref l) H'
theorem Br:ba ["self"] ["self"] (aq jv):=⟨rfl,rfl,rfl,by decide +kernel,rfl,by decide +kernel,by decide +kernel⟩
theorem Ck(F:Fun K "moves" "Machine.moves" jv f fd) (T:dk K mg C):ar P w K mg base CX0 1 f fd ["self"] (jb C):=by
 refine F.ok Br (fun vs H Q E h=>?_) (fun cdv A outer s H vs Q E hr h=>?_)
 ·obtain⟨p,M,rfl,_⟩:=h;rfl
 ·obtain⟨p,M,rfl,⟨dx,l1,l2,d,l3,ps,m⟩,k⟩:=h;refine⟨_,ah (bz (q_t jS T.list (aa (ji T.cl T.n2 (q_v 0)) ab))),?_⟩;exact⟨_,_,m.ob,_,rfl,_,.inl m.mv,fun l H' hl h' e=>k l H' ps hl h' (fun q hq=>e.up (m.tup q hq)) m.pm e⟩
noncomputable def iJ (C:Addr):Sp:=fun vs H Q _=>∃ p M z,vs=[.ref p,.str z]/\bN C H p M/\Q (qD (aE M.sg z)) H
theorem zp:ba ["self","deed"] ["self","deed"] (aq jT):=⟨rfl,rfl,rfl,by decide +kernel,rfl,by decide +kernel,by decide +kernel⟩
theorem vd(F:Fun K "sign_of" "Machine.sign_of" jT f fd) (T:dk K mg C):ar P w K mg base CX0 1 f fd ["self","deed"] (iJ C):=by
 refine F.ok zp (fun vs H Q E h=>?_) (fun cdv A outer s H vs Q E hr h=>?_)
 ·obtain⟨p,M,z,rfl,_⟩:=h;rfl
 ·obtain⟨p,M,z,rfl,⟨dx,l1,l2,d,l3,ps,m⟩,k⟩:=h;refine⟨_,ah (bz (su hr.units (ji T.cl T.n3 (q_v 0)) (q_v 1) ⟨rfl,rfl,rfl,rfl⟩)),?_⟩;refine⟨_,_,m.ob,_,rfl,_,.inl m.sg,_,.inl m.sg,_,rfl,?_⟩;rw[sA];exact k
end
end K
end
section
namespace SB
open PySem PySem.Spec PyProof.Rows L2
theorem tY(a b:Str):(a++b).cps.toList=a.cps.toList++b.cps.toList:=by
 show(a.cps++b.cps).toList=_
 exact Ee
theorem mz(a:Str):a.length=a.cps.toList.length:=by rw[DJ];rfl
theorem len_app(a b:Str):(a++b).length=a.length+b.length:=by rw[mz,tY,Dl,<-mz,<-mz]
section
variable {X:Cx}
theorem av(N:List Str)(i:Nat)(he:PE X e te)(hN:N.Nodup:=by decide +kernel)(eN:X.N=N:=by rfl)(hi:X.N[i]? =some x:=by rfl)(hx:Loc X.env.scope x:=by first|exact Or.inl rfl|exact Or.inr rfl)(hs:swapsWith e (some (.Name x pos')) pos.line X.env=pure false:=by rfl)(hf:X.fn x=true\/X.env.scope.names.lookup x=some .local:=by first|exact .inl rfl|exact .inr rfl|assumption):PS X (.Assign [.Name x pos'] e pos) (iC te (bR i)):=
 yx (eN▸hN) hi hx he hs hf
variable {o e:Expr}{es:List Expr}{ta te:TE}{t:TA}{apos cpos:Pos}
theorem cT(ho:PE X o ta)(he:PE X e te)(hbase:attributeBase o "append" X.env (eval o X.env)=eval o X.env:=by rfl) (hfew:((backTo cpos (starEach [e] X.env)).all (fun x=>!x.1)&&(backToKw cpos (keywordEach [] X.env)).all (fun x=>x.1.isSome)
   &&decide ([e].length+([]:List Keyword).length+(if ([]:List Keyword).isEmpty then 0 else 1)<30))=true:=by rfl) (hline:(apos.endLine==cpos.line)=true:=by rfl) (hs:starEach [e] X.env=[(false,eval e X.env)]:=by rfl):PE X (.Call (.Attribute o "append" apos) [e] [] cpos) (iu mV ta (qM te eO)):=
 PE.weak (Cz PySem.F.plainAttrs_list PySem.F.slot_list_append PySem.F.type_list_append vJ (PE.cl ho) (PA.cl (aa he ab hs)) hbase hfew hline hs (by rfl)) zX
theorem B5(ho:PE X o ta)(hbase:attributeBase o "reverse" X.env (eval o X.env)=eval o X.env:=by rfl) (hline:(apos.endLine==cpos.line)=true:=by rfl):PE X (.Call (.Attribute o "reverse" apos) [] [] cpos) (iu kx ta eO):=
 PE.weak (rD PySem.F.plainAttrs_list PySem.F.slot_list_reverse PySem.F.type_list_reverse zM (PE.cl ho) hbase hline) rX
end
end SB
end
section
set_option maxHeartbeats 4000000
namespace K
open PySem PySem.Spec PyProof.Rows L2 SB
noncomputable abbrev ju:Stmt:=top 26
noncomputable abbrev iV:Stmt:=top 27
noncomputable def low (z:Str):Prop:=z.cps.toList.all lower=true
theorem BE(h:low z)(h1:1<=z.length)(h2:z.length<=8):isW z=true:=by
 unfold isW;rw[DB h1,DB h2,h];rfl
theorem Cv{a b:Str}(ha:low a)(hb:low b):low (a++b):=by
 unfold low at *;rw[tY,List.all_append,ha,hb];rfl
theorem A8{c:Nat}(h:lower c=true):low ⟨#[c]⟩:=by
 unfold low
 simp [h]
theorem Ap{i:Int}(h1:0<=i)(h2:i<26):∃ c,atI ("abcdefghijklmnopqrstuvwxyz":Str).cps.toList i=some c/\lower c=true:=by
 have e:("abcdefghijklmnopqrstuvwxyz":Str).cps.toList=List.range' 97 26:=by decide +kernel
 rw[e];obtain⟨j,rfl⟩:∃ j:Nat,i=j:=⟨i.toNat,by lia⟩
 refine⟨97+j,gO ?_,?_⟩
 ·rw[List.getElem?_range' (by lia)]
  simp
 ·unfold lower
  simp
  lia
theorem zi:("abcdefghijklmnopqrstuvwxyz":Str).length<=sizeLine:=by decide +kernel
structure fQ (K:PySem.W.Frag)(mg:Str->Option Value):Prop where
 len:mg "len" = none
 range:mg "range" = none
section
variable {P:Program}{w:World}{K:PySem.W.Frag}{mg:Str->Option Value}{base:Heap}
noncomputable def ai (ns:List Int)(k:Int):Int:=ns.getD k.toNat 0
noncomputable def jl:Sp:=fun vs H Q _=>∃ a ns k,vs=[.ref a,.int k]/\RdL H a (ns.map V.int)/\0<=k/\Q (.int (ai ns k)) H
theorem B7:ba ["_law_script","_law_k"] ["_law_script","_law_k"] (aq ju):=⟨rfl,rfl,rfl,by decide +kernel,rfl,by decide +kernel,by decide +kernel⟩
theorem Ca(F:Fun K "_law_cell" "_law_cell" ju f fd) (T:fQ K mg):ar P w K mg base CX0 1 f fd ["_law_script","_law_k"] jl:=by
 refine F.ok B7 (fun vs H Q E h=>?_) (fun cdv A outer s H vs Q E hr h=>?_)
 ·obtain⟨a,ns,k,rfl,_⟩:=h;rfl
 ·obtain⟨a,ns,k,rfl,ha,hk,q⟩:=h;refine⟨_,ae (cc (aR rR (q_v 1) (q_b ef T.len (aa (q_v 0) ab))) (ah (bz (bD cz (q_v 0) (q_v 1) (fun _ _=>rfl)))) bY) (ah (bz af)),?_⟩
  refine⟨_,ha,aV (fun h=>?_) (fun h=>?_)⟩
  ·have h:=DX h;rw[Dd]at h;obtain⟨j,rfl⟩:∃ j:Nat,k=j:=⟨k.toNat,by lia⟩
   have hj:j<ns.length:=by lia
   refine⟨_,ha,.int (ai ns j),gO ?_,q⟩;rw[Dq,Dv hj];unfold ai
   simp [EJ,hj]
  ·have h:¬ k<(ns.length:Int):=fun z=>h (DB (by rw[Dd];exact z))
   have e:ai ns k=0:=by
    unfold ai;rw[EJ,Eg.mpr (by lia)]
    rfl
   rw[e]at q;exact q
structure mY (mg:Str->Option Value):Prop where
 int:mg "int" = none
noncomputable def b2n (b:Bool):Int:=if b then 1 else 0
theorem sQ(b:Bool):0<=b2n b/\b2n b<=1:=by cases b <;> decide
noncomputable def oQ:List V->Hp->VK->Prop:=fun xs H Q=>match xs with
 | [.bl b]=>Q (.int (b2n b)) H
 | _=>False
theorem lU:aD X (.type "int") oQ:=aD.weak uE fun xs H Q h=>by
 unfold oQ at h
 split at h
 ·exact .inr ⟨_,rfl,h⟩
 ·exact h.elim
noncomputable def GoodW (k:Nat)(ws:List Str):Prop:=ws.length=k/\∀ z∈ws,isW z=true
noncomputable def nO:Sp:=fun vs H Q _=>∃(c:Int)(k:Nat),vs=[.int c,.int k]/\k<=5/\∀ ws,GoodW k ws->New H (.lst (ws.map V.str)) Q
noncomputable abbrev cS:List Str:=["_law_cell_here","_law_many","_law_letters","_law_number","_law_long","_law_at","_law_found","_law_k","_law_word","_law_j","_law_place"]
theorem yL:ba cS ["_law_cell_here","_law_many"] (aq iV):=⟨rfl,rfl,rfl,by decide +kernel,rfl,by decide +kernel,by decide +kernel⟩
theorem Bu(F:Fun K "_law_words" "_law_words" iV f fd) (T:fQ K mg) (TN:mY mg):ar P w K mg base CX0 1 f fd ["_law_cell_here","_law_many"] nO:=by
 refine F.ok yL (fun vs H Q E h=>?_) (fun cdv A outer s H vs Q E hr h=>?_)
 ·obtain⟨c,k,rfl,_⟩:=h;rfl
 ·obtain⟨c,kk,rfl,hk5,k⟩:=h;refine⟨_,(ae (av cS 2 eC)
   (ae (av cS 3 (ag bE (q_v 0) af))
   (ae (av cS 4 (ag bW af (ag bE (q_v 3) af)))
   (ae (av cS 5 (ag bE (ag cn (q_v 3) af) (q_v 4)))
   (ae (av cS 6 (bf ab))
   (ae (bC PassesOwn.never rfl (eG (q_v 1) T.range) (q_g cS 7) (ae (av cS 8 eC) (ae (bC PassesOwn.never rfl (eG (q_v 4) T.range) (q_g cS 9) (ae (av cS 10 (ag bW (ag bW (ag cn (q_v 3) (ag bW (q_v 9) af)) (ag fX (q_v 9) (q_v 9))) (ag fX (q_t lU TN.int (aa (gh du (q_v 9) (q_v 5)) ab)) (q_v 7)))) (ah (av cS 8 (ag bW (q_v 8) (bD cz (q_v 2) (ag bE (q_v 10) af) (fun _ _=>rfl))))))) (ah (bw (cT (q_v 6) (q_v 8)))))))
   (ah (bz (q_v 6))))))))),?_⟩
  have z1:∀{n:Nat},n<=1000->n<=sizeLine:=fun h=>by rw[DV];lia
  have z0:∀{n:Nat},n<=1000->n<sizeLine:=fun h=>by rw[DV];lia
  have h8:0<=c%2147483629%8/\c%2147483629%8<8:=⟨E7 _ (by decide),EL _ (by decide)⟩
  refine⟨by show(0:Int)<2147483629;decide,by show(0:Int)<8;decide,⟨by decide,by decide⟩,by show(0:Int)<1+c%2147483629%8;lia,z1 (by show 0<=1000;decide),fun l H0 hl h0 e0=>?_⟩
  show bR 6 (.ref l) [some (.int c),some (.int kk),some (.str "abcdefghijklmnopqrstuvwxyz"),some (.int (c%2147483629)),some (.int (1+c%2147483629%8)),some (.int (c%2147483629 / 8%(1+c%2147483629%8))),none,none,none,none,none] H0 _
  obtain⟨nu,hnu⟩:∃ nu,c%2147483629=nu:=⟨_,rfl⟩;rw[hnu]at h8 ⊢;obtain⟨lo,hlo⟩:∃ lo,1+nu%8=lo:=⟨_,rfl⟩;rw[hlo];obtain⟨a',ha'⟩:∃ a',nu / 8%lo=a':=⟨_,rfl⟩;rw[ha'];have hl8:1<=lo/\lo<=8:=by lia
  clear hnu ha' hlo;refine⟨⟨by lia,by lia⟩,nq (fun i σ H1=>∃(ws:List Str) (v7 v8 v9 v10:Option V),σ=[some (.int c),some (.int kk),some (.str "abcdefghijklmnopqrstuvwxyz"),some (.int nu),some (.int lo),some (.int a'),some (.ref l),v7,v8,v9,v10]/\H1 l=some (.lst (ws.map V.str))/\GoodW i ws/\∀ x u,H x=some u->H1 x=some u)
   ⟨[],none,none,none,none,rfl,h0,⟨rfl,fun z hz=>nomatch hz⟩,fun x u hu=>e0.up hu⟩ ?_ ?_⟩
  ·rintro i σ H1 hi ⟨ws,v7,v8,v9,v10,rfl,h1,gw,fr⟩;have hi:i<kk:=by have:i<(kk:Int).toNat:=hi;lia
   refine⟨⟨by lia,by lia⟩,nq (fun j σ H2=>∃(z:Str) (v9 v10:Option V),σ=[some (.int c),some (.int kk),some (.str "abcdefghijklmnopqrstuvwxyz"),some (.int nu),some (.int lo),some (.int a'),some (.ref l),some (.int (0+(i:Int))),some (.str z),v9,v10]/\H2=H1/\low z/\z.length=j)
    ⟨("":Str),v9,v10,rfl,rfl,by unfold low;decide +kernel,by decide +kernel⟩ ?_ ?_⟩
   ·rintro j σ H2 hj ⟨z,v9,v10,rfl,rfl,hz,lz⟩;have hj:j<lo.toNat:=hj;obtain⟨c1,hc1,hc2⟩:=Ap (i:=(nu / (0+(j:Int)+3)+(0+(j:Int))*(0+(j:Int))+b2n (decide (V.int (0+(j:Int))=V.int a'))*(0+(i:Int)))%26) (E7 _ (by decide)) (EL _ (by decide))
    have hb:=sQ (decide (V.int (0+(j:Int))=V.int a'));refine⟨⟨by show(0:Int)<0+(j:Int)+3;lia,by show 0+(j:Int)+3<1073741824;lia⟩,.inl ⟨by lia,by lia⟩,rfl,.inl ⟨by show -(2^64)<b2n _;lia,by show b2n _<2^64;lia⟩,by show(0:Int)<26;decide,zi,c1,hc1,?_,z++⟨#[c1]⟩,_,_,rfl,rfl,Cv hz (A8 hc2),?_⟩
    ·show z.length+1<=sizeLine
     exact z1 (by lia)
    ·rw[len_app,lz];rfl
   rintro σ H2 ⟨z,v9,v10,rfl,rfl,hz,lz⟩;have lz:z.length=lo.toNat:=lz;refine⟨_,.inl h1,_,h1,z0 (by rw[Dd,gw.1];lia),fun H3 h3 b3=>?_⟩
   refine⟨ws++[z],_,_,_,_,rfl,by rw[h3,Dn];rfl,⟨by rw[Dl,gw.1];rfl,fun y hy=>?_⟩,fun x u hu=>b3.up (aB hu hl) (fr x u hu)⟩
   rcases Dp.mp hy with hy|hy
   ·exact gw.2 y hy
   ·rw[Dj.mp hy];exact BE hz (by lia) (by lia)
  rintro σ H1 ⟨ws,v7,v8,v9,v10,rfl,h1,gw,fr⟩;exact k ws (by have:=gw.1;exact⟨by have:ws.length=(kk:Int).toNat:=this;lia,gw.2⟩) l H1 hl h1 fr
end
end K
end
section
namespace SB
open PySem PySem.Spec PyProof.Rows L2
noncomputable def flD (xs:List V):Dt:=.lst (xs.map Dt.sc)
theorem ni{K:PySem.W.Frag}:∀{xs:List V},xs.all bI=true->IsL K H (xs.map Dt.sc) xs
 | [],_=>by unfold IsL;rfl
 | x::r,h=>by
  simp only[List.all_cons,Ey]at h;rw[Dk];unfold IsL;refine⟨x,r,rfl,?_,ni h.2⟩;unfold Is;exact⟨rfl,h.1⟩
theorem cj{K:PySem.W.Frag}(h:RdL H a xs)(f:xs.all bI=true):Is K H (flD xs) (.ref a):=by
 unfold flD Is;exact⟨a,xs,rfl,h.sq,ni f⟩
theorem k7:∀ xs:List V,aZ (xs.map Dt.sc)=0
 | []=>by unfold aZ;rfl
 | x::r=>by
  rw[Dk];unfold aZ dep;rw[k7 r];rfl
theorem dU(xs:List V):dep (flD xs)=1:=by unfold flD dep;rw[k7]
theorem qv:∀{xs ys:List V},(∀ x∈xs,∀ y∈ys,nb x y=true)->bB (xs.map Dt.sc) (ys.map Dt.sc)
 | [],ys,_=>by unfold bB;cases ys <;> trivial
 | x::r,[],_=>by unfold bB;trivial
 | x::r,y::ys,h=>by
  rw[Dk,Dk];unfold bB;refine⟨?_,qv fun a ha b hb=>h a (Dr _ ha) b (Dr _ hb)⟩
  unfold Alike;exact h x (Dm ..) y (Dm ..)
theorem eJ{ys:List V}(h:∀ x∈xs,∀ y∈ys,nb x y=true):Alike (flD xs) (flD ys):=by
 unfold flD Alike;exact qv h
theorem lP:∀{xs ys:List V},xs.map Dt.sc=ys.map Dt.sc->xs=ys
 | [],[],_=>rfl
 | [],_::_,h=>by simp at h
 | _::_,[],h=>by simp at h
 | x::r,y::s,h=>by
  simp only[Dk,List.cons.injEq,Dt.sc.injEq]at h;rw[h.1,lP h.2]
theorem lT{ys:List V}(h:flD xs=flD ys):xs=ys:=by
 unfold flD at h;exact lP (gS.mp h)
theorem nv(xs ys:List Int):∀ x∈xs.map V.int,∀ y∈ys.map V.int,nb x y=true:=fun x hx y hy=>by
 obtain⟨i,_,rfl⟩:=Dg.mp hx;obtain⟨j,_,rfl⟩:=Dg.mp hy;rfl
theorem BQ(xs ys:List Str):∀ x∈xs.map V.str,∀ y∈ys.map V.str,nb x y=true:=fun x hx y hy=>by
 obtain⟨i,_,rfl⟩:=Dg.mp hx;obtain⟨j,_,rfl⟩:=Dg.mp hy;rfl
section
variable {P:Program}{w:World}{K:PySem.W.Frag}{mg:Str->Option Value}{base h:Heap}
noncomputable def noL (K:PySem.W.Frag):Bool:=K.all fun p=>p.2.cls !=.type "list"
noncomputable def Has (K:PySem.W.Frag)(mg:Str->Option Value)(x:Str)(st:Stmt):Prop:=∃ f fd,Fun K x x st f fd/\mg x=some (.ref f)
theorem bP{st:Stmt}{oc:Value}{od an:Option Addr}{osl:Array (Option Value)}{kV doc cdv ct:Value}(X:K.In h)(G:h.Ns mainGlobals mg)(a:PySem.W.nsIn K mainGlobals x=some (some (.ref f)))(l:K.lookup f=some ⟨oc,od,.func (PySem.W.fnOf x x (cO st) (cq st) (aq st) .none kV doc pm an cdv ct),osl⟩)(c:PySem.W.codeIn K cdv x=true)(k:PySem.W.keepIn K (.ref f)=true):Has K mg x st:=
 ⟨f,_,sM l c k,PySem.W.mg_of X G a⟩
noncomputable def cH (K:PySem.W.Frag)(C:Addr)(m qual:Str)(st:Stmt):Prop:=∃ f fd,Fun K m qual st f fd/\Meth K C m f
theorem iP{m:Str}{st:Stmt}{oc:Value}{od an:Option Addr}{osl:Array (Option Value)}{kV doc cdv ct:Value}(a:PySem.W.findIn K (.ref C) m=some (some (.ref f)))(i:PySem.W.isFn K (.ref f)=true)(l:K.lookup f=some ⟨oc,od,.func (PySem.W.fnOf m qual (cO st) (cq st) (aq st) .none kV doc pm an cdv ct),osl⟩)(c:PySem.W.codeIn K cdv qual=true)(k:PySem.W.keepIn K (.ref f)=true):cH K C m qual st:=
 ⟨f,_,sM l c k,⟨a,i,k⟩⟩
theorem Has.known{st:Stmt}{k:Nat}{sp:Sp}(H:Has K mg x st)(ok:∀ f fd,Fun K x x st f fd->ar P w K mg base CX0 k f fd ps sp)(hb:∀(kV doc pm:Value)(an:Option Addr)(cdv ct:Value)(us:List Value),us.length=ps.length->bindArgs (PySem.W.fnOf x x (cO st) (cq st) (aq st) .none kV doc pm an cdv ct) ⟨us,[]⟩=pure (ps.zip us)):Known P w K mg base k x ps sp:=by
 obtain⟨f,fd,F,m⟩:=H;exact⟨f,fd,ok f fd F,m,F.kp,F.binds hb⟩
theorem cH.known{m:Str}{st:Stmt}{k:Nat}{sp:Sp}(H:cH K C m qual st)(ok:∀ f fd,Fun K m qual st f fd->ar P w K mg base CX0 k f fd ps sp)(hb:∀(kV doc pm:Value)(an:Option Addr)(cdv ct:Value)(us:List Value),us.length=ps.length->bindArgs (PySem.W.fnOf m qual (cO st) (cq st) (aq st) .none kV doc pm an cdv ct) ⟨us,[]⟩=pure (ps.zip us)):c9 P w K mg base k C m ps sp:=by
 obtain⟨f,fd,F,me⟩:=H;exact⟨f,fd,ok f fd F,me,F.binds hb⟩
theorem cH.xD{st:Stmt}{k:Nat}{sp:Sp}(H:cH K C "__init__" qual st) (mc:mg x=some (.ref C)) (mk:PySem.W.makesIn K C=true) (kc:PySem.W.keepIn K (.ref C)=true) (ok:∀ f fd,Fun K "__init__" qual st f fd->ar P w K mg base CX0 k f fd ps sp) (hb:∀(kV doc pm:Value) (an:Option Addr) (cdv ct:Value) (us:List Value),us.length=ps.length->bindArgs (PySem.W.fnOf "__init__" qual (cO st) (cq st) (aq st) .none kV doc pm an cdv ct) ⟨us,[]⟩=pure (ps.zip us)):jJ P w K mg base k x C ps sp:=by
 obtain⟨f,fd,F,me⟩:=H;exact⟨f,fd,⟨mk,me.at_,me.fn,kc⟩,ok f fd F,mc,F.binds hb⟩
end
section
variable {X:Cx}{a b c e o:Expr}{ta tb tc te:TE}{pos p apos cpos:Pos}
open Classical in
noncomputable def isD (K:PySem.W.Frag)(H:Hp)(d:Dt)(u:Value):Bool:=decide (∃ y,RelV y u/\Is K H d y)
theorem yz{K:PySem.W.Frag}{d:Dt}:isD K H d u=true↔∃ y,RelV y u/\Is K H d y:=by unfold isD;simp
theorem gE(I:Inv X pins σ H s){d e:Dt}{y:V}(r:RelV y u)(h:Is X.K H e y)(ha:Alike e d)(hd:dep e<=40):isD X.K H d u=eqD e d:=by
 apply Ej.mpr;rw[yz,eQ];constructor
 ·rintro⟨y',r',h'⟩;rw[RelV.inj r' r]at h';exact kO I 40 hd h h' ha
 ·rintro rfl;exact⟨y,r,h⟩
theorem pV(I:Inv X pins σ H s)(hA:A.units+40<cLine){d:Dt}{x:V}(rx:RelV x v)(hx:Is X.K H d x):∀{ds:List Dt}{xs:List V}{us:List Value},IsL X.K H ds xs->Vals xs us->(∀ e∈ds,Alike e d/\dep e<=40) →
  (∀ u∈us,SeqAt.EqAt A s u v (isD X.K H d u))/\us.any (isD X.K H d)=ds.any fun e=>eqD e d
 | [],xs,us,h,r,_=>by
  unfold IsL at h;subst h;cases r
  exact⟨fun u hu=>(by cases hu),rfl⟩
 | e::ds,xs,us,h,r,ok=>by
  unfold IsL at h;obtain⟨y,rs,rfl,h1,h2⟩:=h;cases r with
  | cons r1 r2=>
   obtain⟨a1,d1⟩:=ok e (Dm ..);obtain⟨i1,i2⟩:=pV I hA rx hx h2 r2 fun e' he'=>ok e' (Dr _ he')
   refine⟨fun u hu=>?_,?_⟩
   ·rcases DG.mp hu with rfl|hu
    ·rw[gE I r1 h1 a1 d1];exact eqj 40 d1 h1 hx a1 pins s σ _ v A I r1 rx hA
    ·exact i1 u hu
   ·rw[Fn,Fn,i2,gE I r1 h1 a1 d1]
theorem yR(hu:X.A.units+64<cLine):OpR X (compareOp .NotIn) (AK X.K true):=by
 intro pins s σ H x y v u Q I rx ry h;obtain⟨d,a,xs,ds,rfl,hq,hl,hx,ok,q⟩:=h;cases ry
 obtain⟨its,r,pl,hz⟩:=I.list hq;obtain⟨m1,m2⟩:=pV I (A:=X.A.in1) (by show X.A.units+1+40<cLine;lia) rx hx hl r ok
 refine SeqAt.notIn_listAt (isD X.K H d) pl.isList (fun w hw=>m1 w (by simpa using hw)) ⟨.bl _,H,I,rfl,?_⟩
 rw[show its.toArray.any (isD X.K H d)=its.any (isD X.K H d) by simp,m2]
 exact q
noncomputable def Cs (td ty:TE):TE:=fun σ H Q=>td σ H fun x H1=>match x with
 | .ref p=>ty σ H1 fun y H2=>∃ kvs,RdD H2 p kvs/\∃ k,keyOf y=some k/\∃ v,aJ kvs k=some v/\Q v H2
 | _=>False
theorem u4(hu:X.A.units+64<cLine)(ho:PE X o ta)(he:PE X e te)(hs:jW e:=by intro _ _;rfl):PE X (.Subscript o e pos) (Cs ta te):=
 PE.weak (CL (by lia) (PE.cl ho) (PE.cl he) hs) fun σ H Q h=>⟨_,h,fun x H1 q=>by
  split at q
  ·exact⟨_,q,fun y H2 q=>by
    obtain⟨kvs,hk,k,hy,v,hv,q⟩:=q;exact⟨_,v,rfl,.inl ⟨kvs,k,hk,gY hy,hv.symm⟩,q⟩⟩
  ·exact q.elim⟩
noncomputable def pD (neg:Bool):R2:=fun y x H Q=>match x with
 | .ref p=>∃ kvs,RdD H p kvs/\∃ k,keyOf y=some k/\Q (.bl (if neg then !(aJ kvs k).isSome else(aJ kvs k).isSome)) H
 | _=>False
theorem oU(hu:X.A.units+64<cLine):OpR X (compareOp .NotIn) (pD true):=by
 intro pins s σ H y x v u Q I ry rx h;unfold pD at h
 split at h
 ·obtain⟨kvs,hk,k,hy,q⟩:=h;cases rx
  exact An (by lia) I (.inl ⟨kvs,k,hk,gY hy,rfl⟩) ry fun s3 I3=>⟨.bl _,H,I3,rfl,q⟩
 ·exact h.elim
noncomputable def ud:List V->Hp->VK->Prop:=fun xs H Q=>match xs with
 | [.ref p]=>∃ ys,RdT H p ys/\Q (.int ys.length) H
 | _=>False
theorem uV:aD X (.builtin "len") ud:=aD.weak qm fun xs H Q h=>by
 unfold ud at h
 split at h
 ·obtain⟨ys,hy,q⟩:=h;exact⟨_,ys,rfl,.inr hy.sq,q⟩
 ·exact h.elim
end
noncomputable def mh (g:TG):Prop:=∀ x σ H (Q Q':L2.St->Hp->Prop),(∀ v H',Q v H'->Q' v H')->g x σ H Q->g x σ H Q'
theorem jk{fr:List (Option Nat)}{σ':L2.St}{w:Option V}(h:fr[i]? =some none)(f:cR fr σ σ'):cR fr σ (σ'.set i w):=fun k v e=>by
 rw[List.getElem?_set]
 by_cases q:i=k
 ·subst q;unfold frV at e;rw[Dq,h]at e;cases e
 ·rw[if_neg q];exact f k v e
noncomputable def b2i (b:Bool):Int:=if b then 1 else 0
noncomputable def iy:L2.Key->Value->Bool
 | .inl i,.bool b=>decide (i=b2i b)
 | k,v=>bq k v
theorem c6:∀{k:L2.Key}{v:Value},iy k v=true->(∃ i t,k=Sum.inl i/\v=Value.int i t)\/(∃ x t,k=Sum.inr x/\v=Value.str x t)\/∃ b,k=Sum.inl (b2i b)/\v=Value.bool b:=by
 intro k v h;unfold iy at h
 split at h
 ·rename_i i b
  exact .inr (.inr ⟨b,by rw[DX h],rfl⟩)
 ·rcases br h with h|h
  ·exact .inl h
  ·exact .inr (.inl h)
theorem AX{b:Bool}{Q:Int->Shared->Prop}(h:Q (hashInt (b2i b)) { s with toks:=s.toks+1 }):wpAny (model prog w) A (PySem.pyHash (.bool b)) Q E s:=by
 refine PySem.W.pyHash_slot (T:="bool") rfl F.slot_bool_hash entry_int_hash (args_int_hash _) rfl (.inl rfl) ?_
 cases b
 ·exact(show wpAny _ _ (do ret (<-mkInt 0)) _ _ s from De (wpAny_mkInt (Df ⟨_,_,rfl,h⟩)))
 ·exact(show wpAny _ _ (do ret (<-mkInt 1)) _ _ s from De (wpAny_mkInt (Df ⟨_,_,rfl,h⟩)))
noncomputable def dH (prog:Program)(w:World):PySem.KeyKind prog w L2.Key where
 is:=iy
 hash:=ro w
 inj:=fun v a b ha hb=>by
  rcases c6 ha with⟨i,t,rfl,rfl⟩|⟨x,t,rfl,rfl⟩|⟨c,rfl,rfl⟩
  ·rcases c6 hb with⟨j,u,rfl,e⟩|⟨y,u,rfl,e⟩|⟨c,rfl,e⟩
   ·injection e with e1 _;rw[e1]
   ·exact nomatch e
   ·exact nomatch e
  ·rcases c6 hb with⟨j,u,rfl,e⟩|⟨y,u,rfl,e⟩|⟨c,rfl,e⟩
   ·exact nomatch e
   ·injection e with e1 _;rw[e1]
   ·exact nomatch e
  ·rcases c6 hb with⟨j,u,rfl,e⟩|⟨y,u,rfl,e⟩|⟨d,rfl,e⟩
   ·exact nomatch e
   ·exact nomatch e
   ·injection e with e1;rw[e1]
 byValue:=fun k v h=>by
  rcases c6 h with⟨i,t,rfl,rfl⟩|⟨x,t,rfl,rfl⟩|⟨c,rfl,rfl⟩ <;> rfl
 pyHash:=fun hv h=>by
  rcases c6 hv with⟨i,t,rfl,rfl⟩|⟨x,t,rfl,rfl⟩|⟨c,rfl,rfl⟩
  ·exact wpAny_pyHash_int h
  ·exact wpAny_pyHash_str h
  ·exact AX h
 eqBool:=fun hu hv h=>by
  rcases c6 hu with⟨i,t,rfl,rfl⟩|⟨x,t,rfl,rfl⟩|⟨c,rfl,rfl⟩
  ·rcases c6 hv with⟨j,u,rfl,rfl⟩|⟨y,u,rfl,rfl⟩|⟨d,rfl,rfl⟩
   ·rw[ik]at h;exact wpAny_eqBool_int h
   ·rw[k9]at h;exact SeqAt.EqAt.int_str i t y u _ _ _ _ h
   ·rw[ik]at h;refine SeqAt.EqAt.int_bool i t d _ _ _ _ ?_;cases d <;> exact h
  ·rcases c6 hv with⟨j,u,rfl,rfl⟩|⟨y,u,rfl,rfl⟩|⟨d,rfl,rfl⟩
   ·rw[kK]at h;exact SeqAt.EqAt.str_int x t j u _ _ _ _ h
   ·rw[tX]at h;exact wpAny_eqBool_str h
   ·rw[kK]at h;exact SeqAt.EqAt.str_bool x t d _ _ _ _ h
  ·rcases c6 hv with⟨j,u,rfl,rfl⟩|⟨y,u,rfl,rfl⟩|⟨d,rfl,rfl⟩
   ·rw[ik]at h;refine SeqAt.EqAt.bool_int c j u _ _ _ _ ?_;cases c <;> exact h
   ·rw[k9]at h;exact SeqAt.EqAt.bool_str c y u _ _ _ _ h
   ·rw[ik]at h;refine SeqAt.EqAt.bool_bool c d _ _ _ _ ?_;cases c <;> cases d <;> exact h
 «strs»:=fun k x t v h=>by
  rcases c6 h with⟨i,u,rfl,e⟩|⟨y,u,rfl,e⟩|⟨d,rfl,e⟩
  ·exact nomatch e
  ·injection e with e1 _;subst e1;cases v <;> rfl
  ·exact nomatch e
noncomputable def kB:V->Option L2.Key
 | .int i=>some (.inl i)
 | .str x=>some (.inr x)
 | .bl b=>some (.inl (b2i b))
 | _=>none
theorem xA{y:V}{k:L2.Key}(h:kB y=some k)(r:RelV y u):iy k u=true:=by
 unfold kB at h
 split at h
 ·cases h
  obtain⟨t,rfl⟩:=r;exact gQ _ t
 ·cases h
  obtain⟨t,rfl⟩:=r;exact iO _ t
 ·cases h
  cases r
  unfold iy;exact DB rfl
 ·cases h
noncomputable def cZ (ys:List V)(ks:List L2.Key):Prop:=ys.map kB=ks.map some
theorem tF:∀{ys:List V}{ks:List L2.Key}{us:List Value},cZ ys ks->Vals ys us->ItemsAre (dH P w) ks us
 | [],[],_,_,r=>by cases r;exact .nil
 | [],_::_,_,h,_=>by unfold cZ at h;simp at h
 | _::_,[],_,h,_=>by unfold cZ at h;simp at h
 | y::ys,k::ks,_,h,r=>by
  unfold cZ at h;simp only[Dk,List.cons.injEq]at h;cases r with
  | cons r1 r2=>exact .cons (xA h.1 r1) (tF h.2 r2)
noncomputable abbrev aY:=List L2.Key×Addr×V
noncomputable abbrev KTB:List aY->List (List L2.Key×Addr×Value)->Prop:=Paired fun p q=>p.1=q.1/\p.2.1=q.2.1/\RelV p.2.2 q.2.2
noncomputable def DTB (P:Program)(w:World)(a:Addr)(xs:List aY):HO:=.ext fun h=>∃ vs,KTB xs vs/\xs.length<=sizeLine/\(a==sysModules)=false ∧
 ∃ o es ep,h.get? a=some o/\o.ExactDict/\o.data=.dict es ep/\es.toList=vs.map (entryOfKey (tupleKind (dH P w)))/\(vs.map (·.1)).Nodup
theorem jR{xs:List aY}{vs:List (List L2.Key×Addr×Value)}(r:KTB xs vs)(z:xs.length<=sizeLine)(hd:(a==sysModules)=false)(h1:h.get? a=some o)(h2:o.ExactDict)(h3:o.data=.dict es ep)(h4:es.toList=vs.map (entryOfKey (tupleKind (dH P w))))(h5:(vs.map (·.1)).Nodup):aj P w H h a (DTB P w a xs):=
 ⟨⟨vs,r,z,hd,o,es,ep,h1,h2,h3,h4,h5⟩,⟨o,h1⟩,fun _ _ ⟨vs,r,z,hd,o,es,ep,h1,h2⟩ k=>⟨vs,r,z,hd,o,es,ep,k o h1,h2⟩⟩
noncomputable def eV (H:Hp)(xs:List aY):Prop:=∀ x∈xs,∃ ys,H x.2.1=some (.tup ys)/\cZ ys x.1
theorem jH{ys:List V}{ks:List L2.Key}(ok:HOk P w H h)(e:H a=some (.tup ys))(k:cZ ys ks):(tupleKind (dH P w)).is h ks a:=by
 obtain⟨_,its,r,o,h1,h2,n,h3⟩:=(show aj P w H h a (.tup ys) from ok a _ e)
 exact⟨o,its.toArray,n,h1,h2,h3,by simpa using tF k r⟩
theorem kW{xs:List aY}(ok:HOk P w H h)(e:H a=some (DTB P w a xs))(kk:eV H xs):xs.length<=sizeLine/\(a==sysModules)=false ∧
  ∃ vs,KTB xs vs/\h.DictOfH (tupleKind (dH P w)) a vs:=by
 obtain⟨⟨vs,r,z,y,o,es,ep,h1,h2,h3,h4,h5⟩,_⟩:=(show aj P w H h a (DTB P w a xs) from ok a _ e)
 refine⟨z,y,vs,r,o,es,ep,h1,h2,h3,h4,fun x hx=>?_,h5⟩
 have all:∀{l:List aY} {m:List (List L2.Key×Addr×Value)},KTB l m->eV H l->∀ x∈m,(tupleKind (dH P w)).is h x.1 x.2.1:=by
  intro l m q;induction q with
  | nil=>intro _ x hx;exact nomatch hx
  | @cons p q ps qs hq t ih=>
   intro kk x hx;rcases DG.mp hx with e|hx
   ·subst e;obtain⟨ys,e1,e2⟩:=kk p (Dm ..);rw[<-hq.1,<-hq.2.1];exact jH ok e1 e2
   ·exact ih (fun y hy=>kk y (Dr _ hy)) x hx
 exact all r kk x hx
noncomputable def atB (xs:List aY)(k:List L2.Key):Option V:=(xs.find? fun x=>decide (x.1=k)).map (·.2.2)
theorem KTB.at{xs:List aY}{vs:List (List L2.Key×Addr×Value)}(r:KTB xs vs)(k:List L2.Key):bK (atB xs k) ((atKey vs k).map (·.2)):=by
 unfold atB atKey;induction r with
 | nil=>exact True.intro
 | @cons p q ps qs h t ih=>
  obtain⟨h1,_,h2⟩:=h;rw[Ez,Ez,<-h1]
  by_cases e:p.1=k
  ·rw[DB e];exact h2
  ·rw[DT e];exact ih
noncomputable def dB (xs:List aY)(k:List L2.Key)(b:Addr)(v:V):List aY:=if (atB xs k).isSome=true then xs.map (fun x=>if x.1=k then(x.1,x.2.1,v) else x) else xs++[(k,b,v)]
theorem pJ{o:Option V}{u:Option Value}(r:bK o u):o.isSome=u.isSome:=by
 cases o <;> cases u <;> first|rfl|exact r.elim
theorem KTB.put{xs:List aY}{vs:List (List L2.Key×Addr×Value)}(r:KTB xs vs)(k:List L2.Key){y:V}(ry:RelV y u):KTB (dB xs k b y) (storedH vs k b u):=by
 have e:=pJ (r.at k);rw[Fh]at e;unfold dB storedH;rw[e]
 by_cases q:(atKey vs k).isSome=true
 ·rw[if_pos q,if_pos q];clear e q;induction r with
  | nil=>exact .nil
  | @cons p q ps qs h t ih=>
   rw[Dk,Dk];refine .cons ?_ ih;obtain⟨h1,h2,h3⟩:=h;unfold putAt
   by_cases e:p.1=k
   ·rw[if_pos e,if_pos (h1.symm.trans e)];exact⟨h1,h2,ry⟩
   ·rw[if_neg e,if_neg (fun z=>e (h1.trans z))];exact⟨h1,h2,h3⟩
 ·rw[if_neg q,if_neg q];exact Paired.snoc r ⟨rfl,rfl,ry⟩
theorem vo(xs:List aY)(k:List L2.Key)(b:Addr)(v:V):(dB xs k b v).length<=xs.length+1:=by
 unfold dB
 split
 ·rw[Dd];lia
 ·rw[Dl];exact Di _
section
variable {X:Cx}{a b c e o:Expr}{ta tb tc te:TE}{pos p apos cpos:Pos}
noncomputable def oE (X:Cx)(neg:Bool):R2:=fun y x H Q=>match y,x with
 | .ref b,.ref a=>∃ xs,H a=some (DTB X.prog X.w a xs)/\eV H xs/\∃ ys,H b=some (.tup ys)/\∃ k,cZ ys k/\Q (.bl (if neg then !(atB xs k).isSome else(atB xs k).isSome)) H
 | _,_=>False
theorem BH(hu:X.A.units+64<cLine):OpR X (compareOp .NotIn) (oE X true):=by
 intro pins s σ H y x v u Q I ry rx h;unfold oE at h
 split at h
 ·obtain⟨xs,hx,kk,ys,hy,k,hk,q⟩:=h;cases rx
  cases ry
  obtain⟨z,hd,vs,r,dd⟩:=kW I.hok hx kk;refine wpAny_notIn_heap (tupleKind_room_in1 (by lia)) (jH I.hok hy hk) hd dd ⟨.bl _,H,I.tok _,rfl,?_⟩
  have e:=pJ (r.at k);rw[Fh]at e;rw[<-e];exact q
 ·exact h.elim
noncomputable def vC (X:Cx):TE:=fun _ H Q=>∀ p H',H p=none->H' p=some (DTB X.prog X.w p [])->Ext H H'->Q (.ref p) H'
theorem xJ:PE X (.Dict [] [] pos) (vC X):=fun pins s σ H Q I h=>
 wpAny_Dict_empty ⟨.ref s.heap.objs.size,_,I.laid (a:=s.heap.objs.size) (o:=DTB X.prog X.w s.heap.objs.size []) (t':=s.toks) (fun _ _ q=>Dh _ q) (Di _)
  (jR (vs:=[]) .nil (DZ _) (beq_eq_false_iff_ne.mpr (Ne.symm (DO I.big))) (DE _ rfl) ⟨rfl,rfl,rfl⟩ rfl rfl EK),rfl,h _ _ (I.hok.fresh (Di _)) aW (cU (I.hok.fresh (Di _)))⟩
noncomputable def A5 (X:Cx)(td ty tv:TE):TS:=fun D σ H=>tv σ H fun v H1=>td σ H1 fun x H2=>match x with
 | .ref a=>ty σ H2 fun y H3=>match y with
  | .ref b=>∃ xs,H3 a=some (DTB X.prog X.w a xs)/\eV H3 xs/\aU (xs.length<sizeLine)/\∃ ys,H3 b=some (.tup ys)/\∃ k,cZ ys k/\cN H3 a (DTB X.prog X.w a (dB xs k b v)) (D.nx σ)
  | _=>False
 | _=>False
theorem oe{value:Expr}{tv:TE}(hu:X.A.units+64<cLine)(ho:PE X o ta)(hi:PE X e te)(hv:PE X value tv)(hs:swapsWith value (some (.Subscript o e pos')) pos.line X.env=pure false:=by rfl) :
  PS X (.Assign [.Subscript o e pos'] value pos) (A5 X ta te tv):=by
 intro pins s σ H D I h;refine wpAny_Assign_Subscript (thn (hv pins s σ H _ I h) fun r s1 ⟨v,H1,I1,rv,q1⟩=>thn (ho pins s1 σ H1 _ I1 q1) fun u s2 ⟨x,H2,I2,rx,q2⟩=>?_) hs
 dsimp only at q2
 split at q2
 ·rename_i a
  refine thn (hi pins s2 σ H2 _ I2 q2) fun iv s3 hZ=>?_
  obtain⟨y,H3,I3,ry,q3⟩:=hZ
  try dsimp only at q3
  split at q3
  ·rename_i b
   obtain⟨xs,hx,kk,hz,ys,hy,k,hk,q⟩:=q3;cases rx
   cases ry
   obtain⟨z,hd,vs,r',dd⟩:=kW I3.hok hx kk;have hz':vs.length<=sizeLine:=by rw[<-Paired.length r'];exact z
   have hl:(dB xs k b v).length<=sizeLine:=by have:=vo xs k b v;have:xs.length<sizeLine:=hz;lia
   refine wpAny_setItem_heap (hsz:=hz') (tupleKind_room_in1 (by lia)) (jH I3.hok hy hk) dd fun h' dd' hs=>⟨σ,_,?_,q.at⟩
   obtain⟨q',es,ep,hq,h2,h3,h4,_,h5⟩:=dd';exact jC I3 (by rw[hx];exact True.intro) hs ⟨q',hq⟩ (jR (r'.put k rv) hl hd hq h2 h3 h4 h5)
  ·exact q3.elim
 ·exact q2.elim
end
noncomputable def dQ (a:Addr)(i n ep:Nat):Obj:={ cls:=.type "dict_keyiterator",data:=.fields #[.ref a,.int i 0,.int n 0,.int ep 0] }
section
variable {prog:Program}{w:World}{A:Around}{E:Value->Shared->Prop}{s:Shared}{a it:Addr}{o:Obj}{es:Array DictEntry}{ep i:Nat}
theorem pz(hs:(a==sysModules)=false)(ho:s.heap.get? a=some o)(ex:o.ExactDict)(hd:o.data=.dict es ep)(h:Q (.ref s.heap.objs.size) { s with heap:=s.heap.push (dQ a 0 es.size ep) }):wpAny (model prog w) A (pyIter (.ref a)) Q E s:=by
 have ty:s.TypeIs (.ref a) "dict":=⟨o,ho,ex.1⟩
 refine wpAny_pyIter_slot ty F.slot_dict_iter (EB F.slot_dict_iter ty F.entry_dict_iter ?_ (F.args_dict_iter_1 _));unfold Builtin.«dict.__iter__» Builtin.Dict.dictSlotNone;refine De (De (wpAny_notOrdered_dict ty ?_));show wpAny _ _ (pure (Value.ref a)) _ _ s
 refine Df ?_;show wpAny _ _ (Builtin.Dict.showsAll a >>= _) _ _ s
 unfold Builtin.Dict.showsAll;rw[if_neg (by rw[hs];exact DQ)]
 refine De (Df (De (wpAny_dictEntries ho hd (De (wpAny_dictEpoch ho hd ?_)))));exact De (EN (Df ⟨_,rfl,"dict_keyiterator",_,⟨_,DE _ rfl,rfl⟩,F.slot_dict_keyiterator_next.lookup,h⟩))
theorem pM{Q:Option Value->Shared->Prop}{e:DictEntry}(ho:s.heap.get? a=some o)(hd:o.data=.dict es ep)(hit:s.heap.get? it=some (dQ a i es.size ep))(hx:es[i]? =some e)(h:∀ h',Heap.SameBut it s.heap h'->h'.get? it=some (dQ a (i+1) es.size ep)->Q (some e.key) { s with heap:=h' }):wpAny (model prog w) A (pyNext (.ref it)) Q E s:=by
 have ty:s.TypeIs (.ref it) "dict_keyiterator":=⟨_,hit,rfl⟩
 unfold pyNext;refine De (wpAny_attempt (wpAny_callSpecial?_slot (name:=Str.ofString "__next__") ty F.slot_dict_keyiterator_next (EB F.slot_dict_keyiterator_next ty F.entry_dict_keyiterator_next ?_ (F.args_dict_keyiterator_next_1 _))))
 refine De (Df (De (De ?_)))
 first|refine De (Fv ty (Df ?_))|refine De (wpAny_typeNameOf_keyiter ty (Df ?_))
 refine De (wpAny_fieldsOf hit rfl ?_);have hown:Builtin.Dict_items.ownsTuple "dict_keyiterator" = false:=by decide
 simp only[hown,Dx,if_false];show wpAny _ _ (if (Value.ref a==Value.none)=true then _ else _) _ _ s
 rw[if_neg (show ¬ ((Value.ref a==Value.none)=true) from DQ)]
 refine De (Df (De (wpAny_dictEntries ho hd ?_)));rw[if_neg (by simp)]
 refine De (Df (De (wpAny_dictEpoch ho hd ?_)));rw[if_neg (by simp)]
 refine Df ?_;simp only[show ¬ ((i:Int)<0) from by lia,if_false,Int.toNat_natCast,hx]
 refine De ?_
 first|refine De (Fv ty (Df ?_))|refine De (wpAny_typeNameOf_keyiter ty (Df ?_))
 refine De (wpAny_isOneOf_keyiter ty ?_);show wpAny _ _ (setField (.ref it) 1 (rawInt ((i:Int)+1)) >>= _) _ _ s
 refine De (Fd (vs:=#[.ref a,.int i 0,.int es.size 0,.int ep 0]) hit (by simp) fun h1 hg1 hs1=>?_)
 have g1:h1.get? it=some (dQ a (i+1) es.size ep):=by rw[hg1];simp [dQ,rawInt]
 refine De (Ew ?_);refine De (wpAny_isOneOf_keyiter (s:={ s with heap:=h1 }) ⟨_,g1,rfl⟩ ?_);exact Df (Df ⟨_,rfl,Df (h h1 hs1 g1)⟩)
theorem qk{Q:Option Value->Shared->Prop}(hh:A.handled=none)(ho:s.heap.get? a=some o)(hd:o.data=.dict es ep)(hit:s.heap.get? it=some (dQ a es.size es.size ep))(h:∀ h',Heap.ExtBut it s.heap h'->Q none { s with heap:=h' }):wpAny (model prog w) A (pyNext (.ref it)) Q E s:=by
 have ty:s.TypeIs (.ref it) "dict_keyiterator":=⟨_,hit,rfl⟩
 unfold pyNext;refine De (wpAny_attempt (wpAny_callSpecial?_slot (name:=Str.ofString "__next__") ty F.slot_dict_keyiterator_next (EB F.slot_dict_keyiterator_next ty F.entry_dict_keyiterator_next ?_ (F.args_dict_keyiterator_next_1 _))))
 refine De (Df (De (De ?_)))
 first|refine De (Fv ty (Df ?_))|refine De (wpAny_typeNameOf_keyiter ty (Df ?_))
 refine De (wpAny_fieldsOf hit rfl ?_);have hown:Builtin.Dict_items.ownsTuple "dict_keyiterator" = false:=by decide
 simp only[hown,Dx,if_false];show wpAny _ _ (if (Value.ref a==Value.none)=true then _ else _) _ _ s
 rw[if_neg (show ¬ ((Value.ref a==Value.none)=true) from DQ)]
 refine De (Df (De (wpAny_dictEntries ho hd ?_)));rw[if_neg (by simp)]
 refine De (Df (De (wpAny_dictEpoch ho hd ?_)));rw[if_neg (by simp)]
 refine Df ?_;simp only[show ¬ ((es.size:Int)<0) from by lia,if_false,Int.toNat_natCast,Array.getElem?_eq_none (Di es.size)]
 refine De ?_
 first|refine De (Fv ty (Df ?_))|refine De (wpAny_typeNameOf_keyiter ty (Df ?_))
 show wpAny _ _ (setField (.ref it) 0 .none >>= _) _ _ s
 refine De (Fd (vs:=#[.ref a,.int es.size 0,.int es.size 0,.int ep 0]) hit (by simp) fun h1 hg1 hs1=>?_)
 show wpAny _ _ (newExc (.type "StopIteration") [] >>= _) _ _ _
 refine De ?_;simp only[newExc,newTuple];refine De (EN ?_ (by size_fits))
 refine De (m:=firstArgMember _ _) (wpAny_of_eq (a:=Value.none) (by first|rfl|(simp only[firstArgMember];rfl)) ?_)
 refine EN ?_ (by size_fits)
 simp only[raiseNew];refine De (wpAny_handled ?_);rw[show A.in1.handled=none from hh]
 refine De (Df (wpAny_throw ?_));refine De (wpAny_isInstance (T:="StopIteration") (b:=true) ⟨_,DE _ rfl,rfl⟩ isSubtype_stop ?_)
 exact Df (h _ ((hs1.extBut.push _).push _))
end
noncomputable def mU (P:Program)(w:World)(o:Obj)(a:Addr)(xs:List aY):It:=
 ⟨fun i H=>H a=some (.frz o (DTB P w a xs))/\i<xs.length,fun i H x H'=>H'=H/\∃ e,xs[i]? =some e/\x=.ref e.2.1,fun i H=>H a=some (.frz o (DTB P w a xs))/\xs.length<=i⟩
theorem nJ{xs:List aY}{vs:List (List L2.Key×Addr×Value)}(r:KTB xs vs):∀{i:Nat}{e:aY},xs[i]? =some e->∃ u,vs[i]? =some (e.1,e.2.1,u)/\RelV e.2.2 u:=by
 induction r with
 | nil=>intro i e h;simp at h
 | @cons p q ps qs h t ih=>
  intro i e hi;cases i with
  | zero=>
   simp at hi;subst hi;obtain⟨h1,h2,h3⟩:=h;exact⟨q.2.2,by rw[h1,h2];rfl,h3⟩
  | succ i=>exact ih (by simpa using hi)
theorem pF{xs:List aY}(x:HOk P w H h)(e:H a=some (.frz o (DTB P w a xs)))(hd:o.data=.dict es ep) :
  h.get? a=some o/\(a==sysModules)=false/\o.ExactDict/\∃ vs,KTB xs vs/\es.toList=vs.map (entryOfKey (tupleKind (dH P w))):=by
 obtain⟨ho,⟨vs,r,z,hs,o',es',ep',ho',ex,hd',h4,_⟩,_⟩:=(show aj P w H h a (.frz o (DTB P w a xs)) from x a _ e)
 rw[ho]at ho';cases ho'
 rw[hd]at hd';cases hd'
 exact⟨ho,hs,ex,vs,r,h4⟩
theorem xg{K:PySem.W.Frag}(a it:Addr)(o:Obj)(xs:List aY)(hdat:o.data=.dict es ep) :
  Turn P w K tg (mU P w o a xs) [it] it (fun i h=>i<=xs.length/\h.get? it=some (dQ a i xs.length ep)) where
 mem:=by simp
 obj:=fun i h st b hb=>by
  have e:b=it:=by simpa using hb
  subst e;exact⟨_,st.2,fun v z=>by
   have z':Data.fields _=Data.cell v:=z;cases z'⟩
 keep:=fun i h h' st k=>⟨st.1,k it (by simp) _ st.2⟩
 item:=by
  intro X hP hw hK hc i pins s σ H E I hf st hg;subst hP hw hK;obtain⟨hfr,hi⟩:=hg;obtain⟨_,hit⟩:=st;obtain⟨ho,hs,ex,vs,r,h4⟩:=pF I.hok hfr hdat;obtain⟨f0,f1,f2,f3,f4,f5⟩:=hf it (by simp)
  have hlen:es.size=xs.length:=by
   have:=congrArg List.length h4
   rw[Dd,<-Paired.length r]at this;simpa using this
  obtain⟨e,he⟩:∃ e,xs[i]? =some e:=⟨_,Dv hi⟩;obtain⟨u,hu,_⟩:=nJ r he;have hx:es[i]? =some (entryOfKey (tupleKind (dH X.prog X.w)) (e.1,e.2.1,u)):=by
   rw[<-DK,h4,Dq,hu];rfl
  rw[<-hlen]at hit;refine pM ho hdat hit hx fun h' hsb hit'=>?_
  have I1:Inv X pins σ H { s with heap:=h' }:=I.turned (t':=s.toks) (fun b o hb e=>(hsb.2 b hb).trans e) f0 f1 f3 f4 f5
  refine⟨_,rfl,iB (s:={ s with heap:=h' }) hit' rfl rfl (by decide) ⟨.ref e.2.1,H,I1,rfl,⟨rfl,e,he,rfl⟩,⟨hi,by rw[<-hlen];exact hit'⟩,fun b hb=>(hf b hb).1⟩⟩
 done:=by
  intro X hP hw hK hc i pins s σ H E I hf st hg;subst hP hw hK;obtain⟨hfr,hi⟩:=hg;obtain⟨hle,hit⟩:=st;obtain⟨ho,hs,ex,vs,r,h4⟩:=pF I.hok hfr hdat;obtain⟨f0,f1,f2,f3,f4,f5⟩:=hf it (by simp)
  have hlen:es.size=xs.length:=by
   have:=congrArg List.length h4
   rw[Dd,<-Paired.length r]at this;simpa using this
  have ei:i=xs.length:=Nat.le_antisymm hle hi;subst ei;rw[<-hlen]at hit;exact qk (I.ok.hd hc) ho hdat hit fun h' eb=>⟨rfl,I.turned (t':=s.toks) (fun b o hb e=>eb b o hb e) f0 f1 f3 f4 f5⟩
 self:=fun A i s Q E st h=>by
  have hT:s.TypeIs (.ref it) "dict_keyiterator":=⟨_,st.2,rfl⟩
  refine wpAny_pyIter_slot hT PySem.F.slot_dict_keyiterator_iter (EB PySem.F.slot_dict_keyiterator_iter hT PySem.F.entry_dict_keyiterator_iter ?_ (PySem.F.args_dict_keyiterator_iter_1 _));show wpAny _ _ (ret (.ref it)) _ _ s
  exact Df ⟨_,rfl,"dict_keyiterator",_,hT,PySem.F.slot_dict_keyiterator_next.lookup,h⟩
section
variable {X:Cx}{pins:List (Addr×Obj)}{σ:L2.St}{H:Hp}{s:Shared}{a:Addr}
theorem Inv.zh{xs:List aY}(I:Inv X pins σ H s)(e:H a=some (DTB X.prog X.w a xs)):∃ o es ep,s.heap.get? a=some o/\(a==sysModules)=false/\o.ExactDict/\o.data=.dict es ep/\es.size=xs.length/\Inv X pins σ (upd H a (.frz o (DTB X.prog X.w a xs))) s:=by
 have ok:=(show aj X.prog X.w H s.heap a (DTB X.prog X.w a xs) from I.hok a _ e)
 obtain⟨⟨vs,r,z,hs,o,es,ep,ho,ex,hd,h4,h5⟩,_⟩:=id ok;refine⟨o,es,ep,ho,hs,ex,hd,?_,SB.Inv.jD I e (fun _ z=>nomatch z) (fun _ z=>nomatch z) (fun _ z=>nomatch z) (fun o' v q=>?_) ⟨ho,jR r z hs ho ex hd h4 h5⟩⟩
 ·have:=congrArg List.length h4
  rw[Dd,<-Paired.length r]at this;simpa using this
 ·have:=I.base.frzs a o' v q
  rw[e]at this;cases this
theorem Inv.Bk{xs:List aY}(I:Inv X pins σ H s)(e:H a=some (.frz o (DTB X.prog X.w a xs)))(h0:∀ o v,X.H₀ a≠some (.frz o v)):Inv X pins σ (upd H a (DTB X.prog X.w a xs)) s:=by
 obtain⟨_,⟨vs,r,z,hs,o,es,ep,ho,ex,hd,h4,h5⟩,_⟩:=(show aj X.prog X.w H s.heap a (.frz o (DTB X.prog X.w a xs)) from I.hok a _ e)
 exact SB.Inv.jD I e (fun _ z=>nomatch z) (fun _ z=>nomatch z) (fun _ z=>nomatch z) (fun o' v q=>absurd q (h0 o' v)) (jR r z hs ho ex hd h4 h5)
end
section
variable {X:Cx}{tg l e:Expr}{tl te:TE}
noncomputable def uIK (X:Cx)(tl:TE):TI:=fun σ H R=>tl σ H fun x H1=>match x with
 | .ref a=>∃ xs,H1 a=some (DTB X.prog X.w a xs)/\∀ o,cN H1 a (.frz o (DTB X.prog X.w a xs)) (R (mU X.prog X.w o a xs))
 | _=>False
theorem vA(hl:PE X l tl):PI X tg l (uIK X tl):=by
 intro pins s σ H R I h;refine thn (hl pins s σ H _ I h) fun v s1 hZ=>?_
 obtain⟨x,H1,I1,r1,q1⟩:=hZ
 try dsimp only at q1
 split at q1
 ·rename_i a
  obtain⟨xs,hx,q⟩:=q1;cases r1
  obtain⟨o,es,ep,ho,hs,ex,hd,hlen,I2⟩:=SB.Inv.zh I1 hx;refine pz hs ho ex hd ⟨s1.heap.objs.size,[s1.heap.objs.size],_,_,_,rfl,I2.kept (t':=s1.toks) fun b o e=>Dh _ e,xg a _ o xs hd,⟨DZ _,?_⟩,fun b hb=>?_,(q o).at⟩
  ·rw[<-hlen];exact DE _ rfl
  ·have e:=Dj.mp hb;subst e;exact I2.eT (Di _) (I2.hok.fresh (Di _))
 ·exact q1.elim
noncomputable def yI (X:Cx)(t:TE):TE:=fun σ H Q=>t σ H fun v H'=>∃ a o xs,H' a=some (.frz o (DTB X.prog X.w a xs))/\(∀ o v,X.H₀ a≠some (.frz o v))/\cN H' a (DTB X.prog X.w a xs) (Q v)
theorem rH(h:PE X e te):PE X e (yI X te):=by
 intro pins s σ H Q I hw;refine thn (h pins s σ H _ I hw) fun u s1 ⟨v,H',I',r,a,o,xs,e,n,q⟩=>⟨v,_,SB.Inv.Bk I' e n,r,q.at⟩
end
theorem xV(hh:A.handled=none)(hne:a≠it)(hd:o.data=.dict es ep) :
  Walks prog w A it [it,a] [it] es.size (fun i v=>∃ e,es[i]? =some e/\v=e.key) (fun i h=>h.get? a=some o/\h.get? it=some (dQ a i es.size ep)) where
 sub:=fun b hb=>by simp at hb;simp [hb]
 frame:=fun _ _ _ st hk=>⟨hk a (by simp) _ st.1,hk it (by simp) _ st.2⟩
 item:=fun i s Q E hi st hQ=>by
  have hx:es[i]? =some es[i]:=DY hi;refine pM st.1 hd st.2 hx fun h' hsb hit'=>?_
  exact hQ _ h' s.toks ⟨_,hx,rfl⟩ ⟨(hsb.2 a hne).trans st.1,hit'⟩ fun b o hb e=>(hsb.2 b (fun z=>hb (by simp [z]))).trans e
 done:=fun s Q E st hQ=>qk hh st.1 hd st.2 fun h' he=>hQ h' s.toks fun b o hb e=>he b o (fun z=>hb (by simp [z])) e
 self:=fun i s Q E st hQ=>by
  have hT:s.TypeIs (.ref it) "dict_keyiterator":=⟨_,st.2,rfl⟩
  refine wpAny_pyIter_slot hT PySem.F.slot_dict_keyiterator_iter (EB PySem.F.slot_dict_keyiterator_iter hT PySem.F.entry_dict_keyiterator_iter ?_ (PySem.F.args_dict_keyiterator_iter_1 _));show wpAny _ _ (ret (.ref it)) _ _ s
  exact Df ⟨_,rfl,"dict_keyiterator",_,hT,PySem.F.slot_dict_keyiterator_next.lookup,hQ⟩
theorem sL(hs:(a==sysModules)=false)(ex:o.ExactDict)(hd:o.data=.dict es ep) :
  PySem.W.KdlSrc prog w "dict" a a es.size (fun i v=>∃ e,es[i]? =some e/\v=e.key) (fun h=>h.get? a=some o) where
 type:=fun _ hm=>⟨o,hm,ex.1⟩
 there:=fun _ hm=>⟨Dz hm,Dz hm⟩
 keep:=fun _ _ hm hk=>hk a (.inl rfl) _ hm
 notList:=by decide
 notTuple:=by decide
 hint:=fun _ _ _ _ hm hq=>PySem.W.kdl_hint_dict ⟨o,hm,ex.1⟩ hq
 iter:=fun A s hh hm=>⟨dQ a 0 es.size ep,_,fun E Q q=>pz hs hm ex hd q,xV hh (DO (Dz hm)) hd,Dh _ hm,DE _ rfl⟩
theorem sZ:∀{xs:List aY}{bs:List Value},bs.length=xs.length->(∀(i:Nat)(e:aY),xs[i]? =some e->bs[i]? =some (Value.ref e.2.1))->Vals (xs.map fun e=>V.ref e.2.1) bs
 | [],[],_,_=>.nil
 | [],_::_,h,_=>by simp at h
 | _::_,[],h,_=>by simp at h
 | e::r,b::bs,h,each=>by
  have e0:b=Value.ref e.2.1:=by simpa using each 0 e rfl
  subst e0;rw[Dk];exact .cons rfl (sZ (by simpa using h) fun i e' he=>by simpa using each (i+1) e' (by simpa using he))
section
variable {X:Cx}
noncomputable def oT (X:Cx):List V->Hp->VK->Prop:=fun xs H Q=>match xs with
 | [.ref a]=>∃ es,H a=some (DTB X.prog X.w a es)/\New H (.lst (es.map fun e=>V.ref e.2.1)) Q
 | _=>False
theorem Ag(hc:X.calm=true):aD X (.type "list") (oT X):=by
 intro pins s σ H xs us Q I r h;unfold oT at h
 split at h
 ·rename_i a
  obtain⟨xs,hx,q⟩:=h;obtain⟨u,rfl,rx⟩:=vals1 r;cases rx
  obtain⟨⟨vs,rel,z,hs,o,es,ep,ho,ex,hd,h4,h5⟩,_⟩:=(show aj X.prog X.w H s.heap a (DTB X.prog X.w a xs) from I.hok a _ hx)
  have hlen:es.size=xs.length:=by
   have:=congrArg List.length h4
   rw[Dd,<-Paired.length rel]at this;simpa using this
  refine PySem.W.kdl_call (sL hs ex hd) (I.ok.hd hc) ho (by lia) fun h' tk acc c' kp hS hacc=>?_
  refine⟨.ref s.heap.objs.size,_,I.laid (t':=tk) kp (Di _) (show aj X.prog X.w _ h' _ (.lst (xs.map fun e=>V.ref e.2.1)) from⟨by rw[Dd];lia,acc.toList,c',?_,by rw[Array.toArray_toList];exact hS⟩),rfl,q.at (I.hok.fresh (Di _))⟩
  have each:∀(i:Nat) (e:aY),xs[i]? =some e->acc.toList[i]? =some (Value.ref e.2.1):=fun i e he=>by
   obtain⟨u,hu,_⟩:=nJ rel he;have hi:i<acc.size:=by rw[hacc.1,hlen];exact(DI.mp he).1
   obtain⟨e',he',hv⟩:=hacc.2 i acc[i] (DY hi);have hx2:es[i]? =some (entryOfKey (tupleKind (dH X.prog X.w)) (e.1,e.2.1,u)):=by
    rw[<-DK,h4,Dq,hu];rfl
   rw[hx2]at he';cases he'
   rw[DK,DY hi,hv];rfl
  have hl2:acc.toList.length=xs.length:=by rw[DJ,hacc.1,hlen]
  exact sZ hl2 each
 ·exact h.elim
end
section
variable {X:Cx}{a b c:Expr}{ta tb tc:TE}{rest:List Expr}{pos:Pos}
structure zj (c:TT)(tb:TS)(D:Ends)(σ:L2.St)(H:Hp):Prop where
 run:∃ W:Nat->L2.St->Hp->Prop,(∃ m,W m σ H)/\∀ m σ H,W m σ H →
  c σ H fun b H1=>if b=true then ∃ N:L2.St->Hp->Prop,(∀ σ' H',N σ' H'->∃ m',m'<m/\W m' σ' H')/\tb { D with nx:=N,ct:=N,bk:=D.nx } σ H1 else D.nx σ H1
theorem gA{tt:TT}{tbs:TS}(hp:PassesOwn (model X.prog X.w) X.A X.env X.xe)(hc:PT X c tt)(hb:PSs X body tbs):PS X (.While c body [] pos) (zj tt tbs):=
 PS.weak (BO hp hc hb) fun D σ H h=>h.run
end
structure Enc (α:Type) where
 enc:α->List V
 flat:∀ a,(enc a).all bI=true
 alike:∀ a b,bB ((enc a).map Dt.sc) ((enc b).map Dt.sc)
 inj:∀ a b,enc a=enc b->a=b
variable {α:Type}
noncomputable def Enc.d (E:Enc α)(a:α):Dt:=.tup ((E.enc a).map Dt.sc)
noncomputable def Enc.ds (E:Enc α)(l:List α):Dt:=.lst (l.map E.d)
theorem Enc.Ct(E:Enc α){a b:α}(h:E.d a=E.d b):a=b:=E.inj a b (lP (iE.mp h))
noncomputable def rfs (ps:List (α×Addr)):List V:=ps.map fun p=>V.ref p.2
noncomputable def Enc.At (E:Enc α)(H:Hp)(ps:List (α×Addr)):Prop:=∀ p∈ps,H p.2=some (.tup (E.enc p.1))
theorem Enc.At.ext{E:Enc α}{ps:List (α×Addr)}(t:E.At H ps)(e:Ext H H'):E.At H' ps:=fun p hp=>e.up (t p hp)
theorem Enc.is(E:Enc α){K:PySem.W.Frag}{x:Addr}{a:α}(h:H x=some (.tup (E.enc a))):Is K H (E.d a) (.ref x):=by
 unfold Enc.d Is;exact⟨x,_,rfl,RdT.sq (.inl h),ni (E.flat a)⟩
theorem Enc.vH(E:Enc α)(a:α):dep (E.d a)=1:=by unfold Enc.d dep;rw[k7]
theorem Enc.aZ(E:Enc α):∀ a:List α,SB.aZ (a.map E.d)<=1
 | []=>by rw[EH];unfold SB.aZ;lia
 | x::r=>by
  rw[Dk];unfold SB.aZ;rw[E.vH]
  have:=E.aZ r
  lia
theorem Enc.any(E:Enc α) [DecidableEq α] (m:α):∀ l:List α,(l.map E.d).any (fun e=>eqD e (E.d m))=decide (m∈l)
 | []=>rfl
 | x::r=>by
  rw[Dk,Fn,E.any m r];apply Ej.mpr;rw[Bool.or_eq_true,eQ,decide_eq_true_eq,decide_eq_true_eq,DG];exact⟨fun h=>h.elim (fun z=>.inl (E.Ct z).symm) .inr,fun h=>h.elim (fun z=>.inl (by rw[z])) .inr⟩
section
variable {X:Cx}{a b:Expr}{ta tb:TE}{rest:List Expr}{pos:Pos}
end
end SB
end
section
set_option maxHeartbeats 4000000
namespace K
open PySem PySem.Spec PyProof.Rows L2 SB
noncomputable abbrev ff:Stmt:=top 28
structure dE (H:Hp)(q s m g f:Addr)(n:Int)(st:List Int)(ms:List (Mv×Addr))(sg:List (Str×Str))(fl:List Str):Prop where
 q:H q=some (.lst [.int n,.ref s,.ref m,.ref g,.ref f])
 s:H s=some (.lst (st.map V.int))
 m:H m=some (.lst (refs ms))
 t:eP H ms
 g:H g=some (.dK (sgV sg))
 f:H f=some (.lst (fl.map V.str))
theorem dE.ext{q s m g:Addr}{n:Int}{st:List Int}{ms:List (Mv×Addr)}{sg:List (Str×Str)}(a:dE H q s m g f n st ms sg fl)(e:Ext H H'):dE H' q s m g f n st ms sg fl:=
 ⟨e.up a.q,e.up a.s,e.up a.m,fun y hy=>e.up (a.t y hy),e.up a.g,e.up a.f⟩
theorem mW{α:Type}(g:α->V)(xs:List α)(lo hi:Option Int):dq (xs.map g) lo hi=((xs.drop (HT.sIx xs.length 0 lo)).take (HT.sIx xs.length xs.length hi-HT.sIx xs.length 0 lo)).map g:=by
 unfold dq;rw[Dd,List.map_take,List.map_drop]
theorem gK{α:Type}(g:α->V)(xs:List α)(lo hi:Option Int):∃ cs:List α,dq (xs.map g) lo hi=cs.map g/\(∀ c∈cs,c∈xs)/\cs.length<=xs.length:=by
 rw[mW];refine⟨_,rfl,fun c hc=>List.mem_of_mem_drop (List.mem_of_mem_take hc),?_⟩
 rw[Et,Fo];lia
theorem ko{α:Type}{xs:List α}{i:Int}(h0:0<=i)(h1:i<xs.length):∃ v,atI xs i=some v/\v∈xs:=by
 obtain⟨j,rfl⟩:∃ j:Nat,i=j:=⟨i.toNat,by lia⟩
 have hj:j<xs.length:=by lia
 exact⟨xs[j],gO (Dv hj),List.getElem_mem hj⟩
noncomputable def gi (sg:List (Str×Str))(k v:Str):List (Str×Str):=if (sg.any fun p=>decide (p.1=k))=true then sg.map (fun p=>if p.1=k then(p.1,v) else p) else sg++[(k,v)]
theorem vh(sg:List (Str×Str))(k v:Str):putK (sgV sg) (Sum.inr k) (V.str v)=sgV (gi sg k v):=by
 unfold putK gi sgV;have e:((sg.map fun p=>((Sum.inr p.1:L2.Key),V.str p.2)).any fun kv=>decide (kv.1=Sum.inr k))=(sg.any fun p=>decide (p.1=k)):=by
  rw[List.any_map];congr 1;funext p;apply Ej.mpr
  simp
 rw[e]
 split
 ·rw[Du,Du];refine Fi fun p hp=>?_
  simp only[Function.comp]
  by_cases q:p.1=k
  ·simp [q]
  ·simp [q]
 ·rw[Dn];rfl
theorem Bq(sg:List (Str×Str))(k v:Str):(gi sg k v).length<=sg.length+1:=by
 unfold gi
 split
 ·rw[Dd];lia
 ·simp
theorem vD{sg:List (Str×Str)}{k v:Str}(h:∀ p∈sg,isW p.1=true/\isW p.2=true)(hk:isW k=true)(hv:isW v=true):∀ p∈gi sg k v,isW p.1=true/\isW p.2=true:=by
 unfold gi
 split
 ·intro p hp;obtain⟨q,hq,rfl⟩:=Dg.mp hp
  split
  ·exact⟨(h q hq).1,hv⟩
  ·exact h q hq
 ·intro p hp;rcases Dp.mp hp with hp|hp
  ·exact h p hp
  ·rw[Dj]at hp;subst hp;exact⟨hk,hv⟩
theorem nxi{v:V}{Q:L2.St->Hp->Prop}(h:Q (σ.set i (some v)) H):bR i v σ H Q:=h
theorem BZ{f b c:L2.St->Hp->Prop}{r:VK}(h:f σ H):(Ends.mk f r b c).nx σ H:=h
theorem yi{a b:TS}(R:L2.St->Hp->Prop)(h1:∀ σ J,R σ J->b D σ J)(h2:∀ N:L2.St->Hp->Prop,(∀ σ J,R σ J->N σ J)->a { D with nx:=N } σ H):qx a b D σ H:=h2 (b D) h1
theorem ie:OpR X (binaryOp .LShift) (uI ke fun i j=>.int (i*2^j.toNat)):=OpR.weak BA jE
theorem hE{e:Int}(h0:0<=e)(h:e<=10):0<(1:Int)*2^e.toNat/\(1:Int)*2^e.toNat<1073741824:=by
 have:∀ m:Fin 11,0<(1:Int)*2^m.val/\(1:Int)*2^m.val<1073741824:=by decide
 exact this ⟨e.toNat,by lia⟩
theorem gZ{e:Int}(h0:0<=e)(h:e<=10):ke 1 e:=⟨h0,by lia,by decide⟩
theorem eK{α:Type}{c:α->Bool}{g:α->Int}:∀ l:List α,(l.filterMap fun j=>if c j=true then some (V.int (g j)) else none)=((l.filter c).map g).map V.int
 | []=>rfl
 | a::r=>by
  cases e:c a with
  | true=>rw[List.filterMap_cons_some (b:=V.int (g a)) (by rw[e];rfl),List.filter_cons_of_pos e,eK r];rfl
  | false=>rw[List.filterMap_cons_none (by rw[e];rfl),List.filter_cons_of_neg (by rw[e];decide),eK r]
theorem kT{α:Type}{c:α->Bool}{g:α->Str}:∀ l:List α,(l.filterMap fun j=>if c j=true then some (V.str (g j)) else none)=((l.filter c).map g).map V.str
 | []=>rfl
 | a::r=>by
  cases e:c a with
  | true=>rw[List.filterMap_cons_some (b:=V.str (g a)) (by rw[e];rfl),List.filter_cons_of_pos e,kT r];rfl
  | false=>rw[List.filterMap_cons_none (by rw[e];rfl),List.filter_cons_of_neg (by rw[e];decide),kT r]
section
variable {P:Program}{w:World}{K:PySem.W.Frag}{mg:Str->Option Value}{base:Heap}
noncomputable def nG:Sp:=fun vs H Q _=>∃(a:Addr)(most:Nat)(ns:List Int),vs=[.ref a,.int most]/\RdL H a (ns.map V.int)/\ns.length<=63/\most<=24 ∧
 ∀(p:Addr) (H':Hp) (n:Int) (s m g f:Addr) (st:List Int) (ps:List (Mv×Addr)) (sg:List (Str×Str)) (fl:List Str),dE H' p s m g f n st ps sg fl->lD n st ps sg fl->ps.length<=most->st.length<=9->fl.length<=5->sg.length<=5->Ext H H'->Q (.ref p) H'
noncomputable abbrev nMc:List Str:=["_law_script","_law_most","_law_cell_here","_law_size","_law_deeds","_law_signs","_law_starts","_law_shown","_law_k","_law_faults","_law_moves","_law_steps","_law_step"]
theorem Ai:ba nMc ["_law_script","_law_most"] (aq ff):=⟨rfl,rfl,rfl,by decide +kernel,rfl,by decide +kernel,by decide +kernel⟩
theorem wy(F:Fun K "_law_machine" "_law_machine" ff f fd) (T:fQ K mg) (TN:mY mg) (D1:Known P w K mg base 1 "_law_cell" ["_law_script","_law_k"] jl) (D2:Known P w K mg base 1 "_law_words" ["_law_cell_here","_law_many"] nO):ar P w K mg base CX0 2 f fd ["_law_script","_law_most"] nG:=by
 refine F.ok Ai (fun vs H Q E h=>?_) (fun cdv A outer s H vs Q E hr1 h=>?_)
 ·obtain⟨a,most,ns,rfl,_⟩:=h;rfl
 ·obtain⟨a,most,ns,rfl,ha,h63,hm,k⟩:=h;have hu:=hr1.units;refine⟨_,(ae (av nMc 2 (aH D1 hr1 (aa (q_v 0) (aa af ab))))
   (ae (av nMc 3 (bD cz (bf (aa (ag bW af (ag bE (q_v 2) af)) (aa af ab))) (q_t lU TN.int (aa (gh du (ag bE (ag cn (q_v 2) af) af) af) ab)) (fun _ _=>rfl)))
   (ae (av nMc 4 (aH D2 hr1 (aa (aH D1 hr1 (aa (q_v 0) (aa af ab))) (aa (ag bW af (ag bE (ag cn (q_v 2) af) af)) ab))))
   (ae (av nMc 5 (aH D2 hr1 (aa (aH D1 hr1 (aa (q_v 0) (aa af ab))) (aa (ag bW af (ag bE (ag cn (q_v 2) af) af)) ab))))
   (ae (iX nMc 6 (aq ff) ["_law_room","_law_script"] [none,some 0] rfl (eG (q_v 3) T.range) (fun _ _ _ _=>q_g ["_law_room","_law_script"] 0) (fun _ _ _ _=>aR du (ag bE (ag cn (aH D1 hr1 (aa (q_v 1) (aa af ab))) (ag ie af (q_v 0))) af) af) (fun _ _ _ _=>q_v 0))
   (ae (av nMc 7 mG)
   (ae (bC PassesOwn.never rfl (eG (q_b ef T.len (aa (q_v 4) ab)) T.range) (q_g nMc 8) (ah (cc (aR nM (ag bE (ag cn (aH D1 hr1 (aa (q_v 0) (aa af ab))) (ag ie af (ag fX af (q_v 8)))) af) af) (ah (mS hu (q_v 7) (bD cz (q_v 4) (q_v 8) (fun _ _=>rfl)) (bD cz (q_v 5) (ag bE (ag bE (ag cn (aH D1 hr1 (aa (q_v 0) (aa af ab))) (ag ie af (ag fX af (q_v 8)))) af) (q_b ef T.len (aa (q_v 5) ab))) (fun _ _=>rfl)))) bY)))
   (ae (iX nMc 9 (aq ff) ["_law_k","_law_deeds","_law_script"] [none,some 4,some 0] rfl (eG (q_b ef T.len (aa (q_v 4) ab)) T.range) (fun _ _ _ _=>q_g ["_law_k","_law_deeds","_law_script"] 0) (fun _ _ _ _=>aR du (ag bE (ag cn (aH D1 hr1 (aa (q_v 2) (aa af ab))) (ag ie af (q_v 0))) af) af) (fun _ _ _ _=>(bD cz (q_v 1) (q_v 0) (fun _ _=>rfl))))
   (ae (av nMc 10 (bf ab))
   (ae (av nMc 11 (fz gj (q_v 0) (eF af) (eF (ag bW af (q_v 1)))))
   (ae (cc (aR du (ag bE (ag cn (q_v 2) af) af) af) (ah (av nMc 11 (fz gj (ag bW (q_v 11) (g8 nMc (aq ff) ["_law_k","_law_cell_here"] [none,some 2] rfl (eG (q_v 1) T.range) (fun _ _ _ _=>q_g ["_law_k","_law_cell_here"] 0) (fun _ _ _ _=>(ag bW (ag fX (ag cn (q_v 1) af) (ag bW (q_v 0) af)) (ag fX af (q_v 0)))))) gX (eF (q_v 1))))) bY)
   (ae (bC PassesOwn.never rfl (bu (q_v 11)) (q_g nMc 12) (ah (bw (cT (q_v 10) (dj (aa (ag bE (q_v 12) (q_v 3)) (aa (bD cz (q_v 4) (ag bE (ag cn (q_v 12) af) (q_b ef T.len (aa (q_v 4) ab))) (fun _ _=>rfl)) (aa (ag bE (ag cn (q_v 12) af) (q_v 3)) ab))))))))
   (ah (bz (bf (aa (q_v 3) (aa (ag bW (q_v 6) (fz gj (bf (aa af ab)) gX (eF (q_t lU TN.int (aa (qd (gh (Be hu) (q_v 6) (bf ab)) (oJ (gh nM (ag bE (aH D1 hr1 (aa (q_v 0) (aa af ab))) af) af))) ab))))) (aa (q_v 10) (aa (q_v 7) (aa (q_v 9) ab)))))))))))))))))))),?_⟩
  have z1:∀{n:Nat},n<=1000->n<=sizeLine:=fun h=>by rw[DV];lia
  have z0:∀{n:Nat},n<=1000->n<sizeLine:=fun h=>by rw[DV];lia
  refine⟨a,ns,0,rfl,ha,by decide,?_⟩
  refine⟨by show(0:Int)<5;decide,z1 (by show 2<=1000;decide),fun l1 H1 hl1 h1 e1=>⟨⟨by decide,by decide⟩,by show(0:Int)<8;decide,rfl,_,.inl h1,?_⟩⟩
  have hb:=sQ (decide (V.int (ai ns 0 / 5%8)=V.int 7));obtain⟨v,hv,hvm⟩:=ko (xs:=[V.int (1+ai ns 0%5),.int 8]) (i:=b2n (decide (V.int (ai ns 0 / 5%8)=V.int 7))) hb.1 (by show _<(2:Int);lia)
  obtain⟨n,rfl,hn⟩:∃ n:Int,v=.int n/\1<=n/\n<=8:=by
   have h5:0<=ai ns 0%5/\ai ns 0%5<5:=⟨E7 _ (by decide),EL _ (by decide)⟩
   simp only[DG,List.not_mem_nil,or_false]at hvm;rcases hvm with rfl|rfl
   ·exact⟨_,rfl,by lia,by lia⟩
   ·exact⟨_,rfl,by decide,by decide⟩
  refine⟨_,hv,?_⟩;have q5:0<=ai ns 0 / 40%5/\ai ns 0 / 40%5<5:=⟨E7 _ (by decide),EL _ (by decide)⟩
  obtain⟨kd,hkd⟩:∃ k:Nat,1+ai ns 0 / 40%5=(k:Int):=⟨(1+ai ns 0 / 40%5).toNat,by lia⟩
  refine⟨a,ns,1,rfl,(e1.rd ha),by decide,⟨by decide,by decide⟩,by show(0:Int)<5;decide,ai ns 1,kd,(by show [V.int _,V.int (1+ai ns 0 / 40%5)]=_;rw[hkd]),by lia,fun ds gd p2 H2 hp2 h2 e2=>?_⟩
  have q3:0<=ai ns 0 / 200%3/\ai ns 0 / 200%3<3:=⟨E7 _ (by decide),EL _ (by decide)⟩
  obtain⟨ks,hks⟩:∃ k:Nat,1+ai ns 0 / 200%3=(k:Int):=⟨(1+ai ns 0 / 200%3).toNat,by lia⟩
  refine⟨a,ns,2,rfl,(e2.rd (e1.rd ha)),by decide,⟨by decide,by decide⟩,by show(0:Int)<3;decide,ai ns 2,ks,(by show [V.int _,V.int (1+ai ns 0 / 200%3)]=_;rw[hks]),by lia,fun zs gz p3 H3 hp3 h3 e3=>?_⟩
  have x3:Ext H H3:=e1.trans (e2.trans e3);have d3:H3 p2=some (.lst (ds.map V.str)):=e3.up h2;obtain⟨ld,wd⟩:=gd;obtain⟨lz,wz⟩:=gz;have kd5:1<=kd/\kd<=5:=by lia
  have ks3:1<=ks/\ks<=3:=by lia
  refine⟨⟨by lia,by lia⟩,?_⟩
  refine dX (zs:=List.range n.toNat) (fun j=>if decide (V.int (ai ns 3 / (1*2^(0+(j:Int)).toNat)%2)=V.int 1)=true then some (.int (0+(j:Int))) else none) (jU 0 _) (z0 (by rw[Ef];lia)) ?_ ?_
  ·intro i j H6 Kk hj ex kk;have hj8:j<n.toNat:=Eh.mp (Dw hj);refine⟨cE rfl,a,ns,3,rfl,(ex.rd (x3.rd ha)),by decide,gZ (by lia) (by lia),hE (by lia) (by lia),by show(0:Int)<2;decide,rfl,?_⟩
   have:=kk H6 Ext.refl
   refine aV (fun h=>?_) (fun h=>?_)
   ·have h':decide (V.int (ai ns 3 / (1*2^(0+(j:Int)).toNat)%2)=V.int 1)=true:=h;rw[if_pos h']at this;exact this
   ·have h':¬ decide (V.int (ai ns 3 / (1*2^(0+(j:Int)).toNat)%2)=V.int 1)=true:=h;rw[if_neg h']at this;exact this
  intro s4 H4 hs4 h4 e4;rw[eK (α:=Nat) (c:=fun j=>decide (V.int (ai ns 3 / (1*2^(0+(j:Int)).toNat)%2)=V.int 1)) (g:=fun j=>0+(j:Int))]at h4
  obtain⟨st,est,hst,lst⟩:∃ st:List Int,((List.range n.toNat).filter fun(j:Nat)=>decide (V.int (ai ns 3 / (1*2^(0+(j:Int)).toNat)%2)=V.int 1)).map (fun(j:Nat)=>0+(j:Int))=st/\(∀ r∈st,0<=r/\r<n)/\st.length<=8:=by
   refine⟨_,rfl,fun r hr=>?_,?_⟩
   ·obtain⟨j,hj,rfl⟩:=Dg.mp hr
    have:=Eh.mp (Eb.mp hj).1
    lia
   ·rw[Dd];refine Ea (ET _ _) ?_;rw[Ef];lia
  rw[est]at h4;have x4:Ext H H4:=x3.trans e4;have d4:=e4.up d3;have z4:=e4.up h3;intro g H5 hg h5 e5;show bR 7 (.ref g) [some (.ref a),some (.int most),some (.int (ai ns 0)),some (.int n),some (.ref p2),some (.ref p3),some (.ref s4),none,none,none,none,none,none] H5 _
  refine⟨_,.inl (e5.up d4),⟨by rw[Dd];lia,by rw[Dd];lia⟩,nq (fun i σ J=>∃(sg:List (Str×Str)) (v8:Option V),σ=[some (.ref a),some (.int most),some (.int (ai ns 0)),some (.int n),some (.ref p2),some (.ref p3),some (.ref s4),some (.ref g),v8,none,none,none,none]/\J g=some (.dK (sgV sg))/\(∀ p∈sg,isW p.1=true/\isW p.2=true)/\sg.length<=i/\Ext H4 J)
   ⟨[],none,rfl,h5,(fun p hp=>nomatch hp),Di _,e5⟩ ?_ ?_⟩
  ·rintro i σ J hi ⟨sg,v8,rfl,jg,wg,lg,xj⟩;have hi:i<ds.length:=by
    have:i<((ds.map V.str).length:Int).toNat:=hi
    rw[Dd]at this;lia
   have rd:RdL J a (ns.map V.int):=(xj.rd (x4.rd ha));refine⟨a,ns,4,rfl,rd,by decide,.inl ⟨by decide,by decide⟩,gZ (by lia) (by lia),hE (by lia) (by lia),by show(0:Int)<4;decide,aV (fun _=>?_) (fun _=>?_)⟩
   ·obtain⟨y,hy,hym⟩:=ko (xs:=zs.map V.str) (i:=ai ns 4 / (1*2^(2*(0+(i:Int))).toNat)%4%((zs.map V.str).length:Int)) (E7 _ (by rw[Dd];lia)) (EL _ (by rw[Dd];lia))
    obtain⟨y,hz,rfl⟩:=Dg.mp hym;refine⟨a,ns,4,rfl,rd,by decide,.inl ⟨by decide,by decide⟩,gZ (by lia) (by lia),hE (by lia) (by lia),by show(0:Int)<4;decide,_,.inl (xj.up z4),by show(0:Int)<((zs.map V.str).length:Int);rw[Dd];lia,_,.inl (xj.up z4),_,hy,?_⟩
    have hx:(ds.map V.str)[i]? =some (.str (ds[i])):=by rw[Dq,Dv hi];rfl
    refine⟨_,.inl (xj.up d4),.str (ds[i]),by rw[show(0+(i:Int))=(i:Int) by lia];exact gO hx,_,jg,?_,_,rfl,fun J' j' b'=>?_⟩
    ·show(sgV sg).length<sizeLine
     unfold sgV;rw[Dd];exact z0 (by lia)
    rw[vh]at j';refine⟨_,_,rfl,j',vD wg (wd _ (List.getElem_mem hi)) (wz _ hz),by have:=Bq sg ds[i] y;lia,fun x u hu=>b'.up (aB hu hg) (xj.up hu)⟩
   ·exact⟨sg,_,rfl,jg,wg,by lia,xj⟩
  rintro σ J ⟨sg,v8,rfl,jg,wg,lg,xj⟩;have lg:sg.length<=5:=by
   have:sg.length<=((ds.map V.str).length:Int).toNat:=lg
   rw[Dd]at this;lia
  have xH:Ext H J:=x4.trans xj;have dJ:=xj.up d4;have sJ:=xj.up h4;refine⟨_,.inl dJ,⟨by rw[Dd];lia,by rw[Dd];lia⟩,?_⟩
  refine dX (zs:=List.range ((ds.map V.str).length:Int).toNat) (fun j=>if decide (V.int (ai ns 5 / (1*2^(0+(j:Int)).toNat)%3)=V.int 0)=true then some (.str (ds.getD j "")) else none) (jU 0 _) (z0 (by rw[Ef,Dd];lia)) ?_ ?_
  ·intro i j H6 Kk hj ex kk;have hj5:j<ds.length:=by
    have:=Eh.mp (Dw hj)
    rw[Dd]at this;lia
   refine⟨cE rfl,a,ns,5,rfl,(ex.rd (xH.rd ha)),by decide,gZ (by lia) (by lia),hE (by lia) (by lia),by show(0:Int)<3;decide,rfl,?_⟩
   have:=kk H6 Ext.refl
   refine aV (fun h=>?_) (fun h=>?_)
   ·have h':decide (V.int (ai ns 5 / (1*2^(0+(j:Int)).toNat)%3)=V.int 0)=true:=h;rw[if_pos h']at this;refine⟨_,.inl (ex.up dJ),_,?_,this⟩;rw[show(0+(j:Int))=(j:Int) by lia]
    refine gO ?_;rw[Dq,Dv hj5,EJ,Dv hj5];rfl
   ·have h':¬ decide (V.int (ai ns 5 / (1*2^(0+(j:Int)).toNat)%3)=V.int 0)=true:=h;rw[if_neg h']at this;exact this
  intro f6 H6 hf6 h6 e6;rw[kT (α:=Nat) (c:=fun j=>decide (V.int (ai ns 5 / (1*2^(0+(j:Int)).toNat)%3)=V.int 0)) (g:=fun j=>ds.getD j "")]at h6
  obtain⟨fl,efl,hfl,lfl⟩:∃ fl:List Str,((List.range ((ds.map V.str).length:Int).toNat).filter fun(j:Nat)=>decide (V.int (ai ns 5 / (1*2^(0+(j:Int)).toNat)%3)=V.int 0)).map (fun j=>ds.getD j "")=fl/\(∀ z∈fl,isW z=true)/\fl.length<=5:=by
   refine⟨_,rfl,fun z hz=>?_,?_⟩
   ·obtain⟨j,hj,rfl⟩:=Dg.mp hz
    have:=Eh.mp (Eb.mp hj).1
    rw[Dd]at this;have hj5:j<ds.length:=by lia
    rw[EJ,Dv hj5];exact wd _ (List.getElem_mem hj5)
   ·rw[Dd];refine Ea (ET _ _) ?_;rw[Ef,Dd];lia
  rw[efl]at h6;refine⟨z1 (by show 0<=1000;decide),fun m7 H7 hm7 h7 e7=>?_⟩
  show bR 10 (.ref m7) [some (.ref a),some (.int most),some (.int (ai ns 0)),some (.int n),some (.ref p2),some (.ref p3),some (.ref s4),some (.ref g),v8,some (.ref f6),none,none,none] H7 _
  have x7:Ext J H7:=e6.trans e7;refine⟨_,(x7.rd (xH.rd ha)),fun l8 H8 hl8 h8 e8=>?_⟩
  show bR 11 (.ref l8) [some (.ref a),some (.int most),some (.int (ai ns 0)),some (.int n),some (.ref p2),some (.ref p3),some (.ref s4),some (.ref g),v8,some (.ref f6),some (.ref m7),none,none] H8 _
  refine nxi ?_;show Ends.nx (Ends.mk _ _ _ _) _ _
  refine BZ ?_;obtain⟨c8,ec8,lc8⟩:∃ cs:List Int,dq (ns.map V.int) (some 6) (some (6+(most:Int)))=cs.map V.int/\cs.length<=most:=by
   rw[mW];refine⟨_,rfl,?_⟩;rw[show(6:Int)=((6:Nat):Int) from rfl,show((6:Nat):Int)+(most:Int)=((6+most:Nat):Int) by lia,HT.lO,HT.lO,Et,Fo]
   refine Ea (Nat.min_le_left _ _) (Nat.sub_le_of_le_add ?_);rcases Nat.le_total 6 ns.length with h|h
   ·rw[Nat.min_eq_left h,Nat.add_comm most];exact Nat.min_le_left _ _
   ·rw[Nat.min_eq_right h];exact Ea (Nat.min_le_right _ _) (Nat.le_add_left _ _)
  have h8:H8 l8=some (.lst (c8.map V.int)):=by rw[<-ec8];exact h8
  refine yi (fun σ J'=>∃(l:Addr) (cs:List Int),σ=[some (.ref a),some (.int most),some (.int (ai ns 0)),some (.int n),some (.ref p2),some (.ref p3),some (.ref s4),some (.ref g),v8,some (.ref f6),some (.ref m7),some (.ref l),none]/\J' l=some (.lst (cs.map V.int))/\cs.length<=most/\Ext H8 J'/\l≠m7) ?_ ?_
  rotate_left
  ·intro N hN;refine⟨⟨by decide,by decide⟩,by show(0:Int)<2;decide,rfl,aV (fun _=>?_) (fun _=>?_)⟩
   ·refine⟨⟨by lia,by lia⟩,?_⟩
    refine nA (zs:=List.range (most:Int).toNat) (fun j=>.int (ai ns 0 / 7*(0+(j:Int)+3)+31*(0+(j:Int)))) (jU 0 _) (z0 (by rw[Ef];lia)) ?_ ?_
    ·intro i j H9 Kk hj ex kk;have hj':j<most:=by have:=Eh.mp (Dw hj);lia
     exact⟨cE rfl,⟨by decide,by decide⟩,.inr ⟨by lia,by lia⟩,.inl ⟨by decide,by decide⟩,kk H9 Ext.refl⟩
    intro l9 H9 hl9 h9 e9;refine⟨_,e9.up h8,_,h9,z1 (by rw[Dd,Dd,Ef];lia),fun l10 H10 hl10 h10 e10=>⟨_,.inl h10,fun l11 H11 hl11 h11 e11=>hN _ _ ⟨l11,?_⟩⟩⟩
    have h10':H10 l10=some (.lst ((c8++(List.range (most:Int).toNat).map fun(j:Nat)=>ai ns 0 / 7*(0+(j:Int)+3)+31*(0+(j:Int))).map V.int)):=by
     rw[h10,Dn,Du];rfl
    generalize hall:(c8++(List.range (most:Int).toNat).map fun(j:Nat)=>ai ns 0 / 7*(0+(j:Int)+3)+31*(0+(j:Int)))=all at h10'
    have e12:c8.map V.int++(List.range (most:Int).toNat).map (fun(j:Nat)=>V.int (ai ns 0 / 7*(0+(j:Int)+3)+31*(0+(j:Int))))=all.map V.int:=by
     rw[<-hall,Dn,Du];rfl
    have h11:H11 l11=some (.lst (dq (all.map V.int) none (some (most:Int)))):=by rw[<-e12];exact h11
    rw[mW]at h11;refine⟨_,rfl,h11,?_,e9.trans (e10.trans e11),(aB ((e8.trans (e9.trans e10)).up h7) hl11).symm⟩;rw[HT.lO,HT.zq,Et];lia
   ·exact hN _ _ ⟨l8,c8,rfl,h8,lc8,Ext.refl,(aB h7 hl8).symm⟩
  rintro σ J8 ⟨l,cs,rfl,hl,lcs,x8,nlm⟩;have y8:Ext H7 J8:=e8.trans x8;have m8:=y8.up h7;have d8:=(x7.trans y8).up dJ;have nm:∀{x:Addr} {u:HO},H6 x=some u->x≠m7:=fun hx=>aB hx hm7
  refine⟨_,.inl hl,bZ (xs:=cs.map V.int) (fun i σ J9=>∃(ps:List (Mv×Addr)) (v12:Option V),σ=[some (.ref a),some (.int most),some (.int (ai ns 0)),some (.int n),some (.ref p2),some (.ref p3),some (.ref s4),some (.ref g),v8,some (.ref f6),some (.ref m7),some (.ref l),v12]/\J9 m7=some (.lst (refs ps))/\eP J9 ps/\(∀ p∈ps,bF n p.1)/\ps.length=i/\(∀ x u,x≠m7->J8 x=some u->J9 x=some u))
   ⟨[],none,rfl,m8,(fun p hp=>nomatch hp),(fun p hp=>nomatch hp),rfl,fun x u _ hu=>hu⟩ (fun i σ J9 _ ⟨_,_,_,_,_,_,_,fr⟩=>.inl (fr l _ nlm hl)) ?_ ?_⟩
  ·rintro i x σ J9 hx ⟨ps,v12,rfl,jm,tp,gp,lp,fr⟩;have hi:i<cs.length:=by have:=(DI.mp hx).1;rw[Dd]at this;exact this
   rw[Dq,Dy]at hx;obtain⟨z,hz,rfl⟩:=hx;have d9:=fr p2 _ (nm (e6.up dJ)) d8;have dp:(0:Int)<((ds.map V.str).length:Int):=by rw[Dd];lia
   obtain⟨y,hy,hym⟩:=ko (xs:=ds.map V.str) (i:=z / 8%((ds.map V.str).length:Int)) (E7 _ (by lia)) (EL _ dp)
   obtain⟨y,hyd,rfl⟩:=Dg.mp hym;have n0:(0:Int)<n:=by lia
   refine⟨_,.inl jm,n0,⟨by decide,by decide⟩,_,.inl d9,dp,_,.inl d9,_,hy,⟨by decide,by decide⟩,n0,z1 (by show 3<=1000;decide),fun t J10 ht j10 e10=>⟨_,e10.up jm,z0 ?_,fun J11 j11 b11=>?_⟩⟩
   ·unfold refs;rw[Dd];lia
   have ntm:t≠m7:=(aB jm ht).symm;refine⟨ps++[((z%n,y,z / 40%n),t)],_,rfl,?_,fun q hq=>?_,fun q hq=>?_,by rw[Dl,lp];rfl,fun x u nx hu=>b11.up nx (e10.up (fr x u nx hu))⟩
   ·rw[j11];unfold refs;rw[Dn];rfl
   ·rcases Dp.mp hq with hq|hq
    ·exact b11.up (bo (e10.up (tp q hq)) (e10.up jm) fun z=>nomatch z) (e10.up (tp q hq))
    ·rw[Dj.mp hq];exact b11.up ntm j10
   ·rcases Dp.mp hq with hq|hq
    ·exact gp q hq
    ·rw[Dj.mp hq];exact⟨⟨E7 _ (by lia),EL _ n0⟩,wd y hyd,E7 _ (by lia),EL _ n0⟩
  rintro σ J9 ⟨ps,v12,rfl,jm,tp,gp,lp,fr⟩;have lp:ps.length=(cs.map V.int).length:=lp;rw[Dd]at lp;have up:∀{x:Addr} {u:HO},H6 x=some u->J9 x=some u:=fun {x u} hx=>fr x u (nm hx) (y8.up (e7.up hx))
  have s9:=up (e6.up sJ);have g9:=up (e6.up jg);have f9:=up h6;have xx9:Ext H J9:=fun x u hx=>up (e6.up (xH.up hx))
  refine⟨z1 (by show 1<=1000;decide),fun l12 J12 hl12 h12 e12=>⟨z1 (by show 0<=1000;decide),fun l13 J13 hl13 h13 e13=>⟨flD (st.map V.int),flD [],cj (.inl ((e12.trans e13).up s9)) (cw _),cj (.inl h13) rfl,eJ (fun x _ y hy=>nomatch hy),rfl,by rw[dU];decide,aV (fun _=>?_) (fun _=>?_)⟩⟩⟩
  ·refine⟨a,ns,3,rfl,((xx9.trans (e12.trans e13)).rd ha),by decide,by show(0:Int)<3;decide,?_⟩
   obtain⟨zz,ezz,hzz,lzz⟩:=gK V.int [(0:Int)] none (some (b2n (decide ((0:Int)<ai ns 3%3))));refine⟨_,.inl (e13.up h12),fun l14 J14 hl14 h14 e14=>?_⟩
   have h14:J14 l14=some (.lst (zz.map V.int)):=by rw[<-ezz];exact h14
   have y14:Ext J9 J14:=e12.trans (e13.trans e14);refine⟨_,y14.up s9,_,h14,z1 (by rw[Dd,Dd];have:zz.length<=1:=lzz;lia),fun l15 J15 hl15 h15 e15=>⟨z1 (by show 5<=1000;decide),fun p J16 hp h16 e16=>?_⟩⟩
   have y16:Ext J9 J16:=y14.trans (e15.trans e16);have h15:J16 l15=some (.lst ((st++zz).map V.int)):=by rw[Dn];exact e16.up h15
   refine k p J16 n l15 m7 g f6 (st++zz) ps sg fl ⟨h16,h15,y16.up jm,fun q hq=>y16.up (tp q hq),y16.up g9,y16.up f9⟩ ⟨hn,by lia,fun r hr=>?_,gp,wg,hfl⟩ (by lia) (by rw[Dl];have:zz.length<=1:=lzz;lia) lfl lg (xx9.trans y16)
   rcases Dp.mp hr with hr|hr
   ·exact hst r hr
   ·have:=hzz r hr
    rw[Dj.mp this];lia
  ·
   obtain⟨zz,ezz,hzz,lzz⟩:=gK V.int [(0:Int)] none (some (b2n false));refine⟨_,.inl (e13.up h12),fun l14 J14 hl14 h14 e14=>?_⟩
   have h14:J14 l14=some (.lst (zz.map V.int)):=by rw[<-ezz];exact h14
   have y14:Ext J9 J14:=e12.trans (e13.trans e14);refine⟨_,y14.up s9,_,h14,z1 (by rw[Dd,Dd];have:zz.length<=1:=lzz;lia),fun l15 J15 hl15 h15 e15=>⟨z1 (by show 5<=1000;decide),fun p J16 hp h16 e16=>?_⟩⟩
   have y16:Ext J9 J16:=y14.trans (e15.trans e16);have h15:J16 l15=some (.lst ((st++zz).map V.int)):=by rw[Dn];exact e16.up h15
   refine k p J16 n l15 m7 g f6 (st++zz) ps sg fl ⟨h16,h15,y16.up jm,fun q hq=>y16.up (tp q hq),y16.up g9,y16.up f9⟩ ⟨hn,by lia,fun r hr=>?_,gp,wg,hfl⟩ (by lia) (by rw[Dl];have:zz.length<=1:=lzz;lia) lfl lg (xx9.trans y16)
   rcases Dp.mp hr with hr|hr
   ·exact hst r hr
   ·have:=hzz r hr
    rw[Dj.mp this];lia
end
end K
end
section
namespace SB
open PySem PySem.Spec PyProof.Rows L2
section
variable {X:Cx}{tg l e:Expr}{tl te:TE}
end
section
variable {prog:Program}{w:World}{A:Around}{E:Value->Shared->Prop}{s:Shared}
theorem gather{T:String}{d:Addr}{P:Nat->Value->Prop}{OK:Heap->Prop}{R:List Value->Shared->Prop}(S:PySem.W.KdlSrc prog w T a d n P OK)(hh:A.handled=none)(ok:OK s.heap)(hn:n<=sizeLine)(go:∀(h1:Heap)(tk:Nat)(vs:Array Value),(∀ b o,s.heap.get? b=some o->h1.get? b=some o)->s.heap.objs.size<=h1.objs.size->ItemsOf P vs n->R vs.toList { s with heap:=h1,toks:=tk }):wpAny (model prog w) A (collect (.ref a)) R E s:=by
 have lt:=S.there _ ok;unfold collect;refine De (wpAny_runValue (codeAny_builtin F.entry_proto_collect ?_));rw[Around.under_plainId F.plain_proto_collect _];refine De (m:=newList []) (EN ?_);refine Df ⟨plainId_quiet F.plain_list_iadd _,codeAny_builtin F.entry_list_iadd ?_⟩;rw[Around.under_plainId F.plain_list_iadd _];have up:∀ b o,s.heap.get? b=some o->(s.heap.push { cls:=.type "list",data:=.seq ([]:List Value).toArray }).get? b=some o:=fun b o e=>Dh _ e
 have ex:=PySem.W.kdl_extend (A:=A) (s:={ s with heap:=s.heap.push { cls:=.type "list",data:=.seq ([]:List Value).toArray } })
  (R:=fun q s1=>q=.ok (.ret (.ref s.heap.objs.size))/\∃ h1 tk vs c,s1={ s with heap:=h1,toks:=tk }/\(∀ b o,s.heap.get? b=some o->h1.get? b=some o)/\h1.get? s.heap.objs.size=some { cls:=.type "list",dict:=none,data:=.seq vs c,slots:=#[] }/\ItemsOf P vs n)
  S hh (S.keep _ _ ok fun b _=>up b) s.heap.objs.size (Fs lt.1) (Fs lt.2) (.ref s.heap.objs.size) 0 (DE _ rfl)
  (fun h1 tk vs c kp atL it=>⟨rfl,h1,tk,vs,c,rfl,fun b o e=>kp b o (DO (Dz e)) (up b o e),atL,it⟩) hn
 have last:∀(q:Result) (s1:Shared),(q=.ok (.ret (.ref s.heap.objs.size))/\∃ h1 tk vs c,s1={ s with heap:=h1,toks:=tk }/\(∀ b o,s.heap.get? b=some o->h1.get? b=some o)/\h1.get? s.heap.objs.size=some { cls:=.type "list",dict:=none,data:=.seq vs c,slots:=#[] }/\ItemsOf P vs n) →
   wpAny (model prog w) A (load s.heap.objs.size) (fun o s2=>∃ vs c,o={ cls:=.type "list",dict:=none,data:=.seq vs c,slots:=#[] }/\R vs.toList s2) E s1:=fun q s1 ⟨_,h1,tk,vs,c,e,kp,atL,it⟩=>by
  subst e;exact wpAny_load atL ⟨vs,c,rfl,go h1 tk vs kp (Fe (Dz atL)) it⟩
 refine EA ex (fun f s1 x=>?_) fun e s1 x=>?_
 ·cases f with
  | done f=>
   obtain⟨e,_⟩:=id x;cases e
   refine De (m:=load s.heap.objs.size) (EA (last _ s1 x) (fun o s2 ⟨vs,c,e,r⟩=>?_) fun _ _ z=>z)
   subst e;exact Df r
  | again c=>
   refine⟨x.1,codeAny_mono x.2 fun q s1 x=>?_⟩
   obtain⟨e,_⟩:=id x;cases e
   refine De (m:=load s.heap.objs.size) (EA (last _ s1 x) (fun o s2 ⟨vs,c,e,r⟩=>?_) fun _ _ z=>z)
   subst e;exact Df r
 ·cases x.1
theorem jY{α:Type}{ok:α->Prop}{lt:α->α->Bool}(L:bS ok lt){ks:List α}{Rel:α->Value->Prop}(hsz:ks.length<=sizeLine)(nd:ks.Nodup)(hok:∀ k∈ks,ok k)(hf:∀ k∈ks,∀ k'∈ks,∀ v,Rel k v->Rel k' v->k=k')(κ0:SortKind)(hkind:∀(s1:Shared)(ys:List (α×Value)),(∀ p∈ys,p.1∈ks/\Rel p.1 p.2)->(∀ b o,s.heap.get? b=some o->s1.heap.get? b=some o)->2<=ys.length->∀ Q:SortKind->Shared->Prop,Q κ0 s1->wpAny (model prog w) A.in1.in1 (keyKind' (ys.map (·.2)).toArray) Q (fun _ _=>False) s1)(hcmp:∀(s1:Shared),(∀ b o,s.heap.get? b=some o->s1.heap.get? b=some o)->∀ p:α×Value,(p.1∈ks/\Rel p.1 p.2)->∀ q:α×Value,(q.1∈ks/\Rel q.1 q.2)->∀ C:Bool->Shared->Prop,C (lt p.1 q.1) s1->wpAny (model prog w) A.in1.in1 (keyLt' κ0 p.2 q.2) C (fun _ _=>False) s1)(hcol:∀(E':Value->Shared->Prop)(R:List Value->Shared->Prop),(∀(h1:Heap)(tk:Nat)(xs:List (α×Value)),xs.map (·.1)=ks->(∀ p∈xs,Rel p.1 p.2)->(∀ b o,s.heap.get? b=some o->h1.get? b=some o)->s.heap.objs.size<=h1.objs.size->R (xs.map (·.2)) { s with heap:=h1,toks:=tk })->wpAny (model prog w) A.in1 (collect (.ref a)) R E' s)(h:∀(h':Heap)(tk:Nat)(D:Addr)(c:Nat)(out:List (α×Value)),(out.map (·.1)).Perm ks->(out.map (·.1)).Pairwise (fun x y=>lt x y=true)->(∀ p∈out,Rel p.1 p.2)->(∀ b o,s.heap.get? b=some o->h'.get? b=some o)->s.heap.objs.size<=D →
   h'.get? D=some (seqObj "list" (out.map (·.2)).toArray c)->Q (.ref D) { s with heap:=h',toks:=tk }) :
  wpAny (model prog w) A (call (.builtin "sorted") [.ref a]) Q E s:=by
 refine Calls.call_function_entry kind_sorted plain_sorted entry_sorted (args_sorted1 _) ?_;unfold Builtin.«sorted»;refine De (m:=checkCount "sorted" 1 1 _) (Df ?_)
 refine De (hcol _ _ fun h1 tk ys hk1 hrel keep1 size1=>?_)
 have hyl:ys.length=ks.length:=by rw[<-hk1,Dd]
 have hin0:∀ p∈ys,p.1∈ks/\Rel p.1 p.2:=fun p hp=>⟨by rw[<-hk1];exact DU hp,hrel p hp⟩
 refine De (wpAny_newList ?_ (by rw[Dd,hyl];first|exact hsz|exact Nat.le_succ_of_le hsz))
 have hoL:(h1.push (seqObj "list" (ys.map (·.2)).toArray 0)).get? h1.objs.size=some (seqObj "list" (ys.map (·.2)).toArray 0):=DE _ rfl
 have keep2:∀ b o,s.heap.get? b=some o->b≠h1.objs.size:=fun b o e=>DO (D6 (Dz e) size1)
 refine De (Ew (EB slot_list_sort ⟨_,hoL,rfl⟩ entry_list_sort ?_ (args_list_sort _)));refine sR (s:={ s with heap:=h1.push (seqObj "list" (ys.map (·.2)).toArray 0),toks:=tk }) L hoL (by rw[hyl];exact hsz) (fun p hp=>hok _ (hin0 p hp).1) (by rw[hk1];exact nd)
  (fun p hp q hq e=>hf _ (hin0 p hp).1 _ (hin0 q hq).1 q.2 (e▸(hin0 p hp).2) (hin0 q hq).2) κ0 ?_ ?_ ?_
 ·intro h2 s1 k1 Q' q;exact hkind s1 ys hin0 (fun b o e=>k1 b o (keep2 b o e) (Dh _ (keep1 b o e))) h2 Q' q
 ·intro s1 k1 p hp q hq C hC;exact hcmp s1 (fun b o e=>k1 b o (keep2 b o e) (Dh _ (keep1 b o e))) p (hin0 p hp) q (hin0 q hq) C hC
 ·intro out h' c po uo k1 size2 ho';refine⟨_,rfl,Df ⟨_,rfl,?_⟩⟩;exact h h' tk _ c out ((po.map (·.1)).trans (List.Perm.of_eq hk1)) uo (fun z hz=>hrel z (po.mem_iff.mp hz)) (fun b o e=>k1 b o (keep2 b o e) (Dh _ (keep1 b o e))) size1 ho'
end
theorem jr{α:Type}{Rel:α->Value->Prop}:∀(ks:List α)(vs:List Value),vs.length=ks.length->(∀(i:Nat)(k:α)(v:Value),ks[i]? =some k->vs[i]? =some v->Rel k v)->∃ xs:List (α×Value),xs.map (·.1)=ks/\xs.map (·.2)=vs/\∀ p∈xs,Rel p.1 p.2
 | [],[],_,_=>⟨[],rfl,rfl,fun p hp=>nomatch hp⟩
 | [],_::_,h,_=>by simp at h
 | _::_,[],h,_=>by simp at h
 | k::ks,v::vs,h,each=>by
  obtain⟨xs,h1,h2,h3⟩:=jr ks vs (by simpa using h) fun i k' v' hk hv=>each (i+1) k' v' (by simpa using hk) (by simpa using hv)
  refine⟨(k,v)::xs,by rw[Dk,h1],by rw[Dk,h2],fun p hp=>?_⟩
  rcases DG.mp hp with rfl|hp
  ·exact each 0 k v rfl rfl
  ·exact h3 p hp
section
variable {X:Cx}
noncomputable def tJ:List V->Hp->VK->Prop:=fun xs H Q=>match xs with
 | [.ref a]=>∃ kvs:List (L2.Key×V),H a=some (.dK kvs)/\∃ b:Bool,aU ((kvs.map (·.1)).Nodup/\(∀ k∈kvs.map (·.1),isI k=b)/\kvs.length<64)/\New H (.lst ((srt kLt (kvs.map (·.1))).map kV)) Q
 | _=>False
theorem sE(hc:X.calm=true):aD X (.builtin "sorted") tJ:=by
 intro pins s σ H xs us Q I r h;unfold tJ at h
 split at h
 ·rename_i a
  obtain⟨kvs,ha,b,⟨nd,hb,h64⟩,q⟩:=h;obtain⟨u,rfl,rx⟩:=vals1 r;cases rx
  obtain⟨z,hs,vs,rel,dd⟩:=(show aj X.prog X.w H s.heap a (.dK kvs) from I.hok a _ ha)
  have hlen:kvs.length=vs.length:=Paired.length rel;obtain⟨ob,es,ep,hob,hex,hdat,hrest⟩:=id dd;refine jY (Rel:=fun k v=>bq k v=true) (cI b) (ks:=kvs.map (·.1)) (by rw[Dd,DV];lia) nd hb (fun k _ k' _ v h1 h2=>ku h1 h2) oneType' ?_ ?_ ?_ ?_
  ·intro s1 ys hy _ h2 Q' q';exact ma (b:=b) (fun p hp=>⟨(hy p hp).2,hb _ (hy p hp).1⟩) h2 q'
  ·intro s1 _ x hx y hy C hC;exact mJ hx.2 hy.2 (by rw[hb _ hx.1,hb _ hy.1]) hC
  ·intro E' R hR;have dat:s.heap.DictAt (au X.prog X.w) a vs ep:=⟨ob,es,hob,hex,hdat,hrest⟩;refine gather (A:=X.A.in1) (PySem.W.kdl_dict (kvs:=vs) (ep:=ep) hs) (by simp [I.ok.hd hc]) dat (by rw[DV];lia) fun h' tk acc hk hsz hacc=>?_
   obtain⟨ys,e1,e2,e3⟩:=jr (Rel:=fun(k:L2.Key) v=>bq k v=true) (kvs.map (·.1)) acc.toList (by rw[DJ,hacc.1,Dd,hlen]) fun i k v hk hv=>by
    have hv':acc[i]? =some v:=by rw[<-DK];exact hv
    obtain⟨k',x,hkx,hkey⟩:=hacc.2 i v hv';rw[Dq,Dy]at hk;obtain⟨⟨kk,vv⟩,hkv,rfl⟩:=hk;obtain⟨u,hu,_⟩:=kz rel hkv;rw[hu]at hkx;cases hkx
    exact hkey
   rw[<-e2];exact hR h' tk ys e1 e3 hk hsz
  ·intro h' tk D c out hpo hup hrel keep hD hg;have ho:out.map (·.1)=srt kLt (kvs.map (·.1)):=fm (cI b) hb (fun k'=>hpo.mem_iff) hup
   have rv2:Vals ((srt kLt (kvs.map (·.1))).map kV) (out.map (·.2)):=by
    rw[<-ho,Du];exact gy (f:=kV) fun q hq=>fU (hrel q hq)
   have hol:out.length=kvs.length:=by
    have:=hpo.length_eq
    rw[Dd,Dd]at this;exact this
   have I2:Inv X pins σ (upd H D (.lst ((srt kLt (kvs.map (·.1))).map kV))) { s with heap:=h',toks:=tk }:=
    I.laid (t':=tk) keep hD (show aj X.prog X.w _ h' D (.lst ((srt kLt (kvs.map (·.1))).map kV)) from⟨by rw[<-ho,Dd,Dd,hol,DV];lia,out.map (·.2),c,rv2,hg⟩)
   exact⟨V.ref D,_,I2,rfl,q.at (I.hok.fresh hD)⟩
 ·exact h.elim
noncomputable def qE:List V->Hp->VK->Prop:=fun xs H Q=>match xs with
 | [.ref a]=>∃ kvs:List (L2.Key×V),H a=some (.dK kvs)/\New H (.lst ((kvs.map (·.1)).map kV)) Q
 | _=>False
theorem BN(hc:X.calm=true):aD X (.type "list") qE:=by
 intro pins s σ H xs us Q I r h;unfold qE at h
 split at h
 ·rename_i a
  obtain⟨kvs,ha,q⟩:=h;obtain⟨u,rfl,rx⟩:=vals1 r;cases rx
  obtain⟨z,hs,vs,rel,dd⟩:=(show aj X.prog X.w H s.heap a (.dK kvs) from I.hok a _ ha)
  have hlen:kvs.length=vs.length:=Paired.length rel;obtain⟨ob,es,ep,hob,hex,hdat,hrest⟩:=id dd;have dat:s.heap.DictAt (au X.prog X.w) a vs ep:=⟨ob,es,hob,hex,hdat,hrest⟩;refine PySem.W.kdl_call (PySem.W.kdl_dict (kvs:=vs) (ep:=ep) hs) (I.ok.hd hc) dat (by rw[<-hlen];exact z) fun h' tk acc c' kp hS hacc=>?_
  refine⟨.ref s.heap.objs.size,_,I.laid (t':=tk) kp (Di _) (show aj X.prog X.w _ h' _ (.lst ((kvs.map (·.1)).map kV)) from⟨by rw[Dd,Dd];exact z,acc.toList,c',?_,by rw[Array.toArray_toList];exact hS⟩),rfl,q.at (I.hok.fresh (Di _))⟩
  obtain⟨ys,e1,e2,e3⟩:=jr (Rel:=fun(k:L2.Key) v=>bq k v=true) (kvs.map (·.1)) acc.toList (by rw[DJ,hacc.1,Dd,hlen]) fun i k v hk hv=>by
   have hv':acc[i]? =some v:=by rw[<-DK];exact hv
   obtain⟨k',x,hkx,hkey⟩:=hacc.2 i v hv';rw[Dq,Dy]at hk;obtain⟨⟨kk,vv⟩,hkv,rfl⟩:=hk;obtain⟨u,hu,_⟩:=kz rel hkv;rw[hu]at hkx;cases hkx
   exact hkey
  rw[<-e1,<-e2,Du];exact gy (f:=kV) fun q hq=>fU (e3 q hq)
 ·exact h.elim
end
end SB
end
section
namespace SB
open PySem PySem.Spec PyProof.Rows L2
open PySem.W (CodeHd tabObj kla_obj kla_fn)
structure cK (mg:Str->Option Value)(base:Heap)(c P:Addr):Prop where
 hd:CodeHd base c P
 bm:∃ bm o,mg "__builtins__" = some (.ref bm)/\bm≠builtinsNs/\bm≠mainGlobals/\base.get? bm=some o/\o.cls=.type "module"/\o.dict=some builtinsNs/\o.data=.plain
theorem cK.keeps{base':Heap}{P:Addr}(L:cK mg base c P)(k:∀ b o,base.get? b=some o->base'.get? b=some o):cK mg base' c P:=
 ⟨L.hd.keeps k,let ⟨bm,o,a,b,d,e,r⟩:=L.bm;⟨bm,o,a,b,d,k _ _ e,r⟩⟩
noncomputable def fI (oc:Obj)(qual:Str):Prop:=∃(vs:Array Value)(t:Tok),oc.data=.fields vs/\vs[1]? =some (.str qual t)
noncomputable def TabAt (pos:Pos)(qual:Str)(P:Addr)(H:Hp):Prop:=H P=some (.tbl #[])\/∃ c' oc,H P=some (.tbl #[rawInt pos.line,rawInt pos.col,.ref c'])/\H c'=some (.frz oc (.own c'))/\fI oc qual
structure cP (H H':Hp):Prop where
 up:∀{b u},H b=some u->(∀ ps,u≠.tbl ps)->H' b=some u
 tb:∀{b ps},H b=some (.tbl ps)->∃ ps',H' b=some (.tbl ps')
theorem cP.trans(a:cP H H1)(b:cP H1 H2):cP H H2:=⟨fun h n=>b.up (a.up h n) n,fun h=>by
 obtain⟨ps,h⟩:=a.tb h;exact b.tb h⟩
theorem Ext.toT(a:Ext H H1):cP H H1:=⟨fun h _=>Ext.up a h,fun h=>⟨_,Ext.up a h⟩⟩
theorem cP.none(a:cP H H1)(h:H1 b=.none):H b=.none:=by
 cases e:H b with
 | none=>rfl
 | some u=>
  by_cases hp:∃ ps,u=.tbl ps
  ·obtain⟨ps,rfl⟩:=hp;obtain⟨ps',z⟩:=a.tb e;rw[z]at h;cases h
  ·rw[a.up e fun ps z=>hp ⟨ps,z⟩]at h
   cases h
theorem TabAt.ext{P:Addr}(t:TabAt pos qual P H)(x:Ext H H'):TabAt pos qual P H':=by
 rcases t with t|⟨c',oc,h1,h2,h3⟩
 ·exact .inl (x.up t)
 ·exact .inr ⟨c',oc,x.up h1,x.up h2,h3⟩
theorem TabAt.zt{P:Addr}(t:TabAt pos qual P H){u:HO}(h:H b=some u)(n:∀ ps,u≠.tbl ps):b≠P:=by
 rintro rfl;rcases t with t|⟨c',oc,h1,h2,h3⟩
 ·rw[h]at t;exact n _ (DL t)
 ·rw[h]at h1;exact n _ (DL h1)
section
variable {X:Cx}{pins:List (Addr×Obj)}{σ:L2.St}{H:Hp}{s:Shared}
end
end SB
end
section
namespace SB
open PySem PySem.Spec PyProof.Rows L2
open PySem.W (CodeHd tabObj kla_obj kla_fn)
noncomputable def rebase (X:Cx)(H:Hp)(h:Heap):Heap:=PySem.W.hideAll (de h H) (frs X.stack)
section
variable {X:Cx}{pins:List (Addr×Obj)}{σ:L2.St}{H:Hp}{s:Shared}
theorem qJ(e:s.heap.get? b=some o)(n:H b=none)(hb:b∉frs X.stack):(rebase X H s.heap).get? b=some o:=PySem.W.hideAll_get _ (qG e n) hb
theorem Ce(e:(rebase X H s.heap).get? b=some o):s.heap.get? b=some o/\H b=none:=oo (PySem.W.of_hideAll _ e)
theorem CZ:(rebase X H s.heap).objs.size=s.heap.objs.size:=by
 unfold rebase;rw[PySem.W.hideAll_size,qU]
theorem vY(I:Inv X pins σ H s)(e:X.base.get? b=some o):b∉frs X.stack:=fun z=>by
 rcases DG.mp (I.ez b z) with q|q
 ·exact absurd (D6 (Dz e) (Ea I.ok.bsz I.ok.above)) (by rw[q];exact EG _)
 ·exact I.ok.sI e q
theorem oi(I:Inv X pins σ H s)(e:X.base.get? b=some o):(rebase X H s.heap).get? b=some o:=qJ (I.bs b o e).1 (I.bs b o e).2 (vY I e)
theorem pR{base':Heap}:∀{l:List Env},(∀ b∈frs l,base'.get? b=none)->h.FunFrames base l->h.FunFrames base' l
 | [],_,_=>trivial
 | env::r,hn,hl=>by
  obtain⟨hk,⟨L,o,hf,_,ho,hd⟩,hr⟩:=hl;have mem:L∈frs (env::r):=by unfold frs;rw[Es,hf];exact Dm
  exact⟨hk,⟨L,o,hf,hn L mem,ho,hd⟩,pR (fun b hb=>hn b (by unfold frs;rw[Es,hf];exact Dr _ hb)) hr⟩
theorem Ad(I:Inv X pins σ H s):dF X.prog X.w X.K X.mg (rebase X H s.heap) X.A X.stack s H:=by
 have k:∀ b o,X.base.get? b=some o->(rebase X H s.heap).get? b=some o:=fun b o e=>oi I e
 obtain⟨m1,m2,⟨mb,m3,m4⟩,m5⟩:=I.ok.mod;exact⟨I.ok.frames,⟨m1.keeps k,m2.keeps k,⟨mb,m3.keeps k,m4⟩,m5.keeps k⟩,fun b o e=>Ce e,Nat.le_of_eq CZ,pR (fun b hb=>PySem.W.hideAll_none _ hb) I.stack,I.k8,I.hok,I.bare⟩
structure eD (base:Heap)(cl:List (Str×Addr))(scope:Scope)(Nf:List Str)(fvs:List V):Prop where
 inj:∀ x y c,cl.lookup x=some c->cl.lookup y=some c->x=y
 has:∀ x,scope.names.lookup x=some .free->∃ c,cl.lookup x=some c
 cell:∀ x c,cl.lookup x=some c->∃ v,base.IsCell c v
 val:∀(i:Nat) (x:Str) (v:V),Nf[i]? =some x->fvs[i]? =some v->scope.names.lookup x=some .free/\∃ u c,RelV v u/\cl.lookup x=some c/\base.IsCell c (some u)
structure Rb (X:Cx)(σ:L2.St)(H:Hp)(base':Heap):Prop where
 keep:∀ b o,X.base.get? b=some o->base'.get? b=some o
 clos:∀(scope:Scope) (Nf:List Str) (fvs:List V),(∀ n k,(n,k)∈scope.names->k=.free->X.env.kindOf n=some .cell\/X.env.kindOf n=some .free) →
  (∀(i:Nat) (x:Str) (v:V),Nf[i]? =some x->fvs[i]? =some v->scope.names.lookup x=some .free/\∃ j:Nat,X.N[j]? =some x/\σ[j]? =some (some v))->eD base' (aQ X.env scope.names []) scope Nf fvs
theorem BU(hf:∀ x,X.fn x=true)(I:Inv X pins σ H s)(e:X.env.cells.lookup x=some c):c∉frs X.stack:=fun z=>by
 rcases DG.mp (I.ez c z) with q|q
 ·exact I.cne x c e q
 ·obtain⟨_,o,ho,_⟩:=I.ok.cm.mem q;exact absurd (Dz ho) (Nat.not_lt.mpr (I.ok.cab x c (hf x) e))
theorem uK(hf:∀ x,X.fn x=true)(I:Inv X pins σ H s):Rb X σ H (rebase X H s.heap):=by
 refine⟨fun b o e=>oi I e,fun scope Nf fvs hfr hv=>?_⟩
 have hcl:∀ n k,(n,k)∈scope.names->k=.free->∃ c,X.env.cells.lookup n=some c:=fun n k hm e=>I.ok.has n (hfr n k hm e)
 have cg:=jA X.env scope.names [] hcl (fun x c h=>by simp at h)
 have up:∀{x:Str} {c:Addr} {v:Option Value},X.env.cells.lookup x=some c->s.heap.IsCell c v->(rebase X H s.heap).IsCell c v:=fun {x c v} e ⟨o,ho,hd⟩=>⟨o,qJ ho (I.freeC x c e) (BU hf I e),hd⟩
 refine⟨fun x y c h1 h2=>I.ok.inj x y c (cg x c h1) (cg y c h2),fun x hx=>gG X.env scope.names [] x (.inl (PySem.mem_of_lookup hx)),fun x c hx=>?_,fun i x v h1 h2=>?_⟩
 ·obtain⟨v,z⟩:=I.cell x c (cg x c hx);exact⟨v,up (cg x c hx) z⟩
 ·obtain⟨hx,j,hj,hσ⟩:=hv i x v h1 h2;refine⟨hx,?_⟩;have hm:=PySem.mem_of_lookup hx;have hk:=hfr x .free hm rfl;obtain⟨m,_,hl⟩:=I.loc;obtain⟨u,r,lk⟩:=hl j x v hj hσ (by rcases hk with e|e;exact .inr (.inl e);exact .inr (.inr e))
  obtain⟨c,hc⟩:=gG X.env scope.names [] x (.inl hm);refine⟨u,c,r,hc,?_⟩;rcases lk with⟨e,_⟩|⟨_,c2,e2,z⟩
  ·rcases hk with e'|e' <;> (rw[e']at e;cases e)
  ·rw[cg x c hc]at e2;cases e2
   exact up (cg x c hc) z
variable {k:Nat}{x:Str}{ps:List Str}{sp:Heap->Sp}{e:Expr}{es:List Expr}{t:TA}{p pos:Pos}
noncomputable def z8 (X:Cx)(sp:Heap->Sp)(t:TA):TE:=fun σ H Q=>t σ H fun vs H1=>∀ base',Rb X σ H1 base'->sp base' vs H1 Q E0
theorem rm(F:∀ base',X.K.In base'->base'.Ns mainGlobals X.mg->Known X.prog X.w X.K X.mg base' k x ps (sp base'))(hr:aA k X.A)(hf:∀ x,X.fn x=true)(ha:PA X (e::es) t)(hg:Gl X x:=by rfl)(hdb:(x==("__debug__":Str))=false:=by decide) (he:starEach (e::es) X.env=(false,eval e X.env)::starEach es X.env:=by rfl) (hpl:(backTo pos (starEach es X.env)).any (·.1)=false:=by rfl):PE X (.Call (.Name x p) (e::es) [] pos) (z8 X sp t):=by
 intro pins s σ H Q I h;obtain⟨f,fd,_,mgf,kp,_⟩:=(F X.base I.ok.mod.kin I.ok.mod.glob).ex;refine Ff (jx I hg mgf ?_ hdb);refine PySem.W.callWith_K (h₀:=X.base) I.ok.mod.kin kp (thn (ha pos pins s σ H _ I h) fun us s1 ⟨vs,H1,I1,r,q⟩=>⟨I1.kIn,?_⟩) he hpl
 have e0:=Ad I1;obtain⟨f',fd',F',mgf',_,b'⟩:=(F (rebase X H1 s1.heap) e0.mod.kin e0.mod.glob).ex;rw[mgf]at mgf';cases mgf'
 have q:=q _ (uK hf I1);have hl:us.length=ps.length:=by rw[<-r.length];exact F'.len _ _ _ _ q
 have bt:=b' s1 us I1.kIn (by rw[D9];exact hl)
 rw[D9]at bt;show wpAny _ _ (call (.ref f) ([]++us)) _ _ _
 rw[List.nil_append];refine wpAny_call (codeAny_mono (F'.run X.A X.stack s1 H1 ⟨us,[]⟩ us vs Q E0 hr e0 bt r q) fun r s' hq=>?_)
 cases r with
 | error e=>exact False.elim hq
 | ok fl=>
  cases fl with
  | ret u=>exact I1.after hq
  | next=>exact False.elim hq
  | brk=>exact False.elim hq
  | cont=>exact False.elim hq
noncomputable def C2 (sp:Sp)(f:Addr)(o:Obj)(tx:TE)(t:TA):TE:=fun σ H Q=>tx σ H fun v H1=>v=.ref f/\H1 f=some (.frz o (.own f))/\t σ H1 fun vs H2=>H2 f=some (.frz o (.own f))/\sp vs H2 Q E0
theorem uc{sp:Sp}{tx:TE}(hx:PE X (.Name x p) tx)(F:ar X.prog X.w X.K X.mg X.base CX0 k f fd ps sp)(b:Binds X.K fd ps [])(ho:o.data=.func fd)(hr:aA k X.A)(ha:PA X (e::es) t)(he:starEach (e::es) X.env=(false,eval e X.env)::starEach es X.env:=by rfl)(hpl:(backTo pos (starEach es X.env)).any (·.1)=false:=by rfl):PE X (.Call (.Name x p) (e::es) [] pos) (C2 sp f o tx t):=by
 intro pins s σ H Q I h;have at_:∀{H':Hp} {h':Heap},HOk X.prog X.w H' h'->H' f=some (.frz o (.own f))->PySem.W.FnAt f h':=fun {H' h'} hk e=>by
  obtain⟨g,_⟩:=hk f _ e;obtain⟨oc,od,dt,sl⟩:=o;cases ho
  exact⟨oc,od,fd,sl,g⟩
 refine Ff (thn (hx pins s σ H _ I h) fun u s1 hZ=>?_)
 obtain⟨v,H1,I1,r1,e1,hf1,q1⟩:=hZ;subst e1;obtain rfl:u=Value.ref f:=r1;refine PySem.W.callWith_F (first:=[]) (at_ I1.hok hf1) (thn (ha pos pins s1 σ H1 _ I1 q1) fun us s2 ⟨vs,H2,I2,r,hf2,q⟩=>⟨at_ I2.hok hf2,?_⟩) he hpl
 have h2:=js (dvs:=[]) (ds:=[]) F hr b .nil (iz (X:=X)) I2 r (by rw[D9];exact q)
 exact h2
end
end SB
end
section
namespace SB
open PySem PySem.Spec PyProof.Rows L2
open PySem.W (CodeHd tabObj kla_obj kla_fn envX)
noncomputable def fj (P:Program)(w:World)(K:PySem.W.Frag)(mg:Str->Option Value)(base:Heap)(N:List Str)(qual:Str)(scope:Scope)(f:Addr)(cd:Value)(cl:List (Str×Addr))(A:Around)(outer:List Env)(s:Shared)(H:Hp):Cx where
 prog:=P
 w:=w
 K:=K
 mg:=mg
 base:=base
 A:=A.deeper (envX qual scope s.heap.objs.size f cd cl)
 N:=N
 s₀:=s
 H₀:=H
 env:=envX qual scope s.heap.objs.size f cd cl
 outer:=outer
 stack:=envX qual scope s.heap.objs.size f cd cl::outer
 ex:=[]
 calm:=true
 fn:=fun _=>false
 pn:=[]
 xe:=fun _ _=>False
structure lx (ps Nf:List Str)(sc:Scope):Prop where
 kind:sc.kind=.function
 co:sc.isCoroutine=false
 gen:sc.isGenerator=false
 nd:ps.Nodup
 par:∀ x∈ps,sc.names.lookup x=some .local
 nocell:∀ y∈sc.names,y.2≠.cell
theorem pP:∀{ps:List Str}{us:List Value}{i:Nat}{x:Str}{u:Value},ps.Nodup->ps[i]? =some x->us[i]? =some u->(ps.zip us).reverse.lookup x=some u
 | [],_,_,_,_,_,h,_=>by simp at h
 | _::_,[],_,_,_,_,_,h=>by simp at h
 | p::ps,w::us,0,x,u,nd,h1,h2=>by
  simp at h1 h2;subst h1;subst h2
  rw[List.zip_cons_cons,List.reverse_cons,List.lookup_append]
  have:(ps.zip us).reverse.lookup p=none:=by
   rw[List.lookup_eq_none_iff];intro q hq
   have:=(List.of_mem_zip (Fx.mp hq)).1
   have ne:p≠q.1:=fun e=>(Eu.mp nd).1 (e▸this)
   simpa using ne
  rw[this]
  simp
 | p::ps,w::us,i+1,x,u,nd,h1,h2=>by
  rw[List.zip_cons_cons,List.reverse_cons,List.lookup_append,pP (i:=i) (x:=x) (u:=u) (Eu.mp nd).2 (by simpa using h1) (by simpa using h2)]
  rfl
section
variable {P:Program}{w:World}{K:PySem.W.Frag}{mg:Str->Option Value}{base:Heap}{ps Nf:List Str}{qual:Str}{scope:Scope}{f:Addr}{cd:Value}{cl:List (Str×Addr)}{A:Around}{outer:List Env}{s:Shared}{H:Hp}{us:List Value}{vs fvs:List V}
theorem xR(S:lx ps Nf scope)(C:eD base cl scope Nf fvs)(hd:A.handled=none)(e0:dF P w K mg base A outer s H)(hl:vs.length=ps.length)(hfl:fvs.length=Nf.length)(r:Vals vs us){tk:Nat}(hn:h'.Ns s.heap.objs.size (fun x=>(ps.zip us).reverse.lookup x))(hk:∀ b o,s.heap.get? b=some o->h'.get? b=some o) :
  Inv (fj P w K mg base (ps++Nf) qual scope f cd cl A outer s H) [] (vs.map some++fvs.map some) H { s with heap:=h',toks:=tk }:=by
 have noA:∀ b:Addr,b∉(fj P w K mg base (ps++Nf) qual scope f cd cl A outer s H).ex:=fun b z=>absurd (show b∈([]:List Addr) from z) (by simp)
 have up:∀{c:Addr} {v:Option Value},base.IsCell c v->h'.IsCell c v:=fun⟨o,ho,hd⟩=>⟨o,hk _ _ (e0.bs _ _ ho).1,hd⟩
 refine⟨⟨e0.mod,S.kind,rfl,rfl,Di _,C.inj,fun y hy=>?_,fun y c h _=>(by cases h),fun _=>hd,Around.frames_deeper e0.frames,.inr ⟨rfl,rfl⟩,fun b z=>absurd z (noA b),e0.bs,e0.bsz,fun b _ _=>noA b,fun b z=>absurd z (noA b),e0.cm,e0.frf⟩,
  rfl,e0.bare,Un.kept hk,⟨_,hn,fun i y v h1 h2 h3=>?_⟩,fun y c h=>?_,e0.hok.fresh (Di _),fun y c h=>?_,fun p hp=>absurd (show p∈([]:List (Addr×Obj)) from hp) (by simp),e0.hok.kept hk,?_⟩
 ·have hy:scope.names.lookup y=some .cell\/scope.names.lookup y=some .free:=hy;rcases hy with hy|hy
  ·exact absurd rfl (S.nocell _ (PySem.mem_of_lookup hy))
  ·exact C.has y hy
 ·have h1:(ps++Nf)[i]? =some y:=h1;have h2:(vs.map some++fvs.map some)[i]? =some (some v):=h2
  by_cases hi:i<ps.length
  ·rw[Ep hi]at h1;rw[Ep (by rw[Dd,hl];exact hi),Dq,Dy]at h2
   obtain⟨v',hv,e⟩:=h2;cases e
   obtain⟨u,hu,rv⟩:=r.get hv;exact⟨u,rv,.inl ⟨S.par y (Dw h1),pP S.nd h1 hu⟩⟩
  ·have hi:ps.length<=i:=Nat.not_lt.mp hi;rw[El hi]at h1;rw[El (by rw[Dd,hl];exact hi),Dq,Dy,Dd,hl]at h2
   obtain⟨v',hv,e⟩:=h2;cases e
   obtain⟨hf,u,c,rv,hc,z⟩:=C.val _ y v h1 hv;exact⟨u,rv,.inr ⟨.inr hf,c,hc,up z⟩⟩
 ·obtain⟨v,z⟩:=C.cell y c h;exact⟨v,up z⟩
 ·obtain⟨v,o,ho,_⟩:=C.cell y c h
  exact(e0.bs _ _ ho).2
 ·show(vs.map some++fvs.map some).length=(ps++Nf).length
  rw[Dl,Dl,Dd,Dd,hl,hfl]
theorem B0{k:Nat}{params:Arguments}{body:Expr}{ctv:Value}{c':Addr}{oc:Obj}{sp:Sp}(S:lx ps Nf scope)(C:eD base cl scope Nf fvs)(hfl:fvs.length=Nf.length)(co:fI oc qual)(len:∀ vs H Q E,sp vs H Q E->vs.length=ps.length)(hob:∀ vs H Q E,sp vs H Q E->H f=some (.frz (kla_obj "<lambda>" qual params body scope cl pm c' ctv) (.own f))/\H c'=some (.frz oc (.own c'))) (hbody:∀(A:Around) (outer:List Env) (s:Shared) (H:Hp) (vs:List V) (Q:VK) (E:XK),aA k (A.deeper (envX qual scope s.heap.objs.size f (.ref c') cl))->sp vs H Q E →
   ∃ t,PE (fj P w K mg base (ps++Nf) qual scope f (.ref c') cl A outer s H) body t/\t (vs.map some++fvs.map some) H Q) :
  ar P w K mg base CX0 (k+1) f (kla_fn "<lambda>" qual params body scope cl pm (.ref c') ctv) ps sp:=by
 refine⟨len,fun A outer s H args us vs Q E hr e0 hb r hsp=>?_⟩
 have hl:=len _ _ _ _ hsp;obtain⟨hf,hc⟩:=hob _ _ _ _ hsp;have lim:s.heap.NoLimit:=e0.mod.nolimit.keeps fun b o e=>(e0.bs b o e).1
 obtain⟨gf,_⟩:=e0.hok f _ hf;obtain⟨gc,_⟩:=e0.hok c' _ hc;obtain⟨vs',t',hd',hv'⟩:=co;refine PySem.W.kla_callFunE hr.depth gf rfl S.co S.gen rfl ⟨c',oc,vs',t',rfl,gc,hd',hv'⟩ (hb _ _ _ _ ?_);refine wpAny_newFunctionEnv S.nocell (fun y hy=>S.par y.1 (List.of_mem_zip hy).1) (fun h₁ hns hsb=>⟨lim.fresh _ hsb,?_⟩) S.kind
 show codeAny _ _ (.expr body (envX qual scope s.heap.objs.size f (.ref c') cl)) _ _
 have hk₁:∀ b o,s.heap.get? b=some o->h₁.get? b=some o:=fun b o e=>hsb.extBut b o (DO (Dz e)) (Dh _ e)
 obtain⟨t,ht,hq⟩:=hbody A outer s H vs Q E (hr.deeper _) hsp;have I:=xR (qual:=qual) (f:=f) (cd:=.ref c') (cl:=cl) (tk:=s.toks+(ps.zip us).length) S C hr.hd e0 hl hfl r hns hk₁;refine PySem.W.kla_codeExpr (EA (ht [] _ _ H _ I hq) (fun v s' hs=>?_) fun e s' hs=>hs.elim)
 obtain⟨v',H',J,rv,q⟩:=hs;exact⟨v',H',J.os,J.bare,J.base,J.hok,rv,q⟩
end
end SB
end
section
set_option maxHeartbeats 2000000
namespace K
open PySem PySem.Spec PyProof.Rows L2 SB
noncomputable abbrev gH:Stmt:=top 18
structure er (α:Type) where
 enc:α->List V
 key:α->List L2.Key
 ok:∀ a,cZ (enc a) (key a)
 inj:∀ a b,key a=key b->a=b
inductive Rc {α:Type}(next:α->List α)(st:List α):α->Prop
 | base {x:α}:x∈st->Rc next st x
 | step {x y:α}:Rc next st x->y∈next x->Rc next st y
noncomputable def aM (H H':Hp):Prop:=∀ b xs,H b=some (.tup xs)->H' b=some (.tup xs)
theorem Ext.tup(x:Ext H H'):aM H H':=fun b xs h=>x.up h
theorem aM.trans(a:aM H H1)(b:aM H1 H2):aM H H2:=fun c xs h=>b c xs (a c xs h)
theorem dS{u:HO}(b:But l H H')(hl:H l=some u)(n:∀ xs,u≠.tup xs):aM H H':=fun c xs h=>b.up (fun z=>by rw[z,hl]at h;exact n _ (DL h)) h
theorem um{α:Type}{next:α->List α}{st l:List α}(h1:∀ x∈st,x∈l)(h2:∀ x∈l,∀ y∈next x,y∈l){x:α}(c:Rc next st x):x∈l:=by
 induction c with
 | base h=>exact h1 _ h
 | step _ hy ih=>exact h2 _ ih _ hy
section
variable {α:Type} [DecidableEq α]
noncomputable def mis (U l:List α):Nat:=U.countP fun s=>decide (s∉l)
theorem dW{l:List α}{s:α}(hs:s∉l):∀ us:List α,mis us (l++[s])+(if s∈us then 1 else 0)<=mis us l
 | []=>by simp [mis]
 | u::us=>by
  have ih:=dW hs us;unfold mis at ih ⊢;rw[List.countP_cons,List.countP_cons]
  by_cases e:u=s
  ·subst e;have h1:decide (u∉l++[u])=false:=by simp
   have h2:decide (u∉l)=true:=DB hs;rw[h1,h2,if_pos (Dm ..)];simp only[Dx,if_false,if_true]
   split at ih <;> lia
  ·have h1:decide (u∉l++[s])=decide (u∉l):=by
    apply Ej.mpr
    simp [e]
   have h2:(s∈u::us)↔s∈us:=by
    rw[DG];exact⟨fun z=>z.elim (fun z=>absurd z.symm e) id,.inr⟩
   rw[h1]
   by_cases q:s∈us
   ·rw[if_pos (h2.mpr q)];rw[if_pos q]at ih;lia
   ·rw[if_neg (fun z=>q (h2.mp z))]
    rw[if_neg q]at ih;lia
end
set_option maxHeartbeats 4000000
noncomputable def kvI (ks:List (Int×V)):List (L2.Key×V):=ks.map fun p=>(Sum.inl p.1,p.2)
theorem Bd(a b:List (Int×V)):kvI (a++b)=kvI a++kvI b:=by
 unfold kvI;rw[Dn]
theorem jV(ks:List (Int×V)):(kvI ks).map (·.1)=(ks.map (·.1)).map Sum.inl:=by
 unfold kvI;rw[Du,Du];rfl
theorem mw(ks:List (Int×V))(x:Int):((kvI ks).any fun kv=>decide (kv.1=(Sum.inl x:L2.Key)))=decide (x∈ks.map (·.1)):=by
 induction ks with
 | nil=>rfl
 | cons a r ih=>
  rw[show kvI (a::r)=(Sum.inl a.1,a.2)::kvI r from rfl,Fn,ih,Dk]
  by_cases h:a.1=x
  ·subst h
   simp
  ·have h':¬ (Sum.inl a.1:L2.Key)=Sum.inl x:=fun z=>h (Sum.inl.inj z)
   rw[DT h',Bool.false_or];refine decide_eq_decide.mpr ⟨fun z=>Dr _ z,fun z=>?_⟩
   rcases DG.mp z with z|z
   ·exact absurd z.symm h
   ·exact z
theorem tG(ks:List (Int×V))(x:Int):(aJ (kvI ks) (Sum.inl x)).isSome=decide (x∈ks.map (·.1)):=by
 rw[<-mw];unfold aJ;rw[Fh];refine Ej.mpr ?_;rw[List.find?_isSome,List.any_eq_true]
theorem oz{ks:List (Int×V)}{x:Int}{v:V}(h:x∉ks.map (·.1)):putK (kvI ks) (Sum.inl x) v=kvI (ks++[(x,v)]):=by
 unfold putK;rw[mw,DT h,if_neg (by decide),Bd]
 rfl
theorem zB{ks:List (Int×V)}{x:Int}(h:x∈ks.map (·.1))(hv:∀ e∈ks,e.2=.non):putK (kvI ks) (Sum.inl x) .non=kvI ks:=by
 unfold putK;rw[mw,DB h,if_pos rfl];unfold kvI;rw[Du];refine Fi fun e he=>?_
 show(if (Sum.inl e.1:L2.Key)=Sum.inl x then((Sum.inl e.1:L2.Key),V.non) else(Sum.inl e.1,e.2))=(Sum.inl e.1,e.2)
 split
 ·rw[hv e he]
 ·rfl
structure RI (next:Int->List Int)(ok:Int->Prop)(U st:List Int)(H H1:Hp)(d:Addr)(ks:List (Int×V)):Prop where
 ext:Ext H H1
 dn:H d=none
 dd:H1 d=some (.dK (kvI ks))
 okk:∀ e∈ks,ok e.1
 bd:ks.length+mis U (ks.map (·.1))<=U.length
 rc:∀ e∈ks,Rc next st e.1
 nd:(ks.map (·.1)).Nodup
section
variable {next:Int->List Int}{ok:Int->Prop}{U st:List Int}{H H1 H2:Hp}{d:Addr}{ks:List (Int×V)}
theorem RI.move(r:RI next ok U st H H1 d ks)(x:Ext H H2)(dd:H2 d=some (.dK (kvI ks))):RI next ok U st H H2 d ks:=⟨x,r.dn,dd,r.okk,r.bd,r.rc,r.nd⟩
theorem RI.up(r:RI next ok U st H H1 d ks)(x:Ext H1 H2):RI next ok U st H H2 d ks:=r.move (r.ext.trans x) (x.up r.dd)
theorem RI.put(r:RI next ok U st H H1 d ks)(hU:∀ x,ok x->x∈U){y:Int}{v:V}(ny:y∉ks.map (·.1))(oky:ok y)(rcy:Rc next st y)(dd:H2 d=some (.dK (kvI (ks++[(y,v)]))))(bb:But d H1 H2):RI next ok U st H H2 d (ks++[(y,v)]):=by
 refine⟨fun c u h=>bb.up (fun z=>by rw[z,r.dn]at h;cases h) (r.ext.up h),r.dn,dd,fun e he=>?_,?_,fun e he=>?_,?_⟩
 ·rcases Dp.mp he with he|he
  ·exact r.okk e he
  ·rw[Dj]at he;subst he;exact oky
 ·have:=dW ny U
  rw[if_pos (hU y oky)]at this
  have:=r.bd
  rw[Dl,Dn];show ks.length+1+mis U (ks.map (·.1)++[y])<=_
  lia
 ·rcases Dp.mp he with he|he
  ·exact r.rc e he
  ·rw[Dj]at he;subst he;exact rcy
 ·rw[Dn];refine List.nodup_append.mpr ⟨r.nd,Eu.mpr ⟨(fun z=>nomatch z),EK⟩,fun a ha b hb e=>?_⟩
  rw[Dk,EH,Dj]at hb;subst hb;subst e;exact ny ha
theorem RI.len(r:RI next ok U st H H1 d ks)(hU:U.length<=1000):ks.length<=1000:=by have:=r.bd;lia
end
structure StI where
 lb:V
 y:Int
 ap:Addr
noncomputable def sN (next:Int->List Int)(ok:Int->Prop)(H0:Hp):Sp:=fun vs H Q _=>∃ x:Int,vs=[.int x]/\Ext H0 H/\ok x ∧
 ∀ l H' (es:List StI),H l=none->H' l=some (.lst (es.map fun e=>V.ref e.ap))->(∀ e∈es,H' e.ap=some (.tup [e.lb,.int e.y]))->es.map (·.y)=next x->Ext H H'->Q (.ref l) H'
noncomputable def mC (P:Program)(w:World)(K:PySem.W.Frag)(mg:Str->Option Value)(base:Heap)(kk:Nat)(pn:Str):Sp:=fun vs H Q _=>∃(c f:Addr)(fd:FuncData)(o:Obj)(next:Int->List Int)(ok:Int->Prop)(U:List Int)(xs:List Int),vs=[.ref c,.ref f]/\RdL H c (xs.map V.int)/\(∀ x∈xs,ok x) ∧
 H f=some (.frz o (.own f))/\o.data=.func fd/\ar P w K mg base CX0 kk f fd [pn] (sN next ok H)/\Binds K fd [pn] []/\(∀ x,ok x->∀ y∈next x,ok y)/\(∀ x,ok x->x∈U)/\U.length<=1000 ∧
 ∀ d H' ks,RI next ok U xs H H' d ks->(∀ x,x∈ks.map (·.1)↔Rc next xs x)->Q (.ref d) H'
noncomputable abbrev nRe:List Str:=["starts","steps_from","came_by","place","front","reached","label","after"]
theorem oN:ba nRe ["starts","steps_from"] (aq gH):=⟨rfl,rfl,rfl,by decide +kernel,rfl,by decide +kernel,by decide +kernel⟩
section
variable {P:Program}{w:World}{K:PySem.W.Frag}{mg:Str->Option Value}{base:Heap}
theorem uJ{kk:Nat}{pn:Str}(F:Fun K "reach" "reach" gH f fd) (hli:mg "list" = none):ar P w K mg base CX0 (kk+1) f fd ["starts","steps_from"] (mC P w K mg base kk pn):=by
 refine F.ok oN (fun vs H Q E h=>?_) (fun cdv A outer s H vs Q E1 hr h=>?_)
 ·obtain⟨c,g,fd,o,next,ok,U,xs,rfl,_⟩:=h;rfl
 ·obtain⟨c,g,fd,o,next,ok,U,xs,rfl,hc,hq,hg,ho,FF,BB,hnx,hU,hUl,k⟩:=h;have hu:=hr.units;refine⟨_,ae (av nRe 2 mG)
   (ae (bC PassesOwn.never rfl (bu (q_v 0)) (q_g nRe 3) (ah (mS hu (q_v 2) (q_v 3) gN)))
   (ae (av nRe 4 (q_t (BN rfl) hli (aa (q_v 2) ab)))
   (ae (gA PassesOwn.never (pG (q_v 4))
    (ae (av nRe 5 (bf ab))
    (ae (bC PassesOwn.never rfl (bu (q_v 4)) (q_g nRe 3)
     (ah (bC PassesOwn.never rfl (bu (uc (q_v 1) FF BB ho hr (aa (q_v 3) ab))) (eI rfl (bj (q_g nRe 6) (bj (q_g nRe 7) dN)))
      (ah (cc (aR (oU hu) (q_v 7) (q_v 2))
       (ae (mS hu (q_v 2) (q_v 7) (dj (aa (q_v 3) (aa (q_v 6) ab))))
       (ah (bw (cT (q_v 5) (q_v 7))))) bY)))))
    (ah (av nRe 4 (q_v 5))))))
   (ah (bz (q_v 2)))))),?_⟩
  have z1:∀{n:Nat},n<=1000->n<=sizeLine:=fun h=>by rw[DV];lia
  have z2:∀{n:Nat},n<=1000->n<sizeLine:=fun h=>by rw[DV];lia
  have kl:∀ ks:List (Int×V),(kvI ks).length=ks.length:=fun ks=>by unfold kvI;rw[Dd]
  refine fun d H1 hd h1 e1=>?_
  refine⟨_,e1.rd hc,bZ (xs:=xs.map V.int) (fun i σ H2=>∃(v3:Option V) (ks:List (Int×V)),σ=[some (.ref c),some (.ref g),some (.ref d),v3,none,none,none,none]/\RI next ok U xs H H2 d ks/\(∀ e∈ks,e.2=.non)/\∀ x∈xs.take i,x∈ks.map (·.1))
   ⟨_,[],rfl,⟨e1,hd,h1,(fun e he=>nomatch he),?_,(fun e he=>nomatch he),EK⟩,(fun e he=>nomatch he),fun x hx=>nomatch hx⟩ (fun i σ H2 _ hp=>?_) ?_ ?_⟩
  ·show 0+mis U []<=U.length
   rw[Nat.zero_add];exact Fb
  ·obtain⟨_,_,_,r,_⟩:=hp;exact r.ext.rd hc
  ·rintro i x σ H2 hx ⟨v3,ks,rfl,r,hv,hj⟩;rw[Dq,Dy]at hx;obtain⟨x,hp,rfl⟩:=hx;have hpm:=Dw hp;refine⟨_,r.dd,z2 (by rw[kl];exact r.len hUl),_,rfl,fun H4 h4 b4=>?_⟩
   have tk:∀ ks':List (Int×V),(∀ y∈ks.map (·.1),y∈ks'.map (·.1))->x∈ks'.map (·.1)->∀ y∈xs.take (i+1),y∈ks'.map (·.1):=fun ks' h1 h2 y hy=>by
    rw[EI,hp]at hy;rcases Dp.mp hy with hy|hy
    ·exact h1 y (hj y hy)
    ·rw[Dj.mp hy];exact h2
   by_cases hin:x∈ks.map (·.1)
   ·rw[zB hin hv]at h4;exact⟨_,ks,rfl,r.move (fun b u h=>b4.up (fun z=>by rw[z,hd]at h;cases h) (r.ext.up h)) h4,hv,tk ks (fun _ h=>h) hin⟩
   ·rw[oz hin]at h4;refine⟨_,_,rfl,r.put hU hin (hq x hpm) (.base hpm) h4 b4,fun e he=>?_,tk _ (fun y hy=>?_) ?_⟩
    ·rcases Dp.mp he with he|he
     ·exact hv e he
     ·rw[Dj]at he;subst he;rfl
    ·rw[Dn];exact Ft _ hy
    ·rw[Dn];exact Ek _ (Dj.mpr rfl)
  ·rintro σ H2 ⟨v3,ks0,rfl,r0,hv,hj⟩;have hs0:∀ x∈xs,x∈ks0.map (·.1):=fun x hx=>hj x (by rw[Dd,Fy];exact hx)
   refine⟨_,r0.dd,fun l0 H3 hl0 h3 e3=>?_⟩
   have h3:H3 l0=some (.lst ((ks0.map (·.1)).map V.int)):=by
    rw[h3,jV,Du];rfl
   have none_of:∀{H1:Hp} {a:Addr},Ext H H1->H1 a=none->H a=none:=fun {H1 a} e h=>by
    cases q:H a with
    | none=>rfl
    | some u=>rw[e.up q]at h;cases h
   refine⟨(fun m σ H4=>∃(v3 v5 v6 v7:Option V) (l:Addr) (ks:List (Int×V)) (fr:List Int),σ=[some (.ref c),some (.ref g),some (.ref d),v3,some (.ref l),v5,v6,v7]/\RI next ok U xs H H4 d ks/\H l=none/\H4 l=some (.lst (fr.map V.int)) ∧
     (∀ x∈fr,ok x/\x∈ks.map (·.1))/\(∀ x∈xs,x∈ks.map (·.1))/\(∀ x∈ks.map (·.1),x∉fr->∀ y∈next x,y∈ks.map (·.1))/\m=2*mis U (ks.map (·.1))+(if fr=[] then 0 else 1)),
    ⟨_,_,_,_,_,l0,ks0,_,rfl,r0.up e3,none_of r0.ext hl0,h3,?_,hs0,fun x hx hn=>absurd hx hn,rfl⟩,?_⟩
   ·intro x hx;obtain⟨e,he,rfl⟩:=Dg.mp hx;exact⟨r0.okk e he,hx⟩
   ·rintro m σ H4 ⟨v3,v5,v6,v7,l,ks,fr,rfl,r,hl,h4,hfr,hst,hcl,rfl⟩;refine⟨_,.inl h4,aV (fun hA=>?_) (fun hA=>?_)⟩
    ·have hne:fr≠[]:=fun z=>by
      subst z;exact DQ hA
     rw[if_neg hne];refine⟨_,fun _ _ z=>z,?_⟩
     refine⟨z1 (by show 0<=1000;decide),fun l2 H5 hl2 h5 e5=>?_⟩
     have hl2n:H l2=none:=none_of r.ext hl2;have nl:l≠l2:=aB h4 hl2;refine⟨_,.inl (e5.up h4),bZ (xs:=fr.map V.int) (fun i σ H6=>∃(v3 v6 v7:Option V) (ks':List (Int×V)) (re:List Int),σ=[some (.ref c),some (.ref g),some (.ref d),v3,some (.ref l),some (.ref l2),v6,v7]/\RI next ok U xs H H6 d ks'/\H6 l=some (.lst (fr.map V.int)) ∧
       H6 l2=some (.lst (re.map V.int))/\(∀ x∈re,ok x/\x∈ks'.map (·.1))/\(∀ x∈ks.map (·.1),x∈ks'.map (·.1))/\re.length+mis U (ks'.map (·.1))<=mis U (ks.map (·.1)) ∧
       (∀ x∈ks'.map (·.1),x∉re->x∉fr.drop i->∀ y∈next x,y∈ks'.map (·.1)))
      ⟨_,_,_,ks,[],rfl,r.up e5,e5.up h4,h5,(fun p hp=>nomatch hp),fun x h=>h,by show 0+_<=_;lia,fun x hx _ hn=>hcl x hx hn⟩ (fun i σ H6 _ hp=>?_) ?_ ?_⟩
     ·obtain⟨_,_,_,_,_,_,_,h6,_⟩:=hp;exact .inl h6
     ·rintro i x σ H6 hx ⟨w3,w6,w7,ks',re,rfl,r6,h6,h6l,hre,hsub,hms,hcl6⟩;rw[Dq,Dy]at hx;obtain⟨p,hp,rfl⟩:=hx;have hpm:=Dw hp;obtain⟨okp,hpe⟩:=hfr p hpm;have rcp:Rc next xs p:=by
       obtain⟨e,he,ee⟩:=Dg.mp hpe;exact ee▸r.rc e he
      have hpe':=hsub _ hpe;refine⟨rfl,r6.ext.up hg,r6.ext.up hg,p,rfl,r6.ext,okp,fun l3 H7 ss hl3 h7 s7 n7 e7=>?_⟩
      have nl3:l3≠l2:=(aB h6l hl3).symm;have hstn:∀ e∈ss,e.y∈next p:=fun e he=>n7▸DU he
      refine⟨_,.inl h7,bZ (xs:=ss.map fun e=>V.ref e.ap) (fun j σ H8=>∃(v6 v7:Option V) (ks2:List (Int×V)) (re2:List Int),σ=[some (.ref c),some (.ref g),some (.ref d),some (.int p),some (.ref l),some (.ref l2),v6,v7]/\RI next ok U xs H H8 d ks2/\H8 l=some (.lst (fr.map V.int)) ∧
        H8 l2=some (.lst (re2.map V.int))/\H8 l3=some (.lst (ss.map fun e=>V.ref e.ap))/\aM H7 H8/\(∀ x∈re2,ok x/\x∈ks2.map (·.1))/\(∀ x∈ks'.map (·.1),x∈ks2.map (·.1))/\re2.length+mis U (ks2.map (·.1))<=mis U (ks.map (·.1)) ∧
        (∀ x∈ks2.map (·.1),x∉re2->x∉fr.drop i->∀ y∈next x,y∈ks2.map (·.1))/\(∀ e∈ss.take j,e.y∈ks2.map (·.1)))
       ⟨_,_,ks',re,rfl,r6.up e7,e7.up h6,e7.up h6l,h7,fun _ _ h=>h,hre,fun x h=>h,hms,hcl6,fun e he=>nomatch he⟩ (fun j σ H8 _ hp=>?_) ?_ ?_⟩
      ·obtain⟨_,_,_,_,_,_,_,_,h8,_⟩:=hp;exact .inl h8
      ·rintro j x σ H8 hx ⟨u6,u7,ks2,re2,rfl,r8,h8,h8l,h83,t8,hre2,hsub2,hms2,hcl8,hj8⟩;rw[Dq,Dy]at hx;obtain⟨e,he,rfl⟩:=hx;have hem:=Dw he;have s2:=t8 _ _ (s7 e hem);have oke:=hnx _ okp _ (hstn e hem);have tk:∀ ks3:List (Int×V),(∀ y∈ks2.map (·.1),y∈ks3.map (·.1))->e.y∈ks3.map (·.1)->∀ e'∈ss.take (j+1),e'.y∈ks3.map (·.1):=fun ks3 h1 h2 e' he'=>by
        rw[EI,he]at he';rcases Dp.mp he' with he'|he'
        ·exact h1 _ (hj8 e' he')
        ·rw[Dj.mp he'];exact h2
       refine⟨_,.inl s2,rfl,?_⟩;refine⟨_,.inl r8.dd,_,rfl,aV (fun hB=>?_) (fun hB=>?_)⟩
       ·have hB:e.y∉ks2.map (·.1):=by
         have hB:(!(aJ (kvI ks2) (Sum.inl e.y)).isSome)=true:=hB;rw[tG]at hB;simpa using hB
        refine⟨z1 (by show 2<=1000;decide),fun t H9 ht h9 e9=>?_⟩
        have r9:=r8.up e9;refine⟨_,r9.dd,z2 (by rw[kl];exact r9.len hUl),_,rfl,fun H10 h10 b10=>?_⟩
        rw[oz hB]at h10;have r10:=r9.put hU hB oke (.step rcp (hstn e hem)) h10 b10;have nd:∀{b:Addr} {ys:List V},H9 b=some (.lst ys)->b≠d:=fun hb=>bo hb r9.dd fun w=>nomatch w
        have h10l:H10 l2=some (.lst (re2.map V.int)):=b10.up (nd (e9.up h8l)) (e9.up h8l);have rl:re2.length<=1000:=by
         have:mis U (ks.map (·.1))<=U.length:=Fb
         lia
        refine⟨_,.inl h10l,_,h10l,by rw[Dd];exact z2 rl,fun H11 h11 b11=>?_⟩
        have t9:aM H8 H10:=aM.trans (Ext.tup e9) (dS b10 r9.dd fun xs z=>nomatch z)
        have t11:aM H10 H11:=dS b11 h10l fun xs z=>nomatch z
        have nd2:d≠l2:=bo r10.dd h10l fun w=>nomatch w
        have ex:∀ x:Int,x∈(ks2++[(e.y,V.ref t)]).map (·.1)↔x∈ks2.map (·.1)\/x=e.y:=fun x=>by
         rw[Dn,Dp];exact or_congr Iff.rfl Dj
        refine⟨_,_,ks2++[(e.y,V.ref t)],re2++[e.y],rfl,r10.move (fun b u h=>b11.up (fun z=>by rw[z,hl2n]at h;cases h) (r10.ext.up h)) (b11.up nd2 r10.dd),b11.up nl (b10.up (nd (e9.up h8)) (e9.up h8)),?_,b11.up nl3 (b10.up (nd (e9.up h83)) (e9.up h83)),aM.trans t8 (aM.trans t9 t11),?_,?_,?_,?_,tk _ (fun y hy=>(ex y).mpr (.inl hy)) ((ex _).mpr (.inr rfl))⟩
        ·rw[h11,Dn];rfl
        ·intro p' hp';rcases Dp.mp hp' with hp'|hp'
         ·obtain⟨a2,a3⟩:=hre2 p' hp';exact⟨a2,(ex _).mpr (.inl a3)⟩
         ·rw[Dj]at hp';subst hp';exact⟨oke,(ex _).mpr (.inr rfl)⟩
        ·exact fun x hx=>(ex x).mpr (.inl (hsub2 x hx))
        ·have:=dW hB U
         rw[if_pos (hU _ oke)]at this;rw[Dl,Dn];show re2.length+1+mis U (ks2.map (·.1)++[e.y])<=_
         lia
        ·intro x hx h1 h2 y hy;rw[Dp]at h1
         rcases(ex x).mp hx with hx|hx
         ·exact(ex y).mpr (.inl (hcl8 x hx (fun z=>h1 (.inl z)) h2 y hy))
         ·exact absurd (.inr (Dj.mpr hx)) h1
       ·have hB:e.y∈ks2.map (·.1):=by
         have hB:¬ (!(aJ (kvI ks2) (Sum.inl e.y)).isSome)=true:=hB;rw[tG]at hB;simpa using hB
        exact⟨_,_,ks2,re2,rfl,r8,h8,h8l,h83,t8,hre2,hsub2,hms2,hcl8,tk ks2 (fun _ h=>h) hB⟩
      ·rintro σ H8 ⟨u6,u7,ks2,re2,rfl,r8,h8,h8l,h83,t8,hre2,hsub2,hms2,hcl8,hj8⟩;refine⟨_,_,_,ks2,re2,rfl,r8,h8,h8l,hre2,fun x hx=>hsub2 _ (hsub x hx),hms2,fun x hx h1 h2 y hy=>?_⟩
       by_cases q:x=p
       ·subst q;rw[<-n7]at hy;obtain⟨e,he,rfl⟩:=Dg.mp hy;exact hj8 e (by rw[Dd,Fy];exact he)
       ·refine hcl8 x hx h1 (fun z=>h2 ?_) y hy
        obtain⟨hil,hie⟩:=DI.mp hp;rw[Er hil,hie]at z;rcases DG.mp z with z|z
        ·exact absurd z q
        ·exact z
     ·rintro σ H6 ⟨w3,w6,w7,ks',re,rfl,r6,h6,h6l,hre,hsub,hms,hcl6⟩;refine⟨_,?_,_,_,_,_,l2,ks',re,rfl,r6,hl2n,h6l,hre,fun x hx=>hsub _ (hst x hx),fun x hx h1=>hcl6 x hx h1 (by rw[Dd,List.drop_length];exact fun z=>nomatch z),rfl⟩
      cases re with
      | nil=>
       rw[if_pos rfl];simp only[E8]at hms;lia
      | cons p re=>
       rw[if_neg (by simp)]
       rw[DR]at hms;lia
    ·have hnil:fr=[]:=by
      cases fr with
      | nil=>rfl
      | cons p r=>exact absurd rfl hA
     subst hnil;refine k d H4 ks r fun x=>⟨fun hx=>?_,fun hx=>um hst (fun x hx=>hcl x hx (fun z=>nomatch z)) hx⟩
     obtain⟨e,he,rfl⟩:=Dg.mp hx;exact r.rc e he
end
end K
end
section
namespace SB
open PySem PySem.Spec PyProof.Rows L2
open PySem.W (CodeHd tabObj kla_obj kla_fn envX)
theorem yT{M:Model}{globals:Addr}{cl:List (Str×Addr)}{func:Option Addr}{code:Value}{builtins:Addr}{Q:Env->Shared->Prop}(hk:scope.kind=.function)(hx:scope.names.lookup x=some .cell)(hc:∀ n acc,cellsFrom n scope.names acc=(x,n)::acc)(h:∀ h',h'.Ns s.heap.objs.size (fun _=>none)->h'.IsCell (s.heap.objs.size+1) (some v)->(∀ b o,s.heap.get? b=some o->h'.get? b=some o)->Q (newEnv scope s.heap.objs.size globals ((x,s.heap.objs.size+1)::cl) qual func code none builtins) { s with heap:=h' }) :
  wpAny M A (newFunctionEnv scope globals cl [(x,v)] qual func code none builtins) Q E s:=by
 unfold newFunctionEnv;simp only[Option.isSome_none,Dx,if_false];refine De (wpAny_alloc ?_);refine De (wpAny_layCells _ (fun a k cs=>by cases e:k==NameKind.cell <;> simp [e]) _ cl _ _ ?_)
 have sz:(s.heap.push { cls:=.type "frame",data:=.dict #[] }).objs.size=s.heap.objs.size+1:=E6 ..
 have ok:=cellsFrom_ok scope.names (s.heap.push { cls:=.type "frame",data:=.dict #[] }) (s.heap.objs.size+1) [] ⟨fun _ _ hm=>(nomatch hm),List.Pairwise.nil⟩ (by rw[sz];exact Di _)
 rw[sz,hc]at ok;have at0:=(ok.empty x _ (Dm ..)).1;show wpAny M A _ _ _ { s with heap:=pushCells (s.heap.push { cls:=.type "frame",data:=.dict #[] }) scope.names }
 rw[show({ s with heap:=s.heap.push { cls:=.type "frame",data:=.dict #[] } }:Shared).heap.objs.size=s.heap.objs.size+1 from sz,hc]
 rw[List.forIn_cons];refine De (De (De (wpAny_storeName_cell (c:=s.heap.objs.size+1) (v₀:=none) hk hx (by rw[EY,beq_self_eq_true]) at0 fun h' c' sb=>Df ?_)))
 dsimp only;rw[List.forIn_nil];refine Df (Df ?_);have kp:∀ b o,s.heap.get? b=some o->h'.get? b=some o:=fun b o e=>sb.extBut b o (DO (Nat.lt_succ_of_lt (Dz e))) (pushCells_keeps _ _ b o (Dh _ e))
 exact h h' (((Heap.Ns.new s.heap (.type "frame")).keeps (pushCells_keeps _ _)).sameBut sb (DO (Fw _))) c' kp
structure mQ (x:Str)(Nf:List Str)(sc:Scope):Prop where
 kind:sc.kind=.function
 co:sc.isCoroutine=false
 gen:sc.isGenerator=false
 par:sc.names.lookup x=some .cell
 only:∀ y∈sc.names,y.2=.cell->y.1=x
 cells:∀ n acc,cellsFrom n sc.names acc=(x,n)::acc
section
variable {P:Program}{w:World}{K:PySem.W.Frag}{mg:Str->Option Value}{base:Heap}{x:Str}{Nf:List Str}{qual:Str}{scope:Scope}{f:Addr}{cd:Value}{cl:List (Str×Addr)}{A:Around}{outer:List Env}{s:Shared}{H:Hp}{u:Value}{v:V}{fvs:List V}
theorem CH(S:mQ x Nf scope)(C:eD base cl scope Nf fvs)(hd:A.handled=none)(e0:dF P w K mg base A outer s H)(hfl:fvs.length=Nf.length)(r:RelV v u){tk:Nat}(hn:h'.Ns s.heap.objs.size (fun _=>none))(hcl:h'.IsCell (s.heap.objs.size+1) (some u))(hk:∀ b o,s.heap.get? b=some o->h'.get? b=some o) :
  Inv (fj P w K mg base (x::Nf) qual scope f cd ((x,s.heap.objs.size+1)::cl) A outer s H) [] (some v::fvs.map some) H { s with heap:=h',toks:=tk }:=by
 have noA:∀ b:Addr,b∉(fj P w K mg base (x::Nf) qual scope f cd ((x,s.heap.objs.size+1)::cl) A outer s H).ex:=fun b z=>absurd (show b∈([]:List Addr) from z) (by simp)
 have up:∀{c:Addr} {v:Option Value},base.IsCell c v->h'.IsCell c v:=fun⟨o,ho,hd⟩=>⟨o,hk _ _ (e0.bs _ _ ho).1,hd⟩
 have old:∀{y:Str} {c:Addr},cl.lookup y=some c->c<s.heap.objs.size:=fun {y c} h=>by
  obtain⟨v,o,ho,_⟩:=C.cell y c h;exact Dz (e0.bs _ _ ho).1
 have at_:∀{y:Str} {c:Addr},((x,s.heap.objs.size+1)::cl).lookup y=some c->(y=x/\c=s.heap.objs.size+1)\/(y≠x/\cl.lookup y=some c):=fun {y c} h=>by
  rw[EY]at h;cases e:y==x with
  | true=>rw[e]at h;cases h;exact .inl ⟨beq_iff_eq.mp e,rfl⟩
  | false=>rw[e]at h;exact .inr ⟨(fun z=>by rw[z,beq_self_eq_true]at e;cases e),h⟩
 have new_:((x,s.heap.objs.size+1)::cl).lookup x=some (s.heap.objs.size+1):=by rw[EY,beq_self_eq_true]
 have old_:∀{y:Str} {c:Addr},y≠x->cl.lookup y=some c->((x,s.heap.objs.size+1)::cl).lookup y=some c:=fun {y c} n h=>by
  rw[EY];cases e:y==x with
  | true=>exact absurd (beq_iff_eq.mp e) n
  | false=>exact h
 have nx:∀{y:Str},scope.names.lookup y=some .free->y≠x:=fun {y} h z=>by
  rw[z,S.par]at h;cases h
 refine⟨⟨e0.mod,S.kind,rfl,rfl,Di _,fun y z c h1 h2=>?_,fun y hy=>?_,fun y c h _=>(by cases h),fun _=>hd,Around.frames_deeper e0.frames,.inr ⟨rfl,rfl⟩,fun b z=>absurd z (noA b),e0.bs,e0.bsz,fun b _ _=>noA b,fun b z=>absurd z (noA b),e0.cm,e0.frf⟩,
  rfl,e0.bare,Un.kept hk,⟨_,hn,fun i y v' h1 h2 h3=>?_⟩,fun y c h=>?_,e0.hok.fresh (Di _),fun y c h=>?_,fun p hp=>absurd (show p∈([]:List (Addr×Obj)) from hp) (by simp),e0.hok.kept hk,?_⟩
 ·rcases at_ h1 with⟨e1,d1⟩|⟨n1,k1⟩
  ·rcases at_ h2 with⟨e2,d2⟩|⟨n2,k2⟩
   ·exact e1.trans e2.symm
   ·exact absurd (d1▸old k2) (Nat.not_lt.mpr (Nat.le_succ _))
  ·rcases at_ h2 with⟨e2,d2⟩|⟨n2,k2⟩
   ·exact absurd (d2▸old k1) (Nat.not_lt.mpr (Nat.le_succ _))
   ·exact C.inj y z c k1 k2
 ·have hy:scope.names.lookup y=some .cell\/scope.names.lookup y=some .free:=hy;rcases hy with hy|hy
  ·have:=S.only (y,.cell) (PySem.mem_of_lookup hy) rfl
   have:y=x:=this
   subst this;exact⟨_,new_⟩
  ·obtain⟨c,hc⟩:=C.has y hy;exact⟨c,old_ (nx hy) hc⟩
 ·have h1:(x::Nf)[i]? =some y:=h1;have h2:(some v::fvs.map some)[i]? =some (some v'):=h2;cases i with
  | zero=>
   cases h1
   cases h2
   exact⟨u,r,.inr ⟨.inl S.par,_,new_,hcl⟩⟩
  | succ i=>
   rw[List.getElem?_cons_succ]at h1 h2;rw[Dq,Dy]at h2;obtain⟨v'',hv,e⟩:=h2;cases e
   obtain⟨hf,u',c,rv,hc,z⟩:=C.val _ y v' h1 hv;exact⟨u',rv,.inr ⟨.inr hf,c,old_ (nx hf) hc,up z⟩⟩
 ·rcases at_ h with⟨rfl,rfl⟩|⟨_,h⟩
  ·exact⟨_,hcl⟩
  ·obtain⟨v,z⟩:=C.cell y c h;exact⟨v,up z⟩
 ·rcases at_ h with⟨rfl,rfl⟩|⟨_,h⟩
  ·exact e0.hok.fresh (Nat.le_succ _)
  ·obtain⟨v,o,ho,_⟩:=C.cell y c h
   exact(e0.bs _ _ ho).2
 ·show(some v::fvs.map some).length=(x::Nf).length
  rw[DR,DR,Dd,hfl]
theorem Aj{k:Nat}{params:Arguments}{body:Expr}{ctv:Value}{c':Addr}{oc:Obj}{sp:Sp}(S:mQ x Nf scope)(C:eD base cl scope Nf fvs)(hfl:fvs.length=Nf.length)(co:fI oc qual)(len:∀ vs H Q E,sp vs H Q E->vs.length=1)(hob:∀ vs H Q E,sp vs H Q E->H f=some (.frz (kla_obj "<lambda>" qual params body scope cl pm c' ctv) (.own f))/\H c'=some (.frz oc (.own c'))) (hbody:∀(A:Around) (outer:List Env) (s:Shared) (H:Hp) (v:V) (Q:VK) (E:XK),aA k (A.deeper (envX qual scope s.heap.objs.size f (.ref c') ((x,s.heap.objs.size+1)::cl)))->sp [v] H Q E →
   ∃ t,PE (fj P w K mg base (x::Nf) qual scope f (.ref c') ((x,s.heap.objs.size+1)::cl) A outer s H) body t/\t (some v::fvs.map some) H Q) :
  ar P w K mg base CX0 (k+1) f (kla_fn "<lambda>" qual params body scope cl pm (.ref c') ctv) [x] sp:=by
 refine⟨len,fun A outer s H args us vs Q E hr e0 hb r hsp=>?_⟩
 have hl:=len _ _ _ _ hsp;obtain⟨hf,hc⟩:=hob _ _ _ _ hsp;have lim:s.heap.NoLimit:=e0.mod.nolimit.keeps fun b o e=>(e0.bs b o e).1
 obtain⟨gf,_⟩:=e0.hok f _ hf;obtain⟨gc,_⟩:=e0.hok c' _ hc;obtain⟨vs',t',hd',hv'⟩:=co;obtain⟨v,rfl⟩:=List.length_eq_one_iff.mp hl;obtain⟨u,rfl,r1⟩:=vals1 r;refine PySem.W.kla_callFunE hr.depth gf rfl S.co S.gen rfl ⟨c',oc,vs',t',rfl,gc,hd',hv'⟩ (hb _ _ _ _ ?_);refine yT S.kind S.par S.cells fun h₁ hns hcl hk₁=>⟨lim.keeps hk₁,?_⟩
 show codeAny _ _ (.expr body (envX qual scope s.heap.objs.size f (.ref c') ((x,s.heap.objs.size+1)::cl))) _ _
 obtain⟨t,ht,hq⟩:=hbody A outer s H v Q E (hr.deeper _) hsp;have I:=CH (qual:=qual) (f:=f) (cd:=.ref c') (cl:=cl) (tk:=s.toks) S C hr.hd e0 hfl r1 hns hcl hk₁;refine PySem.W.kla_codeExpr (EA (ht [] _ _ H _ I hq) (fun v s' hs=>?_) fun e s' hs=>hs.elim)
 obtain⟨v',H',J,rv,q⟩:=hs;exact⟨v',H',J.os,J.bare,J.base,J.hok,rv,q⟩
end
end SB
end
section
namespace SB
open PySem PySem.Spec PyProof.Rows L2
open PySem.W (CodeHd tabObj kla_obj kla_fn)
structure ak (T:Addr)(H H':Hp):Prop where
 toT:cP H H'
 ot:∀{b u},b≠T->H b=some u->H' b=some u
theorem ak.trans(a:ak T H H1)(b:ak T H1 H2):ak T H H2:=⟨a.toT.trans b.toT,fun n h=>b.ot n (a.ot n h)⟩
theorem ak.up(a:ak T H H'){u:HO}(h:H b=some u)(n:∀ ps,u≠.tbl ps):H' b=some u:=a.toT.up h n
theorem ak.none(a:ak T H H1)(h:H1 b=.none):H b=.none:=a.toT.none h
theorem Ext.toP(a:Ext H H1):ak T H H1:=⟨Ext.toT a,fun _ h=>Ext.up a h⟩
theorem TabAt.keep{T':Addr}(t:TabAt pos qual T' H)(a:ak T H H1)(n:T'≠T):TabAt pos qual T' H1:=by
 rcases t with t|⟨c',oc,h1,h2,h3⟩
 ·exact .inl (a.ot n t)
 ·exact .inr ⟨c',oc,a.ot n h1,a.up h2 (fun ps z=>nomatch z),h3⟩
noncomputable def yS (pos:Pos)(qual:Str)(params:Arguments)(body:Expr)(scope:Scope)(clos:List (Str×Addr))(pm:Value)(P:Addr):TE:=fun _ H Q=>TabAt pos qual P H ∧
 ∀ f c' ctv oc H',H f=none->ak P H H'->TabAt pos qual P H'->H' f=some (.frz (kla_obj "<lambda>" qual params body scope clos pm c' ctv) (.own f))->H' c'=some (.frz oc (.own c'))->fI oc qual->Q (.ref f) H'
section
variable {X:Cx}{pins:List (Addr×Obj)}{σ:L2.St}{H:Hp}{s:Shared}
theorem ph{P:Addr}(I:Inv X pins σ H s)(L:cK X.mg X.base c P){o:HO}(hP:H P=some o):s.heap.BuiltinsAt X.mg P:=by
 obtain⟨bm,o,a,b,d,e,r⟩:=L.bm;refine⟨bm,o,a,b,d,?_,I.bk _ _ e,r⟩;rintro rfl;rw[(I.bs _ _ e).2]at hP;cases hP
theorem o5{params:Arguments}{body:Expr}{P:Addr}(hcd:X.env.code=.ref c)(L:cK X.mg X.base c P)(hfr:∀ n k,(n,k)∈scope.names->k=.free->X.env.kindOf n=some .cell\/X.env.kindOf n=some .free)(hdef:defaultsOf params X.env=([],[])):PE X (.Lambda params body scope pos) (yS pos (X.env.qual++"<lambda>") params body scope (aQ X.env scope.names []) ((X.mg "__name__").getD .none) P):=by
 intro pins s σ H Q I h;obtain⟨T,k⟩:=h;have hcl:closureFor scope X.env=pure (aQ X.env scope.names []):=nR fun n kk hm e=>I.ok.has n (hfr n kk hm e)
 have hgs:s.heap.Ns mainGlobals X.mg:=I.ok.mod.glob.keeps I.bk;have hgn:H mainGlobals=none:=by
  obtain⟨o,es,ep,e,_⟩:=I.ok.mod.glob
  exact(I.bs _ _ e).2
 refine PySem.W.kla_eval hdef ?_;rcases T with T|⟨c',oc,T,hc',co⟩
 ·have hP:s.heap.get? P=some (tabObj #[]):=I.hok P _ T;refine PySem.W.kla_makeFunction (c:=c) (P:=P) (ps:=#[]) (mg:=X.mg) hcl I.ok.glob hgs hcd (L.hd.keeps I.bk) hP trivial rfl (fun z=>by rw[z,T]at hgn;cases hgn) (ph I L T) fun c' ctv h' tk hx hge hlt hrec htb=>?_
  obtain⟨c2,oc,vs,t,e2,hoc,hd,hv⟩:=hrec;cases e2
  generalize hf:h'.objs.size=f at *;have hcn:H c'=none:=I.hok.fresh hge;have hszf:s.heap.objs.size<=f:=Ea hge (Fe hlt);have hfn:H f=none:=I.hok.fresh hszf;have hPn:∀{b:Addr},H b=none->b≠P:=fun hb z=>by rw[z,T]at hb;cases hb
  have hcP:c'≠P:=hPn hcn;have hfP:f≠P:=hPn hfn;have hcf:c'≠f:=DO hlt;have old:∀ b o,b≠P->s.heap.get? b=some o->(h'.push (kla_obj "<lambda>" (X.env.qual++"<lambda>") params body scope (aQ X.env scope.names []) ((X.mg "__name__").getD .none) c' ctv)).get? b=some o:=fun b o hb e=>Dh _ (hx b o hb e)
  have gP:=Dh (kla_obj "<lambda>" (X.env.qual++"<lambda>") params body scope (aQ X.env scope.names []) ((X.mg "__name__").getD .none) c' ctv) htb
  have gC:=Dh (kla_obj "<lambda>" (X.env.qual++"<lambda>") params body scope (aQ X.env scope.names []) ((X.mg "__name__").getD .none) c' ctv) hoc
  have gF:(h'.push (kla_obj "<lambda>" (X.env.qual++"<lambda>") params body scope (aQ X.env scope.names []) ((X.mg "__name__").getD .none) c' ctv)).get? f=some (kla_obj "<lambda>" (X.env.qual++"<lambda>") params body scope (aQ X.env scope.names []) ((X.mg "__name__").getD .none) c' ctv):=by
   rw[<-hf];exact DE _ rfl
  generalize (h'.push (kla_obj "<lambda>" (X.env.qual++"<lambda>") params body scope (aQ X.env scope.names []) ((X.mg "__name__").getD .none) c' ctv))=h2 at *
  generalize hob:kla_obj "<lambda>" (X.env.qual++"<lambda>") params body scope (aQ X.env scope.names []) ((X.mg "__name__").getD .none) c' ctv=ob at *
  obtain⟨H2,hH2⟩:∃ H2,H2=upd (upd (upd H P (.tbl #[rawInt pos.line,rawInt pos.col,.ref c'])) c' (.frz oc (.own c'))) f (.frz ob (.own f)):=⟨_,rfl⟩;have aF:H2 f=some (.frz ob (.own f)):=by rw[hH2];exact aW
  have aC:H2 c'=some (.frz oc (.own c')):=by rw[hH2,ao hcf];exact aW
  have aP:H2 P=some (.tbl #[rawInt pos.line,rawInt pos.col,.ref c']):=by rw[hH2,ao hfP.symm,ao hcP.symm];exact aW
  have aO:∀ b,b≠f->b≠c'->b≠P->H2 b=H b:=fun b h1 h2 h3=>by rw[hH2,ao h1,ao h2,ao h3]
  have aS:∀ b u,H b=some u->b≠P->H2 b=some u:=fun b u e hb=>by rw[aO b (aB e hfn) (aB e hcn) hb];exact e
  have lt:∀{b:Addr} {o:Obj},s.heap.get? b=some o->b≠f/\b≠c':=fun e=>⟨DO (D6 (Dz e) hszf),DO (D6 (Dz e) hge)⟩
  have un:Un X.fs [] H H2 s.heap h2:=by
   refine⟨fun b o e n _ _=>old b o (hPn n) e,fun b o e n _ _=>⟨o.slots,old b o (hPn n) e⟩,fun b o e n _=>?_,fun b o e _=>?_,fun b xs e=>aS b _ e ?_,fun b o u e=>aS b _ e ?_,fun b ps e=>?_⟩
   ·rw[aO b (lt e).1 (lt e).2 (hPn n)];exact n
   ·by_cases z:b=P
    ·subst z;exact⟨_,gP⟩
    ·exact⟨o,old b o z e⟩
   ·intro z;rw[z,T]at e;cases e
   ·intro z;rw[z,T]at e;cases e
   ·by_cases z:b=P
    ·subst z;rw[T]at e;cases e
     exact⟨#[rawInt pos.line,rawInt pos.col,.ref c'],aP⟩
    ·exact⟨#[],by rw[aS b _ e z,Array.append_empty]⟩
  have hok:HOk X.prog X.w H2 h2:=fun b u e=>by
   by_cases z1:b=f
   ·subst z1;rw[aF]at e;cases e;exact⟨gF,_,gF⟩
   ·by_cases z2:b=c'
    ·subst z2;rw[aC]at e;cases e;exact⟨gC,_,gC⟩
    ·by_cases z3:b=P
     ·subst z3;rw[aP]at e;cases e;exact gP
     ·rw[aO b z1 z2 z3]at e;refine(I.hok b u e).dC (fun d v hd' q=>old d v ?_ q) (fun d q=>aS d _ q fun z=>by rw[z,T]at q;cases q) fun d xs q=>aS d _ q fun z=>by rw[z,T]at q;cases q
      rcases hd' with rfl|hd'
      ·exact z3
      ·rintro rfl;rw[T]at hd';cases hd'
  exact⟨V.ref f,H2,I.un un hok,rfl,k f c' ctv oc H2 hfn ⟨⟨fun {b u} e n=>aS b u e fun z=>by subst z;rw[T]at e;exact n _ (DL e).symm,fun {b ps} e=>by
    by_cases z:b=P
    ·subst z;exact⟨_,aP⟩
    ·exact⟨ps,aS b _ e z⟩⟩,fun {b u} hb e=>aS b u e hb⟩ (.inr ⟨c',oc,aP,aC,vs,t,hd,hv⟩) (hob▸aF) aC ⟨vs,t,hd,hv⟩⟩
 ·have hP:s.heap.get? P=some (tabObj #[rawInt pos.line,rawInt pos.col,.ref c']):=I.hok P _ T;refine PySem.W.kla_makeFunctionHit (c:=c) (P:=P) (ps:=#[rawInt pos.line,rawInt pos.col,.ref c']) (cv:=.ref c') (mg:=X.mg) hcl I.ok.glob hgs hcd (L.hd.keeps I.bk) hP ?_ ?_ (ph I L T) fun ctv h' tk hk hsz=>?_
  ·show True;trivial
  ·simp [codeAmong,rawInt]
  ·have I2:=I.laid (a:=h'.objs.size) (o:=.frz (kla_obj "<lambda>" (X.env.qual++"<lambda>") params body scope (aQ X.env scope.names []) ((X.mg "__name__").getD .none) c' ctv) (.own h'.objs.size)) (t':=tk)
    (h':=h'.push (kla_obj "<lambda>" (X.env.qual++"<lambda>") params body scope (aQ X.env scope.names []) ((X.mg "__name__").getD .none) c' ctv)) (fun b u e=>Dh _ (hk b u e)) hsz ⟨DE _ rfl,_,DE _ rfl⟩
   have hn:H h'.objs.size=none:=I.hok.fresh hsz;have x:Ext H (upd H h'.objs.size (.frz (kla_obj "<lambda>" (X.env.qual++"<lambda>") params body scope (aQ X.env scope.names []) ((X.mg "__name__").getD .none) c' ctv) (.own h'.objs.size))):=fun b u e=>by rw[ao (aB e hn)];exact e
   exact⟨V.ref _,_,I2,rfl,k _ c' ctv oc _ hn (Ext.toP x) (TabAt.ext (.inr ⟨c',oc,T,hc',co⟩) x) aW (x.up hc') co⟩
end
end SB
end
section
namespace SB
open PySem PySem.Spec PyProof.Rows L2
open PySem.W (CodeHd tabObj)
end SB
end
section
set_option maxHeartbeats 4000000
namespace K
open PySem PySem.Spec PyProof.Rows L2 SB
open PySem.W (CodeHd tabObj kla_obj kla_fn envX)
noncomputable abbrev aG:Stmt:=top 21
theorem yB{α β:Type}(f:α->Option β)(tv:β->List V){enc:α->V}{zs:List α}{J:It}{fr:List (Option Nat)}{g:TG}{Q:VK}(wk:Wk J H1 (zs.map enc))(hz:zs.length<sizeLine)(step:∀(i:Nat)(a:α)(H:Hp)(K:V->Hp->Prop)(S:Hp->Prop),zs[i]? =some a->Ext H1 H->(∀ b,f a=some b->New H (.tup (tv b)) K)->(f a=none->S H)->g (enc a) (frV fr σ) H fun σ' H3=>cR fr σ σ'/\tif σ' H3 fun b H4=>if b=true then te σ' H4 K else S H4)(fin:∀ D H' (qs:List (β×Addr)),H1 D=none->H' D=some (.lst (rfs qs))->(∀ q∈qs,H' q.2=some (.tup (tv q.1)))->qs.map (·.1)=zs.filterMap f->Ext H1 H'->Q (.ref D) H')(hg:mh g:=by intro x σ H Q Q' k q;exact k _ _ q):eZ fr σ g tif te J H1 Q:=by
 refine⟨?_⟩;intro D hD;refine⟨fun i m acc H=>m=zs.length-i/\i<=zs.length/\H D=some (.lst acc)/\Ext H1 H/\acc.length<=i/\∃ qs:List (β×Addr),acc=rfs qs/\(∀ q∈qs,H q.2=some (.tup (tv q.1)))/\qs.map (·.1)=(zs.take i).filterMap f,⟨zs.length,by simp,DZ _,aW,cU hD,Di _,[],rfl,(fun p hp=>nomatch hp),by simp⟩,?_⟩
 rintro i m acc H ⟨rfl,hi,hDa,ex,hl,qs,rfl,hat,hqs⟩;refine⟨hDa,by lia,?_⟩
 by_cases hlt:i<zs.length
 ·refine .inr ⟨wk.go i H ex (by rw[Dd];exact hlt),fun x H2 y=>?_⟩
  obtain⟨rfl,hx⟩:=wk.yld i H x H2 ex (by rw[Dd];exact hlt) y
  rw[Dq,Dy]at hx;obtain⟨a,ha,rfl⟩:=hx;have tk:(zs.take (i+1)).filterMap f=(zs.take i).filterMap f++(f a).toList:=by
   rw[EI,ha,List.filterMap_append];cases e:f a <;> simp [e]
  refine hg _ _ _ _ _ (fun σ' H3 q=>⟨q.1,?_⟩) (step i a _ (fun y H5=>H5 D=some (.lst (rfs qs))/\∃ m',m'<zs.length-i/\m'=zs.length-(i+1)/\i+1<=zs.length/\(upd H5 D (.lst (rfs qs++[y]))) D=some (.lst (rfs qs++[y]))/\Ext H1 (upd H5 D (.lst (rfs qs++[y])))/\(rfs qs++[y]).length<=i+1/\∃ qs':List (β×Addr),rfs qs++[y]=rfs qs'/\(∀ q∈qs',(upd H5 D (.lst (rfs qs++[y]))) q.2=some (.tup (tv q.1)))/\qs'.map (·.1)=(zs.take (i+1)).filterMap f)
   (fun H5=>∃ m',m'<zs.length-i/\m'=zs.length-(i+1)/\i+1<=zs.length/\H5 D=some (.lst (rfs qs))/\Ext H1 H5/\(rfs qs).length<=i+1/\∃ qs':List (β×Addr),rfs qs=rfs qs'/\(∀ q∈qs',H5 q.2=some (.tup (tv q.1)))/\qs'.map (·.1)=(zs.take (i+1)).filterMap f) ha ex (fun b hb p H5 hp h5 e5=>?_) (fun hn=>?_))
  ·exact q.2
  ·refine⟨e5.up hDa,_,(by lia:zs.length-(i+1)<zs.length-i),rfl,hlt,aW,fun b o hb=>?_,by rw[Dl];show _+1<=_;lia,qs++[(b,p)],?_,?_,?_⟩
   ·rw[ao (aB hb hD)];exact e5.up (ex.up hb)
   ·unfold rfs;rw[Dn];rfl
   ·intro z hz';have nd:∀{b:Addr} {ys:List V},H5 b=some (.tup ys)->b≠D:=fun hb=>bo hb (e5.up hDa) (fun w=>nomatch w)
    rcases Dp.mp hz' with h|h
    ·have:=e5.up (hat z h)
     rw[ao (nd this)];exact this
    ·rw[Dj]at h;subst h;rw[ao (nd h5)];exact h5
   ·rw[Dn,hqs,tk,hb];rfl
  ·exact⟨_,(by lia:zs.length-(i+1)<zs.length-i),rfl,hlt,hDa,ex,by lia,qs,rfl,hat,by rw[hqs,tk,hn];simp⟩
 ·have e:i=zs.length:=by lia
  subst e;refine .inl ⟨by have:=wk.stop H ex;rw[Dd]at this;exact this,fin D H qs hD hDa hat (by rw[hqs,Fy]) ex⟩
noncomputable def qj:List V->Hp->VK->Prop:=fun xs H Q=>match xs with
 | [.ref p]=>∃ ys,RdL H p ys/\New H (.tup ys) Q
 | _=>False
theorem uP:aD X (.type "tuple") qj:=aD.weak AH fun xs H Q h=>by
 unfold qj at h
 split at h
 ·obtain⟨ys,hy,q⟩:=h;exact⟨_,ys,rfl,.inl ⟨hy.sq,fun l hl=>q.at hl⟩⟩
 ·exact h.elim
noncomputable def jz (s:Stmt):Expr:=match cq s with
 | [_,.Assign _ (.Call _ [_,l] _ _) _,_]=>l
 | _=>.Name "" ⟨0,0,0,0⟩
noncomputable def sf (s:Stmt):Arguments:=match jz s with | .Lambda a _ _ _=>a|_=>cO (.Pass ⟨0,0,0,0⟩)
noncomputable def rA (s:Stmt):Expr:=match jz s with | .Lambda _ b _ _=>b|_=>.Name "" ⟨0,0,0,0⟩
noncomputable def eY (s:Stmt):Scope:=match jz s with | .Lambda _ _ c _=>c|_=>aq (.Pass ⟨0,0,0,0⟩)
noncomputable def bJ (s:Stmt):Pos:=match jz s with | .Lambda _ _ _ p=>p|_=>⟨0,0,0,0⟩
noncomputable abbrev lwQ:Str:=(("with_unseen":Str)++(".<locals>.":Str))++("<lambda>":Str)
noncomputable def gq (M:az):List Mv:=M.mv.filter fun m=>decide (aE M.sg m.2.1=none)
noncomputable def bO (M:az)(r:Int):List Int:=((gq M).filter fun m=>decide (m.1=r)).map fun m=>m.2.2
noncomputable def okI (n:Int)(r:Int):Prop:=0<=r/\r<n
noncomputable def UI (n:Int):List Int:=(List.range n.toNat).map fun(j:Nat)=>(j:Int)
theorem jy{n r:Int}(h:okI n r):r∈UI n:=by
 obtain⟨h1,h2⟩:=h;exact Dg.mpr ⟨r.toNat,Eh.mpr (by lia),by lia⟩
theorem pT{n:Int}{M:az}(hm:∀ m∈M.mv,bF n m){r:Int}:∀ y∈bO M r,okI n y:=fun y hy=>by
 obtain⟨m,hm',rfl⟩:=Dg.mp hy
 have:=hm m (Eb.mp (Eb.mp hm').1).1
 exact this.2.2
section
variable {P:Program}{w:World}{K:PySem.W.Frag}{mg:Str->Option Value}{base:Heap}
theorem y9:mQ "room" ["unseen"] (eY aG):=⟨rfl,rfl,rfl,by decide +kernel,by decide +kernel,fun _ _=>rfl⟩
noncomputable abbrev nLw:List Str:=["room","unseen"]
theorem z6{c':Addr}{oc:Obj}{cl:List (Str×Addr)}{ctv:Value}{H0:Hp}{M:az}{us:List (Mv×Addr)}{n:Int}(Cl:eD base cl (eY aG) ["unseen"] [.ref c]) (co:fI oc lwQ) (hf:H0 f=some (.frz (kla_obj "<lambda>" lwQ (sf aG) (rA aG) (eY aG) cl pm c' ctv) (.own f))) (hc':H0 c'=some (.frz oc (.own c'))) (hc:H0 c=some (.lst (refs us))) (ht:eP H0 us) (hus:us.map (·.1)=gq M) (hul:us.length<=100) :
  ar P w K mg base CX0 1 f (kla_fn "<lambda>" lwQ (sf aG) (rA aG) (eY aG) cl pm (.ref c') ctv) ["room"] (sN (bO M) (okI n) H0):=by
 refine Aj (k:=0) y9 Cl rfl co (fun vs H Q E h=>?_) (fun vs H Q E h=>?_) (fun A outer s H v Q E hr h=>?_)
 ·obtain⟨x,rfl,_⟩:=h;rfl
 ·obtain⟨x,rfl,ext,_⟩:=h;exact⟨ext.up hf,ext.up hc'⟩
 ·obtain⟨x,e,ext,okx,k⟩:=h;cases e
  refine⟨_,iZ nLw (eY aG) ["move","room"] [none,some 0] rfl (bu (q_v 1)) (fun _ _ _ _=>q_g ["move","room"] 0) (fun _ _ _ _=>aR du (bD ek (q_v 0) af (fun _ _=>rfl)) (q_v 1)) (fun _ _ _ _=>dj (aa (q_v 0) (aa (bD ek (q_v 0) af (fun _ _=>rfl)) ab))),?_⟩
  have z0:∀{n:Nat},n<=1000->n<sizeLine:=fun h=>by rw[DV];lia
  have z1:∀{n:Nat},n<=1000->n<=sizeLine:=fun h=>by rw[DV];lia
  refine⟨_,.inl (ext.up hc),yB (zs:=us) (enc:=fun p:Mv×Addr=>V.ref p.2) (fun p=>if p.1.1=x then some p else none) (fun p=>[V.ref p.2,V.int p.1.2.2]) (fu (.inl (ext.up hc))) (z0 (by lia)) (fun i p H1 Kk S hp ex kn ks=>?_) fun D H' qs hD hD' hq eq ex=>?_⟩
  ·have tp:=ex.up (ext.up (ht p (Dw hp)));refine⟨cE rfl,_,.inl tp,_,rfl,rfl,aV (fun hA=>?_) (fun hA=>?_)⟩
   ·have hA:decide (V.int p.1.1=V.int x)=true:=hA;have e:p.1.1=x:=by have:=DX hA;injection this
    refine⟨_,.inl tp,_,rfl,z1 (by show 2<=1000;decide),?_⟩
    exact kn p (by rw[if_pos e])
   ·have hA:¬ decide (V.int p.1.1=V.int x)=true:=hA;refine ks (if_neg fun z=>hA ?_)
    rw[z];exact DB rfl
  ·refine k D H' (qs.map fun q=>⟨.ref q.1.2,q.1.1.2.2,q.2⟩) hD (by rw[hD',Du];rfl) (fun e he=>?_) ?_ ex
   ·obtain⟨q,hq',rfl⟩:=Dg.mp he;exact hq q hq'
   ·rw[Du];show qs.map ((fun p:Mv×Addr=>p.1.2.2)∘(·.1))=bO M x
    rw[<-Du,eq];unfold bO;rw[<-hus];clear eq hq hD' k hus ht hc hul;induction us with
    | nil=>rfl
    | cons a r ih=>
     rw[Dk]
     by_cases e:a.1.1=x
     ·simp only[Es,List.filter_cons,e,if_true,decide_true,Dk,ih]
     ·simp only[Es,List.filter_cons,e,if_false,decide_false,ih];rfl
theorem pX:∀ y∈(eY aG).names,y.2=.free->(aq aG).names.lookup y.1=some .cell\/(aq aG).names.lookup y.1=some .free:=by decide +kernel
theorem gB{M:az}(m:bN C H p M)(x:cP H H'):bN C H' p M:=by
 obtain⟨dx,l1,l2,d,l3,ps,m⟩:=m;exact⟨dx,l1,l2,d,l3,ps,x.up m.ob (fun _ z=>nomatch z),x.up m.st (fun _ z=>nomatch z),x.up m.mv (fun _ z=>nomatch z),fun q hq=>x.up (m.tup q hq) (fun _ z=>nomatch z),m.pm,x.up m.sg (fun _ z=>nomatch z),x.up m.fl (fun _ z=>nomatch z)⟩
theorem ix(r:RdL H a xs)(x:cP H H'):RdL H' a xs:=by
 rcases r with r|⟨o,r⟩
 ·exact .inl (x.up r fun _ z=>nomatch z)
 ·exact .inr ⟨o,x.up r fun _ z=>nomatch z⟩
theorem Fun.okC{st:Stmt}{k:Nat}{sp:Sp}(F:Fun K x qual st f fd)(S:ba N ps (aq st))(len:∀ vs H Q E,sp vs H Q E->vs.length=ps.length)(hbody:∀(A:Around)(outer:List Env)(s:Shared)(H:Hp)(vs:List V)(Q:VK)(E:XK),aA k (A.deeper (envOfC qual (aq st) s.heap.objs.size f fd.code))->sp vs H Q E →
   ∃ t,PSs (eU CX0 P w K mg base N qual (aq st) f fd.code A outer s H E).nox (cq st) t/\t { nx:=fun _ H'=>Q .non H',rt:=Q } (start N vs) H):ar P w K mg base CX0 (k+1) f fd ps sp:=by
 obtain⟨oc,od,kV,doc,pm,an,cdv,ct,osl,rfl,lk,hcd⟩:=F.ex;refine rS lk hcd S len fun A outer s H vs Q E hr hsp=>?_
 obtain⟨t,h,q⟩:=hbody A outer s H vs Q E hr hsp;exact⟨t,h.nox,q⟩
noncomputable def jP (C T:Addr):Sp:=fun vs H Q _=>∃(p c:Addr)(M:az)(xs:List Int)(n:Int),vs=[.ref p,.ref c]/\bN C H p M/\M.mv.length<=100/\RdL H c (xs.map V.int)/\n<=8/\(∀ r∈xs,okI n r)/\(∀ m∈M.mv,bF n m)/\TabAt (bJ aG) lwQ T H ∧
 ∀ t H' rs,H t=none->H' t=some (.tup ((cG rs).map V.int))->(∀ r,r∈rs↔Rc (bO M) xs r)->ak T H H'->TabAt (bJ aG) lwQ T H'->Q (.ref t) H'
noncomputable abbrev nWu:List Str:=["machine","rooms","unseen","found"]
theorem wj:ba nWu ["machine","rooms"] (aq aG):=⟨rfl,rfl,rfl,by decide +kernel,rfl,by decide +kernel,by decide +kernel⟩
theorem uw{c0:Addr}(F:Fun K "with_unseen" "with_unseen" aG f fd) (hcd:fd.code=.ref c0) (LB:cK mg base c0 T) (TC:dk K mg C) (htu:mg "tuple" = none) (M2:c9 P w K mg base 1 C "moves" ["self"] (jb C)) (M3:c9 P w K mg base 1 C "sign_of" ["self","deed"] (iJ C)) (R:∀ base',K.In base'->base'.Ns mainGlobals mg->Known P w K mg base' 2 "reach" ["starts","steps_from"] (mC P w K mg base' 1 "room")) (kb:K.In base) (nb:base.Ns mainGlobals mg):ar P w K mg base CX0 3 f fd ["machine","rooms"] (jP C T):=by
 refine Fun.okC F wj (fun vs H Q E h=>?_) (fun A outer s H vs Q E hr h=>?_)
 ·obtain⟨p,c,M,xs,n,rfl,_⟩:=h;rfl
 ·obtain⟨p,c,M,xs,n,rfl,mat,hml,hc,hn,hxs,hmo,tab,k⟩:=h;have hr1:aA 1 _:=hr.mono (by decide)
  refine⟨_,ae (av nWu 2 (iZ nWu (aq aG) ["move","machine"] [none,some 0] rfl (bu (kJ (q_v 0) TC.cl M2 hr1)) (fun _ _ _ _=>q_g ["move","machine"] 0) (fun _ _ _ _=>aR wt (rQ (q_v 1) TC.cl M3 hr1 (aa (bD ek (q_v 0) af (fun _ _=>rfl)) ab)) gN) (fun _ _ _ _=>q_v 0)))
   (ae (av nWu 3 (rm R hr (fun _=>rfl) (aa (q_v 1) (aa (o5 hcd LB (fun x kk hm=>pX (x,kk) hm) rfl) ab))))
   (ah (bz (q_t uP htu (aa (q_b (sE rfl) TC.sorted (aa (q_v 3) ab)) ab))))),?_⟩
  have z0:∀{n:Nat},n<=1000->n<sizeLine:=fun h=>by rw[DV];lia
  obtain⟨dx,l1,l2,dd,l3,ms,mi⟩:=mat;have mat:bN C H p M:=⟨dx,l1,l2,dd,l3,ms,mi⟩;refine⟨_,_,mi.ob,rfl,p,M,rfl,mat,fun a1 H1 ps ha1 h1 t1 pm1 e1=>⟨_,.inl h1,?_⟩⟩
  have lps:ps.length<=100:=by rw[<-pm1,Dd]at hml;exact hml
  refine dX (zs:=ps) (enc:=fun p:Mv×Addr=>V.ref p.2) (fun p=>if decide (aE M.sg p.1.2.1=none)=true then some (V.ref p.2) else none) (fu (.inl h1)) (z0 (by lia)) (fun i q H2 Kk hq ex kk=>?_) ?_
  ·have tp:=ex.up (t1 q (Dw hq));have mt:=mat.ext (e1.trans ex);obtain⟨dx',l1',l2',dd',l3',ms',mi'⟩:=mt;refine⟨cE rfl,_,_,mi'.ob,rfl,_,.inl tp,_,rfl,p,M,q.1.2.1,rfl,⟨dx',l1',l2',dd',l3',ms',mi'⟩,?_⟩
   have:=kk H2 Ext.refl
   cases e:aE M.sg q.1.2.1 with
   | none=>
    rw[if_pos (DB e)]at this;exact this
   | some y=>
    rw[if_neg (by rw[DT (by rw[e];exact fun z=>nomatch z)];decide)]at this
    exact this
  intro u1 H2 hu1 h2 e2;have eu:ps.filterMap (fun p:Mv×Addr=>if decide (aE M.sg p.1.2.1=none)=true then some (V.ref p.2) else none)=refs (ps.filter fun p=>decide (aE M.sg p.1.2.1=none)):=by
   clear h2 lps pm1 t1 h1;induction ps with
   | nil=>rfl
   | cons a r ih=>
    by_cases e:decide (aE M.sg a.1.2.1=none)=true
    ·simp only[Es,List.filter_cons,e,if_true,ih];rfl
    ·simp only[Es,List.filter_cons,e,ih];rfl
  have h2:H2 u1=some (.lst (refs (ps.filter fun p=>decide (aE M.sg p.1.2.1=none)))):=by rw[<-eu];exact h2
  have hus:(ps.filter fun p=>decide (aE M.sg p.1.2.1=none)).map (·.1)=gq M:=by
   unfold gq;rw[<-pm1,List.filter_map];rfl
  have hul:(ps.filter fun p=>decide (aE M.sg p.1.2.1=none)).length<=100:=Ea (ET _ _) lps
  have htu':eP H2 (ps.filter fun p=>decide (aE M.sg p.1.2.1=none)):=fun q hq=>e2.up (t1 q (Eb.mp hq).1)
  generalize (ps.filter fun p=>decide (aE M.sg p.1.2.1=none))=us at h2 hus hul htu'
  have e12:=e1.trans e2;refine⟨tab.ext e12,fun g c' ctv oc H3 hg x3 tab3 hg3 hc3 co3 base' rb=>?_⟩
  refine⟨c,g,_,_,bO M,okI n,UI n,xs,rfl,ix (e12.rd hc) x3.toT,hxs,hg3,rfl,
   z6 (rb.clos (eY aG) ["unseen"] [.ref u1] (fun x kk hm=>pX (x,kk) hm) ?_) co3 hg3 hc3 (x3.up h2 fun _ z=>nomatch z) (fun q hq=>x3.up (htu' q hq) fun _ z=>nomatch z) hus hul,
   Binds.all (fun us hl=>match us,hl with | [_],_=>rfl),fun x _=>pT hmo,fun x hx=>jy hx,?_,fun d H4 ks r hx=>?_⟩
  ·intro i x v h1 h2
   match i with
   | 0=>
    cases h1;cases h2
    exact⟨rfl,2,rfl,rfl⟩
   | i+1=>simp at h1
  ·unfold UI;rw[Dd,Ef];lia
  have lks:ks.length<=8:=by
   have:=r.bd
   have hU:(UI n).length<=8:=by unfold UI;rw[Dd,Ef];lia
   lia
  refine⟨kvI ks,r.dd,true,⟨?_,fun k hk=>?_,?_⟩,fun sl H5 hsl h5 e5=>?_⟩
  ·rw[jV];exact List.Pairwise.map _ (fun a b h z=>h (Sum.inl.inj z)) r.nd
  ·rw[jV]at hk;exact jf _ k hk
  ·unfold kvI;rw[Dd];lia
  rw[jV,nX]at h5;refine⟨_,.inl h5,fun t H6 ht h6 e6=>?_⟩
  have x34:ak T H H4:=ak.trans (ak.trans (Ext.toP e12) x3) (Ext.toP r.ext);have x6:ak T H H6:=ak.trans x34 (Ext.toP (e5.trans e6));refine k t H6 (ks.map (·.1)) (ak.none x34 (e5.free ht)) h6 hx x6 ((tab3.ext r.ext).ext (e5.trans e6))
end
end K
end
section
namespace SB
open PySem PySem.Spec PyProof.Rows L2
section
variable {X:Cx}{o e f:Expr}{apos cpos:Pos}{td ty tx:TE}
noncomputable def wV (td ty tx:TE):TE:=fun σ H Q=>td σ H fun x H1=>match x with
 | .ref p=>∃ kvs,RdD H1 p kvs/\ty σ H1 fun y H2=>tx σ H2 fun z H3=>∃ kvs,H3 p=some (.dK kvs)/\aU (kvs.length<sizeLine)/\∃ k,keyOf y=some k/\(∀ v,aJ kvs k=some v->Q v H3)/\(aJ kvs k=none->cN H3 p (.dK (putK kvs k z)) (Q z))
 | _=>False
theorem A0(ho:PE X o td)(he:PE X e ty)(hf:PE X f tx)(m:M2 X o "setdefault" apos e f cpos):PE X (.Call (.Attribute o "setdefault" apos) [e,f] [] cpos) (wV td ty tx):=by
 intro pins s σ H Q I h;refine wpAny_Call_method m.base m.few m.line PySem.F.plainAttrs_dict PySem.F.slot_dict_setdefault PySem.F.type_dict_setdefault (thn (ho pins s σ H _ I h) fun u s1 hZ=>?_)
 obtain⟨x,H1,I1,rx,q⟩:=hZ
 try dsimp only at q
 split at q
 ·rename_i a
  obtain rfl:u=Value.ref a:=rx;obtain⟨kvs1,d1,q1⟩:=q;obtain⟨t1,t2,hd⟩:=L2.gE I1 (.inl ⟨kvs1,d1⟩);refine⟨t1,t2,?_⟩;rw[m.trees];refine Calls.callWith_builtin rfl (Calls.evalArgs_plain (Calls.spliced_cons (thn (he pins s1 σ H1 _ I1 q1) fun iv s2 ⟨y,H2,I2,ry,q2⟩=>
   Calls.spliced_cons (thn (hf pins s2 σ H2 _ I2 q2) fun fv s3 ⟨z,H3,I3,rz,q3⟩=>Calls.spliced_nil ?_))))
  obtain⟨kvs,ha,hz,k,hk,qs,qn⟩:=q3;obtain rfl:=gY hk;obtain⟨_,hd3,vs,rel,dd⟩:=(show aj X.prog X.w H3 s3.heap a (.dK kvs) from I3.hok a _ ha)
  have hz:kvs.length<sizeLine:=hz;have hl:kvs.length=vs.length:=Paired.length rel;refine call_meetsIn PySem.F.slot_dict_setdefault dd.typeIs PySem.F.entry_dict_setdefault (PySem.F.args_dict_setdefault_3 _ _ _) (PySem.kt_meets_setdefault (au X.prog X.w) a (fC ry) hd3 fv) ⟨vs,dd,by lia,fun v hv=>?_,fun hn h' dd' hs=>?_⟩
  ·have:=rel.val k
   rw[hv]at this;cases e:aJ kvs k with
   | none=>rw[e]at this;exact this.elim
   | some v'=>
    rw[e]at this;exact⟨v',H3,I3.tok _,this,qs v' e⟩
  ·have:=rel.val k
   rw[hn]at this;cases e:aJ kvs k with
   | some v'=>rw[e]at this;exact this.elim
   | none=>
    have he':∃ q,h'.get? a=some q:=let ⟨q,_,_,hq,_⟩:=dd';⟨q,hq⟩
    exact⟨z,_,jC I3 (by rw[ha];exact True.intro) hs he' (nD (by have:=lR kvs k z;lia) hd3 (rel.put k rz) dd'),rz,(qn e).at⟩
 ·exact q.elim
noncomputable def sW (neg:Bool):R2:=fun x y H Q=>match y with
 | .ref p=>∃ xs,RdT H p xs/\aU (bI x=true/\xs.all bI=true)/\Q (.bl (if neg then !inV x xs else inV x xs)) H
 | _=>False
theorem Ao:OpR X (compareOp .In) (sW false):=OpR.weak rM fun x y H Q h=>by
 unfold sW at h
 split at h
 ·obtain⟨xs,hx,⟨h1,h2⟩,q⟩:=h;exact⟨_,xs,rfl,.inr hx.sq,h1,h2,q⟩
 ·exact h.elim
end
end SB
end
section
set_option maxHeartbeats 4000000
namespace K
open PySem PySem.Spec PyProof.Rows L2 SB
noncomputable abbrev sSF:Stmt:=top 22
theorem vK{α:Type}{enc:α->V}{zs:List α}{Kf:PySem.W.Frag}{fr:List (Option Nat)}{g:TG}{Q:VK}{ps:Pos}{qn:Str}(R:α->Addr->Hp->Prop)(up:∀ x p H H',aM H H'->R x p H->R x p H')(hr:RdL H1 a (zs.map enc))(tab:TabAt ps qn T H1)(hz:zs.length<sizeLine)(step:∀(i:Nat)(x:α)(H:Hp)(k:V->Hp->Prop),zs[i]? =some x->ak T H1 H->TabAt ps qn T H->(∀ p H',R x p H'->ak T H H'->TabAt ps qn T H'->k (.ref p) H')->g (enc x) (frV fr σ) H fun σ' H3=>cR fr σ σ'/\te σ' H3 k)(fin:∀ D H' (qs:List (α×Addr)),H1 D=none->H' D=some (.lst (rfs qs))->(∀ q∈qs,R q.1 q.2 H')->qs.map (·.1)=zs->ak T H1 H'->TabAt ps qn T H'->Q (.ref D) H')(hg:mh g:=by intro x σ H Q Q' k q;exact k _ _ q):eZ fr σ g (fun _ H Q=>Q true H) te (Itl Kf a) H1 Q:=by
 have rdT:∀{H:Hp},ak T H1 H->RdL H a (zs.map enc):=fun {H} x=>ix hr x.toT
 have tabU:∀{H:Hp} {D:Addr} {xs ys:List V},TabAt ps qn T H->H D=some (.lst xs)->TabAt ps qn T (upd H D (.lst ys)):=fun {H D xs ys} t hD=>by
  rcases t with t|⟨c',oc,h1,h2,h3⟩
  ·exact .inl (by rw[ao (bo t hD fun z=>nomatch z)];exact t)
  ·exact .inr ⟨c',oc,by rw[ao (bo h1 hD fun z=>nomatch z)];exact h1,by rw[ao (bo h2 hD fun z=>nomatch z)];exact h2,h3⟩
 refine⟨fun D hD=>?_⟩
 have xu:∀{H:Hp} {o:HO},ak T H1 H->ak T H1 (upd H D o):=fun {H o} x=>⟨⟨fun {b u} hb n=>by rw[ao (aB hb hD)];exact x.up hb n,fun {b p} hb=>by rw[ao (aB hb hD)];exact x.toT.tb hb⟩,fun {b u} n hb=>by rw[ao (aB hb hD)];exact x.ot n hb⟩
 refine⟨fun i m acc H=>m=zs.length-i/\i<=zs.length/\H D=some (.lst acc)/\ak T H1 H/\TabAt ps qn T H/\∃ qs:List (α×Addr),acc=rfs qs/\(∀ q∈qs,R q.1 q.2 H)/\qs.map (·.1)=zs.take i,⟨zs.length,by simp,DZ _,aW,xu (Ext.toP Ext.refl),tab.ext (cU hD),[],rfl,(fun q hq=>nomatch hq),by simp⟩,?_⟩
 rintro i m acc H ⟨rfl,hi,hDa,ex,tb,qs,rfl,hR,hqs⟩;have hl:(rfs qs).length=i:=by
  unfold rfs;rw[Dd,<-Dd (f:=fun x:α×Addr=>x.1),hqs,Et]
  lia
 refine⟨hDa,by lia,?_⟩
 by_cases hlt:i<zs.length
 ·have hx:(zs.map enc)[i]? =some (enc zs[i]):=by rw[Dq,Dv hlt];rfl
  refine .inr ⟨⟨zs.map enc,enc zs[i],(rdT ex).sq,hx⟩,fun x H2 y=>?_⟩
  obtain⟨rfl,y2⟩:=y;have ex2:=y2 (zs.map enc) (rdT ex).sq;rw[hx]at ex2;cases ex2
  refine hg _ _ _ _ _ (fun σ' H3 q=>⟨q.1,?_⟩) (step i zs[i] _ (fun y H5=>H5 D=some (.lst (rfs qs))/\∃ m',m'<zs.length-i/\m'=zs.length-(i+1)/\i+1<=zs.length/\(upd H5 D (.lst (rfs qs++[y]))) D=some (.lst (rfs qs++[y]))/\ak T H1 (upd H5 D (.lst (rfs qs++[y])))/\TabAt ps qn T (upd H5 D (.lst (rfs qs++[y])))/\∃ qs':List (α×Addr),rfs qs++[y]=rfs qs'/\(∀ q∈qs',R q.1 q.2 (upd H5 D (.lst (rfs qs++[y]))))/\qs'.map (·.1)=zs.take (i+1)) (Dv hlt) ex tb fun p H5 r5 x5 t5=>?_)
  ·show if true=true then _ else _
   rw[if_pos rfl];exact q.2
  ·have hD5:=x5.up hDa fun _ z=>nomatch z
   have tu:aM H5 (upd H5 D (.lst (rfs qs++[V.ref p]))):=fun b ys hb=>by rw[ao (bo hb hD5 fun z=>nomatch z)];exact hb
   have t0:aM H2 H5:=fun b ys hb=>x5.up hb fun _ z=>nomatch z
   refine⟨hD5,_,(by lia:zs.length-(i+1)<zs.length-i),rfl,hlt,aW,xu (ak.trans ex x5),tabU t5 hD5,qs++[(zs[i],p)],?_,fun q hq=>?_,?_⟩
   ·unfold rfs;rw[Dn];rfl
   ·rcases Dp.mp hq with hq|hq
    ·exact up _ _ _ _ tu (up _ _ _ _ t0 (hR q hq))
    ·rw[Dj]at hq;subst hq;exact up _ _ _ _ tu r5
   ·rw[Dn,hqs,EI,Dv hlt];rfl
 ·have e:i=zs.length:=by lia
  subst e;exact .inl ⟨⟨zs.map enc,(rdT ex).sq,by rw[Dd];exact Di _⟩,fin D H qs hD hDa hR (by rw[hqs,Fy]) ex tb⟩
noncomputable def bT (M:az)(rs:List Int)(z:Str)(m:Mv):Bool:=decide (aE M.sg m.2.1=some z)&&decide (m.1∈rs)
noncomputable def aw (M:az)(rs:List Int)(ms:List Mv)(z:Str):List Int:=(ms.filter (bT M rs z)).map fun m=>m.2.2
noncomputable def kvS (es:List (Str×Addr)):List (L2.Key×V):=es.map fun p=>(Sum.inr p.1,V.ref p.2)
theorem k6(es:List (Str×Addr)):(kvS es).map (·.1)=(es.map (·.1)).map Sum.inr:=by
 unfold kvS;rw[Du,Du];rfl
theorem uF{es:List (Str×Addr)}(h:z∉es.map (·.1)):aJ (kvS es) (Sum.inr z)=none:=by
 unfold aJ;rw[List.find?_eq_none.mpr fun q hq=>?_]
 ·rfl
 ·obtain⟨p,hp,rfl⟩:=Dg.mp hq
  have:¬ (Sum.inr p.1:L2.Key)=Sum.inr z:=fun e=>h (Sum.inr.inj e▸DU hp)
  simpa using this
theorem fL:∀{es:List (Str×Addr)}{p:Str×Addr},(es.map (·.1)).Nodup->p∈es->aJ (kvS es) (Sum.inr p.1)=some (.ref p.2)
 | e::r,p,nd,hp=>by
  rw[Dk,Eu]at nd
  by_cases q:e.1=p.1
  ·have:p=e:=by
    rcases DG.mp hp with h|h
    ·exact h
    ·exact absurd (q▸DU h) nd.1
   subst this;unfold aJ kvS;rw[Dk,Ez]
   simp
  ·have hr:p∈r:=(DG.mp hp).resolve_left fun z=>q (z▸rfl)
   have:=fL nd.2 hr
   unfold aJ kvS at this ⊢;rw[Dk,Ez];simp only[Sum.inr.injEq,q,decide_false];exact this
theorem zC{es:List (Str×Addr)}(h:z∉es.map (·.1)):putK (kvS es) (Sum.inr z) (.ref a)=kvS (es++[(z,a)]):=by
 unfold putK;rw[if_neg fun q=>?_]
 ·unfold kvS;rw[Dn];rfl
 ·obtain⟨x,hx,e⟩:=List.any_eq_true.mp q;obtain⟨p,hp,rfl⟩:=Dg.mp hx;exact h (Sum.inr.inj (DX e)▸DU hp)
structure LB (M:az)(rs:List Int)(ms:List Mv)(Hm H1:Hp)(d:Addr)(es:List (Str×Addr)):Prop where
 ext:∀ x u,x≠d->Hm x=some u->H1 x=some u
 dd:H1 d=some (.dK (kvS es))
 ls:∀ p∈es,H1 p.2=some (.lst ((aw M rs ms p.1).map V.int))
 fresh:∀ p∈es,Hm p.2=none
 nd:(es.map (·.1)).Nodup
 na:es.Pairwise fun p q=>p.2≠q.2
 ks:∀ z,z∈es.map (·.1)↔aw M rs ms z≠[]
theorem ig(M:az)(rs:List Int)(ms:List Mv)(m:Mv)(z:Str):aw M rs (ms++[m]) z=aw M rs ms z++(if bT M rs z m=true then [m.2.2] else []):=by
 unfold aw;rw[List.filter_append,Dn];congr 1
 by_cases h:bT M rs z m=true
 ·rw[if_pos h,List.filter_cons_of_pos h];rfl
 ·rw[if_neg h,List.filter_cons_of_neg h];rfl
theorem LB.skip{M:az}{rs:List Int}{ms:List Mv}{Hm:Hp}{d:Addr}{es:List (Str×Addr)}{m:Mv}(l:LB M rs ms Hm H1 d es)(h:∀ z,bT M rs z m=false):LB M rs (ms++[m]) Hm H1 d es:=by
 have e:∀ z,aw M rs (ms++[m]) z=aw M rs ms z:=fun z=>by
  rw[ig,h z,if_neg (by decide),D9]
 exact⟨l.ext,l.dd,fun p hp=>by rw[e];exact l.ls p hp,l.fresh,l.nd,l.na,fun z=>by rw[e];exact l.ks z⟩
theorem LB.up{M:az}{rs:List Int}{ms:List Mv}{Hm:Hp}{d:Addr}{es:List (Str×Addr)}(l:LB M rs ms Hm H1 d es)(e:Ext H1 H2):LB M rs ms Hm H2 d es:=
 ⟨fun x u n h=>e.up (l.ext x u n h),e.up l.dd,fun p hp=>e.up (l.ls p hp),l.fresh,l.nd,l.na,l.ks⟩
theorem jB{M:az}{rs:List Int}{m:Mv}{y:Str}(hy:aE M.sg m.2.1=some y)(hm:m.1∈rs):bT M rs z m=true↔z=y:=by
 unfold bT;rw[hy,DB hm,Bool.and_true,decide_eq_true_eq];exact⟨fun h=>(DL h).symm,fun h=>by rw[h]⟩
theorem pb:∀{es:List (Str×Addr)}{p q:Str×Addr},es.Pairwise (fun p q=>p.2≠q.2)->p∈es->q∈es->p≠q->p.2≠q.2
 | e::r,p,q,h,hp,hq,n=>by
  rw[EU]at h;rcases DG.mp hp with e1|h1
  ·rcases DG.mp hq with e2|h2
   ·exact absurd (e1.trans e2.symm) n
   ·rw[e1];exact h.1 q h2
  ·rcases DG.mp hq with e2|h2
   ·rw[e2]
    exact(h.1 p h1).symm
   ·exact pb h.2 h1 h2 n
theorem LB.add{M:az}{rs:List Int}{ms:List Mv}{Hm:Hp}{d:Addr}{es:List (Str×Addr)}{m:Mv}{p:Str×Addr}(l:LB M rs ms Hm H1 d es)(hy:aE M.sg m.2.1=some p.1)(hm:m.1∈rs)(hp:p∈es)(b:But p.2 H1 H2)(h:H2 p.2=some (.lst ((aw M rs ms p.1++[m.2.2]).map V.int))):LB M rs (ms++[m]) Hm H2 d es:=by
 have e0:aw M rs (ms++[m]) p.1=aw M rs ms p.1++[m.2.2]:=by rw[ig,if_pos ((jB hy hm).mpr rfl)]
 have e1:∀ z,z≠p.1->aw M rs (ms++[m]) z=aw M rs ms z:=fun z n=>by rw[ig,if_neg (fun w=>n ((jB hy hm).mp w)),D9]
 have nd:d≠p.2:=bo l.dd (l.ls p hp) fun z=>nomatch z
 refine⟨fun x u n hu=>b.up (aB hu (l.fresh p hp)) (l.ext x u n hu),b.up nd l.dd,fun q hq=>?_,l.fresh,l.nd,l.na,fun z=>?_⟩
 ·by_cases c:q=p
  ·subst c;rw[e0];exact h
  ·have nk:q.1≠p.1:=fun e=>by
    have h1:=fL l.nd hq;have h2:=fL l.nd hp;rw[e,h2]at h1;injection h1 with h1;injection h1 with h1;exact c (Prod.ext e h1.symm)
   rw[e1 _ nk];exact b.up (pb l.na hq hp c) (l.ls q hq)
 ·by_cases c:z=p.1
  ·subst c;rw[e0];exact⟨fun _ w=>by simp at w,fun _=>DU hp⟩
  ·rw[e1 z c];exact l.ks z
theorem LB.new{M:az}{rs:List Int}{ms:List Mv}{Hm:Hp}{d:Addr}{es:List (Str×Addr)}{m:Mv}{y:Str}(l:LB M rs ms Hm H1 d es)(hy:aE M.sg m.2.1=some y)(hm:m.1∈rs)(hn:y∉es.map (·.1))(hdm:∀ x u,x≠d->x≠a->H1 x=some u->H2 x=some u)(ha:H1 a=none)(had:a≠d)(dd:H2 d=some (.dK (kvS (es++[(y,a)]))))(h:H2 a=some (.lst ([m.2.2].map V.int))):LB M rs (ms++[m]) Hm H2 d (es++[(y,a)]):=by
 have l0:aw M rs ms y=[]:=by
  cases e:aw M rs ms y with
  | nil=>rfl
  | cons _ _=>exact absurd ((l.ks y).mpr (by rw[e];exact fun z=>nomatch z)) hn
 have e0:aw M rs (ms++[m]) y=[m.2.2]:=by rw[ig,if_pos ((jB hy hm).mpr rfl),l0];rfl
 have e1:∀ z,z≠y->aw M rs (ms++[m]) z=aw M rs ms z:=fun z n=>by rw[ig,if_neg (fun w=>n ((jB hy hm).mp w)),D9]
 have am:∀{x u},H1 x=some u->x≠a:=fun hx=>aB hx ha
 have aHm:Hm a=none:=by
  cases q:Hm a with
  | none=>rfl
  | some u=>rw[l.ext a u had q]at ha;cases ha
 refine⟨fun x u n hu=>hdm x u n (am (l.ext x u n hu)) (l.ext x u n hu),dd,fun q hq=>?_,fun q hq=>?_,?_,?_,fun z=>?_⟩
 ·rcases Dp.mp hq with hq|hq
  ·have nk:q.1≠y:=fun e=>hn (e▸DU hq)
   rw[e1 _ nk];exact hdm _ _ (bo (l.ls q hq) l.dd fun z=>nomatch z) (am (l.ls q hq)) (l.ls q hq)
  ·rw[Dj.mp hq];show H2 a=some (.lst ((aw M rs (ms++[m]) y).map V.int))
   rw[e0];exact h
 ·rcases Dp.mp hq with hq|hq
  ·exact l.fresh q hq
  ·rw[Dj.mp hq];exact aHm
 ·rw[Dn];refine List.nodup_append.mpr ⟨l.nd,Eu.mpr ⟨(fun z=>nomatch z),EK⟩,fun b hb c hc e=>?_⟩
  rw[Dk,EH,Dj]at hc;have hby:b=y:=e.trans hc;exact hn (hby▸hb)
 ·refine EE.mpr ⟨l.na,EU.mpr ⟨(fun z hz=>nomatch hz),List.Pairwise.nil⟩,fun p hp q hq=>?_⟩
  rw[Dj.mp hq];exact am (l.ls p hp)
 ·rw[Dn,Dp]
  by_cases c:z=y
  ·subst c;rw[e0];exact⟨(fun _ w=>nomatch w),fun _=>.inr (Dj.mpr rfl)⟩
  ·rw[e1 z c];exact⟨fun w=>(l.ks z).mp (w.resolve_right fun w=>c (Dj.mp w)),fun w=>.inl ((l.ks z).mpr w)⟩
set_option maxHeartbeats 4000000
theorem rT{α:Type} [DecidableEq α] (lt:α->α->Bool)(x:α):∀ l:List α,(c7 lt x l).length<=l.length+1
 | []=>Di _
 | y::r=>by
  unfold c7
  split
  ·exact Nat.le_succ _
  ·split
   ·exact Di _
   ·have:=rT lt x r
    rw[DR,DR];lia
theorem lA{α:Type} [DecidableEq α] (lt:α->α->Bool):∀ l:List α,(srt lt l).length<=l.length
 | []=>Di _
 | x::r=>by
  have:=rT lt x (srt lt r)
  have:=lA lt r
  show(c7 lt x (srt lt r)).length<=r.length+1
  lia
theorem ri(l:List Str):(aN l).length<=l.length:=by
 unfold aN;rw[Dd]
 have:=lA kLt (l.map Sum.inr)
 rw[Dd]at this;exact this
noncomputable def ay (M:az)(n:Int)(xs:List Int):List Int:=cG ((UI n).filter fun r=>@decide (Rc (bO M) xs r) (Classical.propDecidable _))
theorem qR{M:az}{n:Int}{xs:List Int}(hx:∀ r∈xs,okI n r)(hm:∀ m∈M.mv,bF n m){r:Int}(h:Rc (bO M) xs r):okI n r:=by
 induction h with
 | base h=>exact hx _ h
 | step _ hy _=>exact pT hm _ hy
theorem mH{M:az}{n:Int}{xs rs:List Int}(hx:∀ r∈xs,okI n r)(hm:∀ m∈M.mv,bF n m)(h:∀ r,r∈rs↔Rc (bO M) xs r):cG rs=ay M n xs:=CC fun r=>by
 rw[h,Eb];constructor
 ·intro c;exact⟨jy (qR hx hm c),@decide_eq_true _ (Classical.propDecidable _) c⟩
 ·intro c;exact @of_decide_eq_true _ (Classical.propDecidable _) c.2
noncomputable def ic (M:az)(n:Int)(rs:List Int)(z:Str)(p:Addr)(H:Hp):Prop:=∃ t,H p=some (.tup [.str z,.ref t])/\H t=some (.tup ((ay M n (aw M rs M.mv z)).map V.int))
theorem Cq{M:az}{n:Int}{rs:List Int}(z:Str)(p:Addr)(H H':Hp)(x:aM H H')(h:ic M n rs z p H):ic M n rs z p H':=by
 obtain⟨t,h1,h2⟩:=h;exact⟨t,x _ _ h1,x _ _ h2⟩
noncomputable def iU (C T:Addr):Sp:=fun vs H Q _=>∃(p c:Addr)(M:az)(rs:List Int)(n:Int),vs=[.ref p,.ref c]/\bN C H p M/\M.mv.length<=24/\H c=some (.tup (rs.map V.int))/\n<=8/\(∀ m∈M.mv,bF n m)/\TabAt (bJ aG) lwQ T H ∧
 ∀ l H' (qs:List (Str×Addr)) (ks:List Str),H l=none->H' l=some (.lst (rfs qs))->(∀ q∈qs,ic M n rs q.1 q.2 H')->(∀ z,z∈ks↔aw M rs M.mv z≠[])->qs.map (·.1)=aN ks->ak T H H'->TabAt (bJ aG) lwQ T H'->Q (.ref l) H'
noncomputable abbrev nSF:List Str:=["machine","rooms","lasts_by_sign","first","deed","last","sign"]
noncomputable abbrev nSC:List Str:=["sign","lasts_by_sign","machine"]
section
variable {P:Program}{w:World}{K:PySem.W.Frag}{mg:Str->Option Value}{base:Heap}
theorem ze:ba nSF ["machine","rooms"] (aq sSF):=⟨rfl,rfl,rfl,by decide +kernel,rfl,by decide +kernel,by decide +kernel⟩
theorem uM(F:Fun K "signs_from" "signs_from" sSF f fd) (TC:dk K mg C) (M2:c9 P w K mg base 1 C "moves" ["self"] (jb C)) (M3:c9 P w K mg base 1 C "sign_of" ["self","deed"] (iJ C)) (D:Known P w K mg base 3 "with_unseen" ["machine","rooms"] (jP C T)):ar P w K mg base CX0 4 f fd ["machine","rooms"] (iU C T):=by
 refine F.ok ze (fun vs H Q E h=>?_) (fun cdv A outer s H vs Q E hr h=>?_)
 ·obtain⟨p,c,M,rs,n,rfl,_⟩:=h;rfl
 ·obtain⟨p,c,M,rs,n,rfl,mat,hml,hc,hn,hmo,tab,k⟩:=h;have hu:=hr.units;have hr1:aA 1 _:=hr.mono (by decide)
  refine⟨_,ae (av nSF 2 mG)
   (ae (bC PassesOwn.never rfl (bu (kJ (q_v 0) TC.cl M2 hr1)) (eI rfl (bj (q_g nSF 3) (bj (q_g nSF 4) (bj (q_g nSF 5) dN))))
    (ae (av nSF 6 (rQ (q_v 0) TC.cl M3 hr1 (aa (q_v 4) ab)))
    (ah (cc (pw_and (aR oB (q_v 6) gN) (pw_and1 (aR Ao (q_v 3) (q_v 1)))).pt
     (ah (bw (cT (A0 (q_v 2) (q_v 6) (bf ab) ⟨rfl,rfl,rfl,rfl⟩) (q_v 5)))) bY))))
   (ah (bz (g8 nSF (aq sSF) nSC [none,some 2,some 0] rfl (bu (q_b (sE rfl) TC.sorted (aa (q_v 2) ab))) (fun _ _ _ _=>q_g nSC 0)
    (fun _ _ _ _=>dj (aa (q_v 0) (aa (aH D hr (aa (q_v 2) (aa (u4 hu (q_v 1) (q_v 0)) ab))) ab))))))),?_⟩
  have z1:∀{n:Nat},n<=1000->n<=sizeLine:=fun h=>by rw[DV];lia
  have z0:∀{n:Nat},n<=1000->n<sizeLine:=fun h=>by rw[DV];lia
  refine fun d H1 hd h1 e1=>?_
  have mat1:=mat.ext e1;obtain⟨dx,l1,l2,dd,l3,ms,mi⟩:=mat1;have mat1:bN C H1 p M:=⟨dx,l1,l2,dd,l3,ms,mi⟩;refine⟨_,_,mi.ob,rfl,p,M,rfl,mat1,fun a1 Hm ps ha1 hm1 t1 pm1 em=>⟨_,.inl hm1,?_⟩⟩
  have lps:ps.length<=24:=by rw[<-pm1,Dd]at hml;exact hml
  have dm:Hm d=some (.dK []):=em.up h1;have na1:a1≠d:=bo hm1 dm fun z=>nomatch z
  have old:∀{H2:Hp} {ms':List Mv} {es:List (Str×Addr)},LB M rs ms' Hm H2 d es->Ext H H2:=fun {H2 ms' es} l x u hx=>l.ext x u (aB hx hd) (em.up (e1.up hx))
  refine bZ (xs:=refs ps) (fun i σ H2=>∃(v3 v4 v5 v6:Option V) (es:List (Str×Addr)),σ=[some (.ref p),some (.ref c),some (.ref d),v3,v4,v5,v6]/\LB M rs ((ps.map (·.1)).take i) Hm H2 d es/\es.length<=i)
   ⟨none,none,none,none,[],rfl,⟨fun x u _ h=>h,dm,(fun q hq=>nomatch hq),(fun q hq=>nomatch hq),EK,List.Pairwise.nil,fun z=>⟨(fun w=>nomatch w),fun w=>absurd rfl w⟩⟩,Di _⟩ (fun i σ H2 _ ⟨_,_,_,_,_,_,l,_⟩=>.inl (l.ext a1 _ na1 hm1)) ?_ ?_
  ·rintro i x σ H2 hx ⟨v3,v4,v5,v6,es,rfl,l,le⟩;have hi:i<(refs ps).length:=(DI.mp hx).1;have hi:i<ps.length:=by unfold refs at hi;rw[Dd]at hi;exact hi
   unfold refs at hx;rw[Dq,Dy]at hx;obtain⟨q,hq,rfl⟩:=hx;have hqm:=Dw hq;have tk:(ps.map (·.1)).take (i+1)=(ps.map (·.1)).take i++[q.1]:=by
    rw[EI,Dq,hq];rfl
   have tq:H2 q.2=some (.tup (kf q.1)):=l.ext _ _ (bo (t1 q hqm) dm fun z=>nomatch z) (t1 q hqm)
   have mt:=mat.ext (old l);obtain⟨dx',l1',l2',dd',l3',ms',mi'⟩:=mt;have c2:=(old l).up hc;refine⟨_,.inl tq,rfl,_,_,mi'.ob,rfl,p,M,q.1.2.1,rfl,⟨dx',l1',l2',dd',l3',ms',mi'⟩,?_⟩;have no:(∀ z,bT M rs z q.1=false)->LB M rs ((ps.map (·.1)).take (i+1)) Hm H2 d es/\es.length<=i+1:=fun h=>by
    rw[tk];exact⟨l.skip h,by lia⟩
   cases e:aE M.sg q.1.2.1 with
   | none=>
    obtain⟨l',le'⟩:=no fun z=>by unfold bT;rw[e,DT (fun w=>nomatch w)];rfl
    exact⟨_,_,_,_,es,rfl,l',le'⟩
   | some y=>
    refine⟨_,.inl c2,⟨rfl,cw _⟩,?_⟩;refine aV (fun hA=>?_) (fun hA=>?_)
    ·have hA:inV (.int q.1.1) (rs.map V.int)=true:=hA;rw[en]at hA;have hm:q.1.1∈rs:=DX hA;refine⟨_,.inl l.dd,z1 (by show 0<=1000;decide),fun a3 H3 ha3 h3 e3=>?_⟩
     have l3':=l.up e3;refine⟨_,l3'.dd,z0 (by unfold kvS;rw[Dd];lia),_,rfl,fun v hv=>?_,fun hv=>?_⟩
     ·by_cases hk:y∈es.map (·.1)
      ·obtain⟨r,hr',rfl⟩:=Dg.mp hk;rw[fL l.nd hr']at hv;cases hv
       have hl:=l3'.ls r hr';refine⟨_,.inl hl,_,hl,z0 ?_,fun H4 h4 b4=>?_⟩
       ·rw[Dd];unfold aw;rw[Dd]
        have:=ET (bT M rs r.1) ((ps.map (·.1)).take i)
        have:((ps.map (·.1)).take i).length<=ps.length:=by rw[Et,Dd];lia
        lia
       refine⟨_,_,_,_,es,rfl,?_,by lia⟩
       rw[tk];exact l3'.add e hm hr' b4 (by rw[h4,Dn];rfl)
      ·rw[uF hk]at hv;cases hv
     ·have hk:y∉es.map (·.1):=fun hk=>by
       obtain⟨r,hr',rfl⟩:=Dg.mp hk;rw[fL l.nd hr']at hv;cases hv
      intro H4 h4 b4;have n3:a3≠d:=bo h3 l3'.dd fun z=>nomatch z
      have h43:=b4.up n3 h3;refine⟨_,.inl h43,_,h43,z0 (by show 0<=1000;decide),fun H5 h5 b5=>?_⟩
      refine⟨_,_,_,_,es++[(y,a3)],rfl,?_,by rw[Dl];show es.length+1<=i+1;lia⟩
      rw[tk];refine l.new e hm hk (fun x u nx na hx=>b5.up na (b4.up nx (e3.up hx))) ha3 n3 (b5.up n3.symm ?_) (by rw[h5];rfl)
      rw[<-zC hk];exact h4
    ·have hA:¬ inV (.int q.1.1) (rs.map V.int)=true:=hA;rw[en]at hA;have hm:q.1.1∉rs:=fun w=>hA (DB w)
     obtain⟨l',le'⟩:=no fun z=>by unfold bT;rw[DT hm,Fp]
     exact⟨_,_,_,_,es,rfl,l',le'⟩
  rintro σ H2 ⟨v3,v4,v5,v6,es,rfl,l,le⟩;have lr:(refs ps).length=ps.length:=by unfold refs;rw[Dd]
  rw[lr]at le l;have full:(ps.map (·.1)).take ps.length=M.mv:=by rw[<-pm1,Ec (by rw[Dd];exact Di _)]
  rw[full]at l;have x2:ak T H H2:=Ext.toP (old l);have tab2:TabAt (bJ aG) lwQ T H2:=tab.ext (old l);refine⟨_,l.dd,false,⟨by rw[k6];exact List.Pairwise.map _ (fun a b h z=>h (Sum.inr.inj z)) l.nd,fun k hk=>by rw[k6]at hk;exact fh _ k hk,by unfold kvS;rw[Dd];lia⟩,fun sl H3 hsl h3 e3=>?_⟩
  rw[k6,lS]at h3;have l3':=l.up e3;have x3:ak T H H3:=ak.trans x2 (Ext.toP e3);have lsk:(aN (es.map (·.1))).length<=24:=by
   have:=ri (es.map (·.1))
   rw[Dd]at this;lia
  refine⟨_,.inl h3,vK (zs:=aN (es.map (·.1))) (enc:=V.str) (ps:=bJ aG) (qn:=lwQ) (T:=T) (ic M n rs) Cq (.inl h3) (tab2.ext e3) (z0 (by lia)) (fun i z H4 kk hz x4 t4 kn=>?_) fun D H5 qs hD h5 hR eq x5 t5=>?_⟩
  ·have hzm:z∈es.map (·.1):=jX.mp (Dw hz);obtain⟨r,hr',rfl⟩:=Dg.mp hzm;have hx0:∀ r'∈aw M rs M.mv r.1,okI n r':=fun r' hr2=>by
    obtain⟨m,hm,rfl⟩:=Dg.mp hr2
    exact(hmo m (Eb.mp hm).1).2.2
   refine⟨cE rfl,_,.inl (x4.up l3'.dd fun _ z=>nomatch z),_,rfl,_,fL l.nd hr',p,r.2,M,aw M rs M.mv r.1,n,rfl,gB mat (ak.trans x3 x4).toT,by lia,.inl (x4.up (l3'.ls r hr') fun _ z=>nomatch z),hn,hx0,hmo,t4,fun t H6 rs' ht h6 hrs x6 t6=>?_⟩
   refine⟨z1 (by show 2<=1000;decide),fun q H7 hq h7 e7=>kn q H7 ⟨t,h7,?_⟩ (ak.trans x6 (Ext.toP e7)) (t6.ext e7)⟩
   rw[<-mH hx0 hmo hrs];exact e7.up h6
  ·exact k D H5 qs (es.map (·.1)) (ak.none x3 hD) h5 hR l.ks eq (ak.trans x3 x5) t5
end
set_option maxHeartbeats 4000000
noncomputable abbrev sFS:Stmt:=top 23
noncomputable def uTT (t:TE):TT:=fun σ H Q=>t σ H fun x H'=>match x with | .ref p=>∃ xs,RdT H' p xs/\Q (!xs.isEmpty) H'|_=>False
theorem vI{t:TE}(h:PE X e t)(he:∀ whole,isTrue e X.env whole=(do let v <-whole;standAt e.pos;holding [v] (truthy v)):=by intro _;rfl):PT X e (uTT t):=by
 intro pins s σ H Q I hw;refine isTrue_plain (thn (h pins s σ H _ I hw) fun v s1 ⟨x,H1,I1,r1,q1⟩=>?_) (he _)
 dsimp only at q1
 split at q1
 ·obtain⟨xs,hx,q⟩:=q1;exact qc pins s1 σ H1 _ v Q I1 r1 ⟨_,.inr (.inl ⟨xs,hx.sq,rfl⟩),q⟩
 ·exact q1.elim
noncomputable def lW (C T:Addr):Sp:=fun vs H Q _=>∃(p:Addr)(M:az)(n:Int),vs=[.ref p]/\bN C H p M/\M.mv.length<=100/\n<=8/\(∀ r∈M.st,okI n r)/\(∀ m∈M.mv,bF n m)/\TabAt (bJ aG) lwQ T H ∧
 ∀ l H',H l=none->((ay M n M.st=[]/\H' l=some (.lst []))\/(ay M n M.st≠[]/\∃ t,H t=none/\H' l=some (.lst [.ref t])/\H' t=some (.tup ((ay M n M.st).map V.int))))->ak T H H'->TabAt (bJ aG) lwQ T H'->Q (.ref l) H'
section
variable {P:Program}{w:World}{K:PySem.W.Frag}{mg:Str->Option Value}{base:Heap}
noncomputable abbrev nFS:List Str:=["machine","rooms"]
theorem y1:ba nFS ["machine"] (aq sFS):=⟨rfl,rfl,rfl,by decide +kernel,rfl,by decide +kernel,by decide +kernel⟩
theorem zA(F:Fun K "first_sets" "first_sets" sFS f fd) (TC:dk K mg C) (M1:c9 P w K mg base 1 C "starts" ["self"] (mP C)) (D:Known P w K mg base 3 "with_unseen" ["machine","rooms"] (jP C T)):ar P w K mg base CX0 4 f fd ["machine"] (lW C T):=by
 refine F.ok y1 (fun vs H Q E h=>?_) (fun cdv A outer s H vs Q E hr h=>?_)
 ·obtain⟨p,M,n,rfl,_⟩:=h;rfl
 ·obtain⟨p,M,n,rfl,mat,hml,hn,hst,hmo,tab,k⟩:=h;have hr1:aA 1 _:=hr.mono (by decide)
  refine⟨_,ae (av nFS 1 (aH D hr (aa (q_v 0) (aa (kJ (q_v 0) TC.cl M1 hr1) ab))))
   (ah (bz (yw (vI (q_v 1)) (bf (aa (q_v 1) ab)) (bf ab)))),?_⟩
  have z1:∀{n:Nat},n<=1000->n<=sizeLine:=fun h=>by rw[DV];lia
  obtain⟨dx,l1,l2,dd,l3,ms,mi⟩:=mat;have mat:bN C H p M:=⟨dx,l1,l2,dd,l3,ms,mi⟩;refine⟨_,_,mi.ob,rfl,p,M,rfl,mat,fun a1 H1 ha1 h1 e1=>?_⟩
  refine⟨p,a1,M,M.st,n,rfl,mat.ext e1,hml,.inl h1,hn,hst,hmo,tab.ext e1,fun t H2 rs ht h2 hrs x2 t2=>?_⟩
  rw[mH hst hmo hrs]at h2;have x:ak T H H2:=ak.trans (Ext.toP e1) x2;refine⟨_,.inl h2,aV (fun hA=>?_) (fun hA=>?_)⟩
  ·have hA:(!((ay M n M.st).map V.int).isEmpty)=true:=hA;have ne:ay M n M.st≠[]:=fun z=>by rw[z]at hA;cases hA
   exact⟨z1 (by show 1<=1000;decide),fun l H3 hl h3 e3=>k l H3 (ak.none x hl) (.inr ⟨ne,t,e1.free ht,h3,e3.up h2⟩) (ak.trans x (Ext.toP e3)) (t2.ext e3)⟩
  ·have hA:¬ (!((ay M n M.st).map V.int).isEmpty)=true:=hA;have ne:ay M n M.st=[]:=by
    cases e:ay M n M.st with
    | nil=>rfl
    | cons _ _=>rw[e]at hA;exact absurd rfl hA
   exact⟨z1 (by show 0<=1000;decide),fun l H3 hl h3 e3=>k l H3 (ak.none x hl) (.inl ⟨ne,h3⟩) (ak.trans x (Ext.toP e3)) (t2.ext e3)⟩
end
set_option maxHeartbeats 4000000
section
variable {α:Type} [DecidableEq α]
noncomputable def pushS (p:List Str):List (α×List Str)->List (Str×α)->List (α×List Str)
 | es,[]=>es
 | es,(z,y)::ss=>if y∈es.map (·.1) then pushS p es ss else pushS p (es++[(y,p++[z])]) ss
noncomputable def bM:List (α×List Str)->List α->List (α×List Str)
 | es,[]=>es
 | es,x::xs=>if x∈es.map (·.1) then bM es xs else bM (es++[(x,[])]) xs
theorem iS(p:List Str):∀(es:List (α×List Str))(a b:List (Str×α)),pushS p es (a++b)=pushS p (pushS p es a) b
 | es,[],b=>rfl
 | es,(z,y)::a,b=>by
  show(if y∈es.map (·.1) then pushS p es (a++b) else pushS p (es++[(y,p++[z])]) (a++b))=pushS p (if y∈es.map (·.1) then pushS p es a else pushS p (es++[(y,p++[z])]) a) b
  split
  ·exact iS p es a b
  ·exact iS p _ a b
theorem i9:∀(es:List (α×List Str))(a b:List α),bM es (a++b)=bM (bM es a) b
 | es,[],b=>rfl
 | es,y::a,b=>by
  show(if y∈es.map (·.1) then bM es (a++b) else bM (es++[(y,[])]) (a++b))=bM (if y∈es.map (·.1) then bM es a else bM (es++[(y,[])]) a) b
  split
  ·exact i9 es a b
  ·exact i9 _ a b
inductive Run (steps:α->List (Str×α))(st:List α):Nat->List (α×List Str)->Prop
 | zero:Run steps st 0 (bM [] st)
 | next {k:Nat} {es:List (α×List Str)} {x:α} {p:List Str}:Run steps st k es->es[k]? =some (x,p)->Run steps st (k+1) (pushS p es (steps x))
end
structure En (α:Type) where
 x:α
 a:Addr
 v:V
 p:List Str
noncomputable def xpE {α:Type}(e:En α):α×List Str:=(e.x,e.p)
structure SE (α:Type) where
 z:Str
 st:α
 as:Addr
 ap:Addr
section
variable {α:Type} [DecidableEq α] (E:er α)
noncomputable def enB (e:En α):aY:=(E.key e.x,e.a,e.v)
theorem ja{es:List (En α)}{x:α}:(atB (es.map (enB E)) (E.key x)).isSome=decide (x∈es.map (·.x)):=by
 unfold atB;rw[Fh];apply Ej.mpr;rw[List.find?_isSome,decide_eq_true_iff,Dg];constructor
 ·rintro⟨q,hq,he⟩;obtain⟨e,hm,rfl⟩:=Dg.mp hq;exact⟨e,hm,E.inj _ _ (DX he)⟩
 ·rintro⟨e,hm,rfl⟩;exact⟨enB E e,DU hm,DB rfl⟩
theorem qF{es:List (En α)}{x:α}{v:V}{p:List Str}(h:x∉es.map (·.x)):dB (es.map (enB E)) (E.key x) b v=(es++[En.mk x b v p]).map (enB E):=by
 unfold dB;rw[ja,if_neg (by simpa using h),Dn]
 rfl
theorem wK{es:List (En α)}{x:α}(h:x∈es.map (·.x))(hv:∀ e∈es,e.v=.non):dB (es.map (enB E)) (E.key x) b .non=es.map (enB E):=by
 unfold dB;rw[ja,if_pos (by simpa using h),Du]
 apply Fi;intro e he
 show(if (enB E e).1=_ then _ else enB E e)=enB E e
 split
 ·show(E.key e.x,e.a,V.non)=(E.key e.x,e.a,e.v)
  rw[hv e he]
 ·rfl
noncomputable def fo (H:Hp)(es:List (En α))(e:En α):Prop:=
 (e.v=.non/\e.p=[])\/∃(t ya:Addr) (z:Str) (e':En α),e'∈es/\e.v=.ref t/\H t=some (.tup [.ref ya,.str z])/\H ya=some (.tup (E.enc e'.x))/\e.p=e'.p++[z]
theorem fo.up{E:er α}{es:List (En α)}{e:En α}(t:aM H H')(c:fo E H es e):fo E H' es e:=by
 rcases c with c|⟨t',ya,lb,e',h1,h2,h3,h4,h5⟩
 ·exact .inl c
 ·exact .inr ⟨t',ya,lb,e',h1,h2,t _ _ h3,t _ _ h4,h5⟩
structure JOk (T:Addr)(J:Hp->Prop):Prop where
 ext:∀{H H'},J H->Ext H H'->J H'
 but:∀{H H'} {d:Addr} {u:HO},J H->H d=some u->(∀ ps,u≠.tbl ps)->(∀ o k,u≠.frz o k)->But d H H'->J H'
 tb:∀{H} {b:Addr} {u:HO},J H->H b=some u->(∀ ps,u≠.tbl ps)->b≠T
variable (P:Program)(w:World)
structure RS (T:Addr)(ok:α->Prop)(U:List α)(H H1:Hp)(d:Addr)(es:List (En α)):Prop where
 ext:ak T H H1
 dn:H d=none
 dd:H1 d=some (DTB P w d (es.map (enB E)))
 ents:∀ e∈es,H1 e.a=some (.tup (E.enc e.x))
 okk:∀ e∈es,ok e.x
 bd:es.length+mis U (es.map (·.x))<=U.length
 came:∀(i:Nat) (e:En α),es[i]? =some e->fo E H1 (es.take i) e
 nd:(es.map (·.x)).Nodup
variable {E P w}{T:Addr}{ok:α->Prop}{U:List α}{H H1 H2:Hp}{d:Addr}{es:List (En α)}
theorem RS.move(r:RS E P w T ok U H H1 d es)(x:ak T H H2)(dd:H2 d=some (DTB P w d (es.map (enB E))))(t:aM H1 H2):RS E P w T ok U H H2 d es:=
 ⟨x,r.dn,dd,fun e he=>t _ _ (r.ents e he),r.okk,r.bd,fun i e h=>(r.came i e h).up t,r.nd⟩
theorem ak.tup(x:ak T H H'):aM H H':=fun b xs h=>x.up h fun ps z=>nomatch z
theorem RS.upP(r:RS E P w T ok U H H1 d es)(x:ak T H1 H2):RS E P w T ok U H H2 d es:=r.move (r.ext.trans x) (x.up r.dd fun ps z=>nomatch z) (ak.tup x)
theorem RS.up(r:RS E P w T ok U H H1 d es)(x:Ext H1 H2):RS E P w T ok U H H2 d es:=r.upP (Ext.toP x)
theorem RS.keys(r:RS E P w T ok U H H1 d es):eV H1 (es.map (enB E)):=fun q hq=>by
 obtain⟨e,he,rfl⟩:=Dg.mp hq;exact⟨_,r.ents e he,E.ok e.x⟩
theorem kq{d:Addr}(x:ak T H H1)(dn:H d=none)(b:But d H1 H2):ak T H H2:=
 ⟨⟨fun {c u} h n=>b.up (fun z=>by rw[z,dn]at h;cases h) (x.up h n),fun {c ps} h=>by
  obtain⟨ps',h'⟩:=x.toT.tb h;exact⟨ps',b.up (fun z=>by rw[z,dn]at h;cases h) h'⟩⟩,fun {c u} n h=>b.up (fun z=>by rw[z,dn]at h;cases h) (x.ot n h)⟩
theorem RS.put(r:RS E P w T ok U H H1 d es)(hU:∀ x,ok x->x∈U){y:α}{v:V}{p:List Str}(hb:H1 b=some (.tup (E.enc y)))(ny:y∉es.map (·.x))(oky:ok y)(cv:fo E H1 es ⟨y,b,v,p⟩)(dd:H2 d=some (DTB P w d ((es++[En.mk y b v p]).map (enB E))))(bb:But d H1 H2):RS E P w T ok U H H2 d (es++[En.mk y b v p]):=by
 have t:aM H1 H2:=dS bb r.dd fun xs z=>nomatch z
 refine⟨kq r.ext r.dn bb,r.dn,dd,fun e he=>?_,fun e he=>?_,?_,fun i e he=>?_,?_⟩
 ·rcases Dp.mp he with he|he
  ·exact t _ _ (r.ents e he)
  ·rw[Dj]at he;subst he;exact t _ _ hb
 ·rcases Dp.mp he with he|he
  ·exact r.okk e he
  ·rw[Dj]at he;subst he;exact oky
 ·have:=dW ny U
  rw[if_pos (hU y oky)]at this
  have:=r.bd
  rw[Dl,Dn];show es.length+1+mis U (es.map (·.x)++[y])<=_
  lia
 ·by_cases hi:i<es.length
  ·rw[Ep hi]at he;rw[Fc (Fe hi)]
   exact(r.came i e he).up t
  ·have hi:es.length<=i:=Nat.not_lt.mp hi;rw[El hi]at he;have e0:i-es.length=0:=by
    have:=(DI.mp he).1
    simp at this;lia
   rw[e0]at he;have he:=DL he;subst he;have ei:i=es.length:=by lia
   rw[ei,List.take_left];exact cv.up t
 ·rw[Dn];refine List.nodup_append.mpr ⟨r.nd,Eu.mpr ⟨(fun z=>nomatch z),EK⟩,fun a ha b hb e=>?_⟩
  rw[Dk,EH,Dj]at hb;subst hb;subst e;exact ny ha
theorem RS.len(r:RS E P w T ok U H H1 d es)(hU:U.length<=1000):es.length<=1000:=by have:=r.bd;lia
end
section
variable {α:Type} [DecidableEq α] (E:er α)
noncomputable def rj (T:Addr)(J:Hp->Prop)(steps:α->List (Str×α))(ok:α->Prop)(H0:Hp):Sp:=fun vs H Q _=>∃(a:Addr)(x:α),vs=[.ref a]/\ak T H0 H/\J H/\H a=some (.tup (E.enc x))/\ok x ∧
 ∀ l H' (es:List (SE α)),H l=none->H' l=some (.lst (es.map fun e=>V.ref e.ap))->(∀ e∈es,H' e.as=some (.tup (E.enc e.st))/\H' e.ap=some (.tup [.str e.z,.ref e.as]))->es.map (fun e=>(e.z,e.st))=steps x->ak T H H'->J H'->Q (.ref l) H'
variable (P:Program)(w:World)(K:PySem.W.Frag)(mg:Str->Option Value)(base:Heap)
noncomputable def nN (kk:Nat)(pn:Str):Sp:=fun vs H Q _=>∃(c f T:Addr)(J:Hp->Prop)(fd:FuncData)(o:Obj)(steps:α->List (Str×α))(ok:α->Prop)(U:List α)(qs:List (α×Addr)),vs=[.ref c,.ref f]/\RdL H c (rfs qs)/\(∀ p∈qs,H p.2=some (.tup (E.enc p.1))/\ok p.1) ∧
 H f=some (.frz o (.own f))/\o.data=.func fd/\ar P w K mg base CX0 kk f fd [pn] (rj E T J steps ok H)/\Binds K fd [pn] []/\(∀ x,ok x->∀ y∈steps x,ok y.2)/\(∀ x,ok x->x∈U)/\U.length<=1000/\JOk T J/\J H ∧
 ∀ d H' es,RS E P w T ok U H H' d es->Run steps (qs.map (·.1)) es.length (es.map xpE)->J H'->Q (.ref d) H'
end
section
variable {α:Type} [DecidableEq α]
theorem il(p:List Str):∀(es:List (α×List Str))(ss:List (Str×α)),∃ n,pushS p es ss=es++n
 | es,[]=>⟨[],by simp [pushS]⟩
 | es,(z,y)::ss=>by
  unfold pushS
  split
  ·exact il p es ss
  ·obtain⟨n,h⟩:=il p (es++[(y,p++[z])]) ss;exact⟨(y,p++[z])::n,by rw[h];simp⟩
theorem iF(es:List (En α)):(es.map xpE).map (·.1)=es.map (·.x):=by rw[Du];rfl
variable {E:er α}{P:Program}{w:World}{K:PySem.W.Frag}{mg:Str->Option Value}{base:Heap}
theorem Cm{kk:Nat}{pn:Str}(F:Fun K "reach" "reach" gH f fd) (hli:mg "list" = none):ar P w K mg base CX0 (kk+1) f fd ["starts","steps_from"] (nN E P w K mg base kk pn):=by
 refine F.ok oN (fun vs H Q E h=>?_) (fun cdv A outer s H vs Q E1 hr h=>?_)
 ·obtain⟨c,g,T,J,fd,o,steps,ok,U,qs,rfl,_⟩:=h;rfl
 ·obtain⟨c,g,T,J,fd,o,steps,ok,U,qs,rfl,hc,hq,hg,ho,FF,BB,hnx,hU,hUl,jo,jh,k⟩:=h;have hu:=hr.units;refine⟨_,ae (av nRe 2 xJ)
   (ae (bC PassesOwn.never rfl (bu (q_v 0)) (q_g nRe 3) (ah (oe hu (q_v 2) (q_v 3) gN)))
   (ae (av nRe 4 (q_t (Ag rfl) hli (aa (q_v 2) ab)))
   (ae (gA PassesOwn.never (pG (q_v 4))
    (ae (av nRe 5 (bf ab))
    (ae (bC PassesOwn.never rfl (bu (q_v 4)) (q_g nRe 3)
     (ah (bC PassesOwn.never rfl (bu (uc (q_v 1) FF BB ho hr (aa (q_v 3) ab))) (eI rfl (bj (q_g nRe 6) (bj (q_g nRe 7) dN)))
      (ah (cc (aR (BH hu) (q_v 7) (q_v 2))
       (ae (oe hu (q_v 2) (q_v 7) (dj (aa (q_v 3) (aa (q_v 6) ab))))
       (ah (bw (cT (q_v 5) (q_v 7))))) bY)))))
    (ah (av nRe 4 (q_v 5))))))
   (ah (bz (q_v 2)))))),?_⟩
  have z1:∀{n:Nat},n<=1000->n<=sizeLine:=fun h=>by rw[DV];lia
  have z2:∀{n:Nat},n<=1000->n<sizeLine:=fun h=>by rw[DV];lia
  have gC:∀{H1:Hp},ak T H H1->RdL H1 c (rfs qs):=fun e=>ix hc e.toT
  refine fun d H1 hd h1 e1=>?_
  refine⟨_,gC (Ext.toP e1),bZ (xs:=rfs qs) (fun i σ H2=>∃(v3:Option V) (es:List (En α)),σ=[some (.ref c),some (.ref g),some (.ref d),v3,none,none,none,none]/\RS E P w T ok U H H2 d es/\J H2/\(∀ e∈es,e.v=.non)/\es.map xpE=bM [] ((qs.map (·.1)).take i))
   ⟨_,[],rfl,⟨Ext.toP e1,hd,h1,(fun e he=>nomatch he),(fun e he=>nomatch he),?_,fun i e he=>by simp at he,EK⟩,jo.ext jh e1,(fun e he=>nomatch he),by simp [bM]⟩ (fun i σ H2 _ hp=>?_) ?_ ?_⟩
  ·show 0+mis U []<=U.length
   rw[Nat.zero_add];exact Fb
  ·obtain⟨_,_,_,r,_⟩:=hp;exact gC r.ext
  ·rintro i x σ H2 hx ⟨v3,es,rfl,r,j2,hv,hrun⟩;unfold rfs at hx;rw[Dq,Dy]at hx;obtain⟨p,hp,rfl⟩:=hx;have hpm:=Dw hp;have hb:=ak.tup r.ext _ _ (hq p hpm).1;have tk:(qs.map (·.1)).take (i+1)=(qs.map (·.1)).take i++[p.1]:=by
    rw[EI,Dq,hp];rfl
   refine⟨_,r.dd,r.keys,z2 (by rw[Dd];exact r.len hUl),_,hb,_,E.ok p.1,fun H4 h4 b4=>?_⟩
   have j4:J H4:=jo.but j2 r.dd (fun ps z=>nomatch z) (fun o k z=>nomatch z) b4
   by_cases hin:p.1∈es.map (·.x)
   ·rw[wK E hin hv]at h4;refine⟨_,es,rfl,r.move (kq r.ext hd b4) h4 (dS b4 r.dd fun xs z=>nomatch z),j4,hv,?_⟩
    rw[tk,i9,<-hrun];unfold bM;rw[iF,if_pos hin];rfl
   ·rw[qF E (p:=[]) hin]at h4;refine⟨_,_,rfl,r.put hU hb hin (hq p hpm).2 (.inl ⟨rfl,rfl⟩) h4 b4,j4,fun e he=>?_,?_⟩
    ·rcases Dp.mp he with he|he
     ·exact hv e he
     ·rw[Dj]at he;subst he;rfl
    ·rw[tk,i9,<-hrun];unfold bM;rw[iF,if_neg hin,Dn];rfl
  ·rintro σ H2 ⟨v3,es0,rfl,r0,j0,hv,hrun0⟩;have lr:(rfs qs).length=qs.length:=by unfold rfs;rw[Dd]
   have hrun0:Run steps (qs.map (·.1)) 0 (es0.map xpE):=by
    rw[hrun0,lr,Ec (by rw[Dd];exact Di _)]
    exact .zero
   refine⟨_,r0.dd,fun l0 H3 hl0 h3 e3=>?_⟩
   have h3:H3 l0=some (.lst (rfs (es0.map fun e=>(e.x,e.a)))):=by
    rw[h3];unfold rfs;rw[Du,Du];rfl
   refine⟨(fun m σ H4=>∃(v3 v5 v6 v7:Option V) (l:Addr) (es:List (En α)) (q:Nat),σ=[some (.ref c),some (.ref g),some (.ref d),v3,some (.ref l),v5,v6,v7]/\RS E P w T ok U H H4 d es/\J H4/\H l=none/\H4 l=some (.lst (rfs ((es.drop q).map fun e=>(e.x,e.a)))) ∧
     q<=es.length/\Run steps (qs.map (·.1)) q (es.map xpE)/\m=2*mis U (es.map (·.x))+(if es.drop q=[] then 0 else 1)),
    ⟨_,_,_,_,_,l0,es0,0,rfl,r0.up e3,jo.ext j0 e3,ak.none r0.ext hl0,h3,DZ _,hrun0,rfl⟩,?_⟩
   rintro m σ H4 ⟨v3,v5,v6,v7,l,es,q,rfl,r,j4,hl,h4,hq1,hrun,rfl⟩;refine⟨_,.inl h4,aV (fun hA=>?_) (fun hA=>?_)⟩
   ·have hne:es.drop q≠[]:=fun z=>by
     rw[z]at hA;exact DQ hA
    rw[if_neg hne];refine⟨_,fun _ _ z=>z,?_⟩
    refine⟨z1 (by show 0<=1000;decide),fun l2 H5 hl2 h5 e5=>?_⟩
    have hl2n:H l2=none:=ak.none r.ext hl2;have nl:l≠l2:=aB h4 hl2;have frl:((es.drop q).map fun e=>(e.x,e.a)).length=es.length-q:=by rw[Dd,Fo]
    refine⟨_,.inl (e5.up h4),bZ (xs:=rfs ((es.drop q).map fun e=>(e.x,e.a))) (fun i σ H6=>∃(v3 v6 v7:Option V) (ne:List (En α)),σ=[some (.ref c),some (.ref g),some (.ref d),v3,some (.ref l),some (.ref l2),v6,v7]/\RS E P w T ok U H H6 d (es++ne)/\J H6/\H6 l=some (.lst (rfs ((es.drop q).map fun e=>(e.x,e.a)))) ∧
      H6 l2=some (.lst (rfs (ne.map fun e=>(e.x,e.a))))/\ne.length+mis U ((es++ne).map (·.x))<=mis U (es.map (·.x))/\Run steps (qs.map (·.1)) (q+i) ((es++ne).map xpE))
     ⟨_,_,_,[],rfl,by rw[D9];exact r.up e5,jo.ext j4 e5,e5.up h4,h5,by rw[D9];show 0+_<=_;lia,by rw[D9];exact hrun⟩ (fun i σ H6 _ hp=>?_) ?_ ?_⟩
    ·obtain⟨_,_,_,_,_,_,_,h6,_⟩:=hp;exact .inl h6
    ·rintro i x σ H6 hx ⟨w3,w6,w7,ne,rfl,r6,j6,h6,h6l,hms,hrun6⟩;unfold rfs at hx;rw[Du,Dq,Dy]at hx;obtain⟨e0,he0,rfl⟩:=hx;rw[List.getElem?_drop]at he0;have he0m:=Dw he0;have he0':(es++ne)[q+i]? =some e0:=by
      rw[Ep (DI.mp he0).1];exact he0
     have e0m:e0∈es++ne:=Ft _ he0m;have hp6:=r6.ents e0 e0m;have okp:=r6.okk e0 e0m;refine⟨rfl,r6.ext.up hg (fun ps z=>nomatch z),r6.ext.up hg (fun ps z=>nomatch z),e0.a,e0.x,rfl,r6.ext,j6,hp6,okp,fun l3 H7 ss hl3 h7 s7 n7 e7 j7=>?_⟩
     have nl3:l3≠l2:=(aB h6l hl3).symm;have hstn:∀ e∈ss,(e.z,e.st)∈steps e0.x:=fun e he=>n7▸DU (f:=fun e:SE α=>(e.z,e.st)) he
     have nT:∀{H:Hp} {b:Addr} {ys:List V},H b=some (.lst ys)->∀ ps,HO.lst ys≠.tbl ps:=fun _ ps z=>nomatch z
     refine⟨_,.inl h7,bZ (xs:=ss.map fun e=>V.ref e.ap) (fun j σ H8=>∃(v6 v7:Option V) (n2:List (En α)),σ=[some (.ref c),some (.ref g),some (.ref d),some (.ref e0.a),some (.ref l),some (.ref l2),v6,v7]/\RS E P w T ok U H H8 d (es++n2)/\J H8/\H8 l=some (.lst (rfs ((es.drop q).map fun e=>(e.x,e.a)))) ∧
       H8 l2=some (.lst (rfs (n2.map fun e=>(e.x,e.a))))/\H8 l3=some (.lst (ss.map fun e=>V.ref e.ap))/\aM H7 H8/\n2.length+mis U ((es++n2).map (·.x))<=mis U (es.map (·.x))/\(∃ n3,n2=ne++n3) ∧
       (es++n2).map xpE=pushS e0.p ((es++ne).map xpE) ((steps e0.x).take j))
      ⟨_,_,ne,rfl,r6.upP e7,j7,e7.up h6 (nT h6),e7.up h6l (nT h6l),h7,fun _ _ h=>h,hms,⟨[],by rw[D9]⟩,by rw[List.take_zero];rfl⟩ (fun j σ H8 _ hp=>?_) ?_ ?_⟩
     ·obtain⟨_,_,_,_,_,_,_,_,h8,_⟩:=hp;exact .inl h8
     ·rintro j x σ H8 hx ⟨u6,u7,n2,rfl,r8,j8,h8,h8l,h83,t8,hms2,⟨n3,hn3⟩,hrun8⟩;rw[Dq,Dy]at hx;obtain⟨e,he,rfl⟩:=hx;have hem:=Dw he;obtain⟨s1,s2⟩:=s7 e hem;have s1:=t8 _ _ s1;have s2:=t8 _ _ s2;have oke:ok e.st:=hnx _ okp _ (hstn e hem);have tk:(steps e0.x).take (j+1)=(steps e0.x).take j++[(e.z,e.st)]:=by
       rw[EI,<-n7,Dq,he];rfl
      refine⟨_,.inl s2,rfl,?_⟩;refine⟨_,r8.dd,r8.keys,_,s1,_,E.ok e.st,aV (fun hB=>?_) (fun hB=>?_)⟩
      ·have hB:e.st∉(es++n2).map (·.x):=by
        have hB:(!(atB ((es++n2).map (enB E)) (E.key e.st)).isSome)=true:=hB;rw[ja]at hB;simpa using hB
       refine⟨z1 (by show 2<=1000;decide),fun t H9 ht h9 e9=>?_⟩
       have r9:=r8.up e9;refine⟨_,r9.dd,r9.keys,z2 (by rw[Dd];exact r9.len hUl),_,e9.up s1,_,E.ok e.st,fun H10 h10 b10=>?_⟩
       rw[qF E (p:=e0.p++[e.z]) hB]at h10;have e0m2:e0∈es++n2:=Ft _ he0m;have r10:=r9.put hU (e9.up s1) hB oke (.inr ⟨t,e0.a,e.z,e0,e0m2,rfl,h9,r9.ents e0 e0m2,rfl⟩) h10 b10;have j10:J H10:=jo.but (jo.ext j8 e9) r9.dd (fun ps z=>nomatch z) (fun o k z=>nomatch z) b10
       have nd:∀{b:Addr} {ys:List V},H9 b=some (.lst ys)->b≠d:=fun hb=>bo hb r9.dd fun w=>nomatch w
       have h10l:H10 l2=some (.lst (rfs (n2.map fun e=>(e.x,e.a)))):=b10.up (nd (e9.up h8l)) (e9.up h8l)
       have rl:n2.length<=1000:=by
        have:mis U (es.map (·.x))<=U.length:=Fb
        lia
       refine⟨_,.inl h10l,_,h10l,by unfold rfs;rw[Dd,Dd];exact z2 rl,fun H11 h11 b11=>?_⟩
       have t9:aM H8 H10:=aM.trans (Ext.tup e9) (dS b10 r9.dd fun xs z=>nomatch z)
       have t11:aM H10 H11:=dS b11 h10l fun xs z=>nomatch z
       have nd2:d≠l2:=bo r10.dd h10l fun w=>nomatch w
       have j11:J H11:=jo.but j10 h10l (fun ps z=>nomatch z) (fun o k z=>nomatch z) b11
       have ass:es++n2++[En.mk e.st e.as (V.ref t) (e0.p++[e.z])]=es++(n2++[En.mk e.st e.as (V.ref t) (e0.p++[e.z])]):=Ed ..;have r11:=r10.move (kq r10.ext hl2n b11) (b11.up nd2 r10.dd) t11;rw[ass]at r11;refine⟨_,_,n2++[En.mk e.st e.as (V.ref t) (e0.p++[e.z])],rfl,r11,j11,b11.up nl (b10.up (nd (e9.up h8)) (e9.up h8)),?_,b11.up nl3 (b10.up (nd (e9.up h83)) (e9.up h83)),aM.trans t8 (aM.trans t9 t11),?_,⟨n3++[En.mk e.st e.as (V.ref t) (e0.p++[e.z])],by rw[hn3,Ed]⟩,?_⟩
       ·rw[h11];unfold rfs;rw[Dn,Dn];rfl
       ·have:=dW hB U
        rw[if_pos (hU _ oke)]at this;rw[<-ass,Dl,Dn];show n2.length+1+mis U ((es++n2).map (·.x)++[e.st])<=_
        lia
       ·rw[tk,iS,<-hrun8];unfold pushS;rw[iF,if_neg hB,<-ass,Dn];rfl
      ·have hB:e.st∈(es++n2).map (·.x):=by
        have hB:¬ (!(atB ((es++n2).map (enB E)) (E.key e.st)).isSome)=true:=hB;rw[ja]at hB;exact Decidable.byContradiction fun z=>hB (by rw[DT z];rfl)
       refine⟨_,_,n2,rfl,r8,j8,h8,h8l,h83,t8,hms2,⟨n3,hn3⟩,?_⟩;rw[tk,iS,<-hrun8];unfold pushS;rw[iF,if_pos hB];rfl
     ·rintro σ H8 ⟨u6,u7,n2,rfl,r8,j8,h8,h8l,h83,t8,hms2,hn3,hrun8⟩;refine⟨_,_,_,n2,rfl,r8,j8,h8,h8l,hms2,?_⟩;have full:(steps e0.x).take (ss.map fun e=>V.ref e.ap).length=steps e0.x:=Ec (by rw[<-n7,Dd,Dd];exact Di _)
      rw[full]at hrun8;rw[hrun8];refine Run.next (k:=q+i) hrun6 ?_;rw[Dq,he0'];rfl
    ·rintro σ H6 ⟨w3,w6,w7,ne,rfl,r6,j6,h6,h6l,hms,hrun6⟩;have lq:q+(rfs ((es.drop q).map fun e=>(e.x,e.a))).length=es.length:=by
      unfold rfs;rw[Dd,frl];lia
     rw[lq]at hrun6;have dr:(es++ne).drop es.length=ne:=by rw[List.drop_left]
     refine⟨_,?_,_,_,_,_,l2,es++ne,es.length,rfl,r6,j6,hl2n,by rw[dr];exact h6l,by rw[Dl];lia,hrun6,rfl⟩
     rw[dr];cases ne with
     | nil=>
      rw[if_pos rfl];simp only[E8]at hms;lia
     | cons p re=>
      rw[if_neg (by simp)]
      rw[DR]at hms;lia
   ·have hnil:es.drop q=[]:=by
     cases h:es.drop q with
     | nil=>rfl
     | cons p r=>rw[h]at hA;exact absurd rfl hA
    have:q=es.length:=by
     have:=congrArg List.length hnil
     rw[Fo,E8]at this;lia
    rw[this]at hrun;exact k d H4 es r hrun j4
end
end K
end
section
namespace SB
open PySem PySem.Spec PyProof.Rows L2
section
variable {X:Cx}{o i:Expr}{td ty:TE}{pos:Pos}
noncomputable def AL (X:Cx)(td ty:TE):TE:=fun σ H Q=>td σ H fun x H1=>ty σ H1 fun y H2=>match x,y with
 | .ref a,.ref b=>∃ xs,H2 a=some (DTB X.prog X.w a xs)/\eV H2 xs/\∃ ys,H2 b=some (.tup ys)/\∃ k,cZ ys k/\∃ v,atB xs k=some v/\Q v H2
 | _,_=>False
theorem BD{xs:List aY}(I:Inv X pins σ H s)(e:H a=some (DTB X.prog X.w a xs)):s.TypeIs (.ref a) "dict":=by
 obtain⟨⟨vs,r,z,hs,o,es,ep,ho,ex,hd,h4,h5⟩,_⟩:=(show aj X.prog X.w H s.heap a (DTB X.prog X.w a xs) from I.hok a _ e)
 exact⟨o,ho,ex.1⟩
theorem mZ(hu:X.A.units+64<cLine)(ho:PE X o td)(hi:PE X i ty)(hs:jW i:=by intro _ _;rfl):PE X (.Subscript o i pos) (AL X td ty):=by
 intro pins s σ H Q I h;refine tS PySem.F.slot_dict_getitem.lookup hs (thn (ho pins s σ H _ I h) fun u s1 ⟨x,H1,I1,rx,q1⟩=>thn (hi pins s1 σ H1 _ I1 q1) fun iv s2 hZ=>?_)
 obtain⟨y,H2,I2,ry,q2⟩:=hZ
 try dsimp only at q2
 split at q2
 ·rename_i a b
  obtain⟨xs,hx,kk,ys,hy,k,hk,v,hv,q⟩:=q2;cases rx
  cases ry
  obtain⟨z,hd,vs,r,dd⟩:=kW I2.hok hx kk;have ra:=r.at k;rw[hv]at ra;cases e:atKey vs k with
  | none=>rw[e]at ra;exact False.elim ra
  | some p=>
   rw[e]at ra;exact⟨BD I2 hx,wpAny_getItem_heap (tupleKind_room_in1 (by lia)) (jH I2.hok hy hk) dd e ⟨v,H2,I2.tok _,ra,q⟩⟩
 ·exact q2.elim
end
end SB
end
section
end
section
namespace SB
open PySem PySem.Spec PyProof.Rows L2
noncomputable def bp:List Int->List Int->Bool
 | [],[]=>false
 | [],_::_=>true
 | _::_,[]=>false
 | x::xs,y::ys=>if x=y then bp xs ys else decide (x<y)
theorem uj:∀ a b c:List Int,bp a b=true->bp b c=true->bp a c=true
 | [],[],_,h,_=>by cases h
 | [],_::_,[],_,h=>by cases h
 | [],_::_,_::_,_,_=>rfl
 | _::_,[],_,h,_=>by cases h
 | _::_,_::_,[],_,h=>by cases h
 | x::xs,y::ys,z::zs,h1,h2=>by
  unfold bp at h1 h2 ⊢
  by_cases e1:x=y
  ·subst e1;rw[if_pos rfl]at h1
   by_cases e2:x=z
   ·rw[if_pos e2]at h2 ⊢;exact uj xs ys zs h1 h2
   ·rw[if_neg e2]at h2 ⊢;exact h2
  ·rw[if_neg e1]at h1;have h1:=DX h1
   by_cases e2:y=z
   ·subst e2;rw[if_neg e1];exact DB h1
   ·rw[if_neg e2]at h2;have h2:=DX h2;rw[if_neg (by lia)]
    exact DB (by lia)
theorem oC:∀ a b:List Int,a≠b->bp a b=false->bp b a=true
 | [],[],h,_=>absurd rfl h
 | [],_::_,_,h=>by cases h
 | _::_,[],_,_=>rfl
 | x::xs,y::ys,h,h1=>by
  unfold bp at h1 ⊢
  by_cases e:x=y
  ·subst e;rw[if_pos rfl]at h1 ⊢;exact oC xs ys (fun z=>h (by rw[z])) h1
  ·rw[if_neg e]at h1;rw[if_neg (fun z=>e z.symm)]
   have:=of_decide_eq_false h1
   exact DB (by lia)
theorem tV:∀ a b:List Int,bp a b=true->bp b a=false
 | [],[],h=>by cases h
 | [],_::_,_=>rfl
 | _::_,[],h=>by cases h
 | x::xs,y::ys,h=>by
  unfold bp at h ⊢
  by_cases e:x=y
  ·subst e;rw[if_pos rfl]at h ⊢;exact tV xs ys h
  ·rw[if_neg e]at h;rw[if_neg (fun z=>e z.symm)]
   have:=DX h
   exact DT (by lia)
theorem lG:bS (fun _:List Int=>True) bp:=⟨fun a b c _ _ _=>uj a b c,fun a b _ _=>oC a b,fun a b _ _=>tV a b⟩
noncomputable def Nums (xs:List Int)(vs:List Value):Prop:=Vals (xs.map V.int) vs
theorem Nums.cons_inv{x:Int}{xs:List Int}(h:Nums (x::xs) vs):∃ t r,vs=.int x t::r/\Nums xs r:=by
 unfold Nums at h;rw[Dk]at h;cases h with
 | cons r1 r2=>
  obtain⟨t,rfl⟩:=r1;exact⟨t,_,rfl,r2⟩
theorem Nums.nil_inv(h:Nums [] vs):vs=[]:=by
 unfold Nums at h;cases h
 rfl
section
variable {prog:Program}{w:World}{A:Around}{E:Value->Shared->Prop}{s:Shared}
theorem p7{b fin:Bool}{C:Bool->Shared->Prop}:∀(xs ys:List Int)(vs vs':List Value)(i:Nat),Nums xs vs->Nums ys vs'->fin=decide (xs.length<ys.length)->C (bp xs ys) s->PySem.W.KatLex prog w A b fin C (vs.zip vs') i s
 | [],[],vs,vs',i,h1,h2,hf,h=>by
  rw[h1.nil_inv,h2.nil_inv,hf];exact h
 | [],y::ys,vs,vs',i,h1,h2,hf,h=>by
  obtain⟨t,r,rfl,_⟩:=h2.cons_inv;rw[h1.nil_inv,hf];exact h
 | x::xs,[],vs,vs',i,h1,h2,hf,h=>by
  obtain⟨t,r,rfl,_⟩:=h1.cons_inv;rw[h2.nil_inv,hf];exact h
 | x::xs,y::ys,vs,vs',i,h1,h2,hf,h=>by
  obtain⟨t,r,rfl,n1⟩:=h1.cons_inv;obtain⟨t',r',rfl,n2⟩:=h2.cons_inv;rw[List.zip_cons_cons];unfold bp at h;refine PySem.W.kat_cons (wpAny_eqBool_int ?_)
  by_cases e:x=y
  ·subst e;rw[if_pos rfl]at h;rw[show(x==x)=true from by simp]
   exact PySem.W.kat_yes (p7 xs ys r r' (i+1) n1 n2 (by rw[hf];simp) h)
  ·rw[if_neg e]at h;rw[show(x==y)=false from by simpa using e]
   refine PySem.W.kat_no ?_;cases hb:(b&&i==0) with
   | false=>exact PySem.W.kat_one _ _ (lt_int h)
   | true=>exact oneLt_int h
noncomputable def cM (h:Heap)(xs:List Int)(a:Addr):Prop:=∃ o its n,h.get? a=some o/\o.cls=.type "tuple"/\o.data=.seq its n/\Nums xs its.toList
theorem cM.keep{xs:List Int}(n:cM h xs a)(k:∀ b o,h.get? b=some o->h'.get? b=some o):cM h' xs a:=by
 obtain⟨o,its,m,h1,h2,h3,h4⟩:=n;exact⟨o,its,m,k _ _ h1,h2,h3,h4⟩
theorem kh:∀{xs ys:List Int}{vs:List Value},Nums xs vs->Nums ys vs->xs=ys
 | [],[],_,_,_=>rfl
 | [],y::ys,vs,h1,h2=>by
  obtain⟨t,r,rfl,_⟩:=h2.cons_inv
  have:=h1.nil_inv
  cases this
 | x::xs,[],vs,h1,h2=>by
  obtain⟨t,r,rfl,_⟩:=h1.cons_inv
  have:=h2.nil_inv
  cases this
 | x::xs,y::ys,vs,h1,h2=>by
  obtain⟨t,r,rfl,n1⟩:=h1.cons_inv;obtain⟨t',r',e,n2⟩:=h2.cons_inv;injection e with e1 e2;injection e1 with e3 _;subst e3;subst e2;rw[kh n1 n2]
theorem cM.inj{xs ys:List Int}(n:cM h xs a)(m:cM h ys a):xs=ys:=by
 obtain⟨o,its,k,h1,h2,h3,h4⟩:=n;obtain⟨o',its',k',h1',h2',h3',h4'⟩:=m;rw[h1]at h1';cases h1'
 rw[h3]at h3';cases h3'
 exact kh h4 h4'
theorem g0:∀{xs:List Int}{vs:List Value},Nums xs vs->vs.length=xs.length
 | [],_,h=>by rw[h.nil_inv];rfl
 | x::xs,_,h=>by
  obtain⟨t,r,rfl,n⟩:=h.cons_inv;rw[DR,DR,g0 n]
theorem vm{xs ys:List Int}{a':Addr}(h1:cM s.heap xs a)(h2:cM s.heap ys a')(b:Bool){C:Bool->Shared->Prop}(h:C (bp xs ys) s):wpAny (model prog w) A (keyLt' (tuples' b) (.ref a) (.ref a')) C E s:=by
 obtain⟨o,its,n,ho,hc,hd,hi⟩:=h1;obtain⟨o',its',n',ho',hc',hd',hi'⟩:=h2;refine PySem.W.kat_lt ho hd ho' hd' (p7 xs ys _ _ 0 hi hi' ?_ h);have e1:=g0 hi;have e2:=g0 hi';rw[DJ]at e1 e2;rw[e1,e2]
theorem uv{ys:List (List Int×Value)}(hk:∀ p∈ys,p.1≠[]/\∃ a,p.2=.ref a/\cM s.heap p.1 a)(h2:2<=ys.length){Q:SortKind->Shared->Prop}(h:Q (tuples' true) s):wpAny (model prog w) A (keyKind' (ys.map (·.2)).toArray) Q E s:=by
 have hall:∀(zs:List (List Int×Value)),(∀ p∈zs,p.1≠[]/\∃ a,p.2=.ref a/\cM s.heap p.1 a)->∃ fs:List Value,fs.length=zs.length/\PySem.W.KatTups s.heap (zs.map (·.2)) fs/\∀ f∈fs,∃ i t,f=Value.int i t:=by
  intro zs;induction zs with
  | nil=>intro _;exact⟨[],rfl,PySem.W.KatTups.nil,fun f hf=>by cases hf⟩
  | cons z zs ih=>
   intro hz;obtain⟨fs,l1,l2,l3⟩:=ih fun p hp=>hz p (Dr _ hp)
   obtain⟨zk,zv⟩:=z;obtain⟨hne,a,e,o,items,n,ho,hc,hd,hi⟩:=hz _ (Dm ..)
   simp only at e hi hne
   subst e;cases zk with
   | nil=>exact absurd rfl hne
   | cons k0 kr=>
    obtain⟨t,r,e,_⟩:=hi.cons_inv;refine⟨.int k0 t::fs,by rw[DR,DR,l1],PySem.W.KatTups.cons ho hc hd ?_ l2,fun f hf=>?_⟩
    ·rw[<-DK,e];rfl
    ·rcases DG.mp hf with rfl|hf
     ·exact⟨k0,t,rfl⟩
     ·exact l3 f hf
 obtain⟨fs,l1,l2,l3⟩:=hall ys hk;refine PySem.W.kat_kind (T:=Value.type "int") l2 (by lia) (fun v hv=>?_) (by decide) h
 obtain⟨i,t,rfl⟩:=l3 v hv;exact .now
end
theorem yj{xs:List Int}(ok:HOk P w H h)(e:H a=some (.tup (xs.map V.int))):cM h xs a:=by
 obtain⟨_,its,r,o,h1,h2,n,h3⟩:=(show aj P w H h a (.tup (xs.map V.int)) from ok a _ e)
 exact⟨o,its.toArray,n,h1,h2,h3,r⟩
noncomputable abbrev je:=List Int×Addr×V
noncomputable def ft (e:je):aY:=(e.1.map Sum.inl,e.2.1,e.2.2)
theorem lX:∀{out:List (List Int×Value)}{f:List Int×Value->Addr},(∀ p∈out,p.2=Value.ref (f p))->Vals (out.map fun p=>V.ref (f p)) (out.map (·.2))
 | [],_,_=>.nil
 | p::out,f,h=>by
  rw[Dk,Dk,h p (Dm ..)];exact .cons rfl (lX fun q hq=>h q (Dr _ hq))
section
variable {X:Cx}
noncomputable def qe (X:Cx):List V->Hp->VK->Prop:=fun xs H Q=>match xs with
 | [.ref a]=>∃ es:List je,H a=some (DTB X.prog X.w a (es.map ft))/\(∀ e∈es,H e.2.1=some (.tup (e.1.map V.int))/\e.1≠[])/\aU ((es.map (·.1)).Nodup) ∧
   ∀ out:List (List Int×Addr),out.Perm (es.map fun e=>(e.1,e.2.1))->(out.map (·.1)).Pairwise (fun x y=>bp x y=true)->New H (.lst (out.map fun p=>V.ref p.2)) Q
 | _=>False
theorem AM(hc:X.calm=true):aD X (.builtin "sorted") (qe X):=by
 intro pins s σ H xs us Q I r h;unfold qe at h
 split at h
 ·rename_i a
  obtain⟨xs,hx,hk,nd,q⟩:=h;have nd:(xs.map (·.1)).Nodup:=nd;obtain⟨u,rfl,rx⟩:=vals1 r;cases rx
  obtain⟨⟨vs,rel,z,hs,o,es,ep,ho,ex,hd,h4,h5⟩,_⟩:=(show aj X.prog X.w H s.heap a (DTB X.prog X.w a (xs.map ft)) from I.hok a _ hx)
  have hlen:es.size=xs.length:=by
   have:=congrArg List.length h4
   rw[Dd,<-Paired.length rel,Dd]at this;simpa using this
  rw[Dd]at z;have nt:∀ e∈xs,cM s.heap e.1 e.2.1:=fun e he=>yj I.hok (hk e he).1
  refine jY (Rel:=fun k v=>∃ e∈xs,e.1=k/\v=.ref e.2.1) lG (ks:=xs.map (·.1)) (by rw[Dd];exact z) nd (fun _ _=>trivial) ?_ (tuples' true) ?_ ?_ ?_ ?_
  ·rintro k _ k' _ v ⟨e,he,rfl,rfl⟩ ⟨e',he',rfl,e2⟩;injection e2 with e2;have n1:=nt e he;rw[e2]at n1;exact n1.inj (nt e' he')
  ·intro s1 ys hy kp h2 Q' q';refine uv (fun p hp=>?_) h2 q'
   obtain⟨_,e,he,e1,e2⟩:=hy p hp;exact⟨by rw[<-e1];exact(hk e he).2,e.2.1,e2,by rw[<-e1];exact(nt e he).keep kp⟩
  ·rintro s1 kp x ⟨_,e,he,e1,e2⟩ y ⟨_,e',he',e1',e2'⟩ C hC;rw[e2,e2'];rw[<-e1,<-e1']at hC;exact vm ((nt e he).keep kp) ((nt e' he').keep kp) true hC
  ·intro E' R hR;refine gather (A:=X.A.in1) (sL hs ex hd) (by simp [I.ok.hd hc]) ho (by rw[hlen];exact z) fun h' tk acc kp hsz hacc=>?_
   obtain⟨ys,e1,e2,e3⟩:=jr (Rel:=fun(k:List Int) v=>∃ e∈xs,e.1=k/\v=.ref e.2.1) (xs.map (·.1)) acc.toList (by rw[DJ,hacc.1,Dd,hlen]) fun i k v hk hv=>by
    have hv':acc[i]? =some v:=by rw[<-DK];exact hv
    obtain⟨e',hkx,hkey⟩:=hacc.2 i v hv';rw[Dq,Dy]at hk;obtain⟨e,he,rfl⟩:=hk;obtain⟨u,hu,_⟩:=nJ rel (e:=ft e) (by rw[Dq,he];rfl)
    have hx2:es[i]? =some (entryOfKey (tupleKind (dH X.prog X.w)) ((ft e).1,(ft e).2.1,u)):=by
     rw[<-DK,h4,Dq,hu];rfl
    rw[hx2]at hkx;cases hkx
    exact⟨e,Dw he,rfl,hkey⟩
   rw[<-e2];exact hR h' tk ys e1 e3 kp hsz
  ·intro h' tk D c out hpo hup hrel keep hD hg;have pick:∀ p:List Int×Value,∃ b:Addr,p∈out->p.2=.ref b/\(p.1,b)∈xs.map fun e=>(e.1,e.2.1):=fun p=>by
    by_cases hp:p∈out
    ·obtain⟨e,he,e1,e2⟩:=hrel p hp;exact⟨e.2.1,fun _=>⟨e2,Dg.mpr ⟨e,he,by rw[e1]⟩⟩⟩
    ·exact⟨0,fun z=>absurd z hp⟩
   let f:=fun p=>Classical.choose (pick p)
   have hf:∀ p∈out,p.2=.ref (f p)/\(p.1,f p)∈xs.map fun e=>(e.1,e.2.1):=fun p hp=>Classical.choose_spec (pick p) hp
   have hol:out.length=xs.length:=by
    have:=hpo.length_eq
    rw[Dd,Dd]at this;exact this
   have hperm:(out.map fun p=>(p.1,f p)).Perm (xs.map fun e=>(e.1,e.2.1)):=by
    have n1:(out.map (·.1)).Nodup:=hpo.nodup_iff.mpr nd;have n2:(out.map fun p=>(p.1,f p)).Nodup:=by
     have:((out.map fun p=>(p.1,f p)).map (·.1)).Nodup:=by rw[Du];exact n1
     exact List.Pairwise.of_map (S:=fun a b=>a≠b) (·.1) (fun a b h z=>h (by rw[z])) this
    have n3:(xs.map fun e=>(e.1,e.2.1)).Nodup:=by
     have:((xs.map fun e=>(e.1,e.2.1)).map (·.1)).Nodup:=by rw[Du];exact nd
     exact List.Pairwise.of_map (S:=fun a b=>a≠b) (·.1) (fun a b h z=>h (by rw[z])) this
    refine(Fl n2 n3).mpr fun q=>⟨fun hq=>?_,fun hq=>?_⟩
    ·obtain⟨p,hp,rfl⟩:=Dg.mp hq
     exact(hf p hp).2
    ·obtain⟨e,he,rfl⟩:=Dg.mp hq
     have:e.1∈out.map (·.1):=hpo.mem_iff.mpr (DU he)
     obtain⟨p,hp,e1⟩:=Dg.mp this;refine Dg.mpr ⟨p,hp,?_⟩;obtain⟨e',he',e2⟩:=Dg.mp (hf p hp).2;have e3:=(Prod.mk.inj e2)
     have:e'=e:=by
      have hh:∀{l:List je},(l.map (·.1)).Nodup->e'∈l->e∈l->e'.1=e.1->e'=e:=by
       intro l hl;induction l with
       | nil=>intro h _ _;cases h
       | cons y l ih=>
        rw[Dk,Eu]at hl;intro m1 m2 ee;rcases DG.mp m1 with z1|m1 <;> rcases DG.mp m2 with z2|m2
        ·rw[z1,z2]
        ·rw[z1]at ee;exact absurd (ee▸DU (f:=(·.1)) m2) hl.1
        ·rw[z2]at ee;exact absurd (ee▸DU (f:=(·.1)) m1) hl.1
        ·exact ih hl.2 m1 m2 ee
      exact hh nd he' he (by rw[e3.1,e1])
     rw[<-e3.2,this,e1]
   have I2:Inv X pins σ (upd H D (.lst ((out.map fun p=>(p.1,f p)).map fun p=>V.ref p.2))) { s with heap:=h',toks:=tk }:=
    I.laid (t':=tk) keep hD (show aj X.prog X.w _ h' D (.lst ((out.map fun p=>(p.1,f p)).map fun p=>V.ref p.2)) from⟨by rw[Dd,Dd,hol];exact z,out.map (·.2),c,by rw[Du];exact lX fun p hp=>(hf p hp).1,hg⟩)
   exact⟨V.ref D,_,I2,rfl,(q _ hperm (by rw[Du];exact hup)).at (I.hok.fresh hD)⟩
 ·exact h.elim
noncomputable def ou:List V->Hp->VK->Prop:=fun xs H Q=>match xs with
 | [.ref p]=>∃ ys,RdT H p ys/\New H (.lst ys) Q
 | _=>False
theorem CW:aD X (.type "list") ou:=aD.weak sF fun xs H Q h=>by
 unfold ou at h
 split at h
 ·obtain⟨ys,hy,q⟩:=h;exact⟨_,ys,rfl,.inr hy.sq,fun l hl=>q.at hl⟩
 ·exact h.elim
noncomputable def uIT (K:PySem.W.Frag)(tl:TE):TI:=fun σ H R=>tl σ H fun x H1=>match x with
 | .ref a=>∃ xs,RdT H1 a xs/\R (Itt K a) H1
 | _=>False
theorem xN{l:Expr}{tl:TE}(hl:PE X l tl):PI X tg l (uIT X.K tl):=PI.weak (xE (PE.cl hl)) fun σ H R h=>⟨_,h,fun x H1 q=>by
 split at q
 ·obtain⟨xs,hx,q⟩:=q;exact⟨_,rfl,⟨xs,hx.sq⟩,q⟩
 ·exact q.elim⟩
end
theorem lK(e:Ext H H')(h:RdT H a xs):RdT H' a xs:=by
 rcases h with h|⟨o,h⟩
 ·exact .inl (e.up h)
 ·exact .inr ⟨o,e.up h⟩
theorem Bc{K:PySem.W.Frag}(h:RdT H a xs):Wk (Itt K a) H xs where
 go:=fun i H' e hi=>⟨xs,xs[i],(lK e h).sq,by simp [hi]⟩
 yld:=fun i H' x H2 e hi y=>⟨y.1,y.2 xs (lK e h).sq⟩
 stop:=fun H' e=>⟨xs,(lK e h).sq,Di _⟩
theorem ux{xs:List aY}{g:TG}{tb:TS}(Pv:Nat->L2.St->Hp->Prop)(h0:Pv 0 σ H)(hl:∀ i σ H,i<=xs.length->Pv i σ H->H a=some (.frz o (DTB P w a xs)))(hs:∀ i e σ H,xs[i]? =some e->Pv i σ H->g (.ref e.2.1) σ H fun σ2 H2=>tb { D with nx:=Pv (i+1),ct:=Pv (i+1),bk:=D.nx } σ2 H2)(hd:∀ σ H,Pv xs.length σ H->D.nx σ H):gs g tb D σ (mU P w o a xs) H:=by
 refine⟨fun i m σ H=>m=xs.length-i/\i<=xs.length/\Pv i σ H,⟨xs.length,by simp,DZ _,h0⟩,?_⟩
 rintro i m σ H ⟨rfl,hi,p⟩;have q:=hl i σ H hi p
 by_cases hlt:i<xs.length
 ·refine .inr ⟨⟨q,hlt⟩,Pv (i+1),fun σ' H' p'=>⟨xs.length-(i+1),by lia,rfl,hlt,p'⟩,fun x H' y=>?_⟩
  obtain⟨rfl,e,he,rfl⟩:=y;exact hs i e σ _ he p
 ·have e:i=xs.length:=by lia
  subst e;exact .inl ⟨⟨q,Di _⟩,hd σ H p⟩
end SB
end
section
set_option maxHeartbeats 4000000
namespace K
open PySem PySem.Spec PyProof.Rows L2 SB
noncomputable abbrev iL:Stmt:=top 19
section
variable {α:Type} [DecidableEq α] (E:er α)(P:Program)(w:World)
theorem xo{es:List (En α)}(nd:(es.map (·.x)).Nodup):∀{i:Nat}{e:En α},es[i]? =some e->atB (es.map (enB E)) (E.key e.x)=some e.v:=by
 induction es with
 | nil=>intro i e h;simp at h
 | cons d r ih=>
  intro i e h;rw[Dk]at nd;obtain⟨n1,n2⟩:=Eu.mp nd;unfold atB;rw[Dk,Ez];cases i with
  | zero=>
   have h:=DL h;subst h;rw[DB (show(enB E d).1=E.key d.x from rfl)]
   rfl
  | succ i=>
   have h:r[i]? =some e:=by simpa using h
   have hm:e.x∈r.map (·.x):=DU (Dw h);have ne:¬ (enB E d).1=E.key e.x:=fun z=>n1 (by
    have:=E.inj _ _ z
    rw[this];exact hm)
   rw[DT ne];exact ih n2 h
structure DS (H:Hp)(d:Addr)(es:List (En α)):Prop where
 dd:H d=some (DTB P w d (es.map (enB E)))
 ents:∀ e∈es,H e.a=some (.tup (E.enc e.x))
 came:∀(i:Nat) (e:En α),es[i]? =some e->fo E H (es.take i) e
 nd:(es.map (·.x)).Nodup
 len:es.length<=1000
variable {E P w}{H H':Hp}{d:Addr}{es:List (En α)}
theorem DS.keys(r:DS E P w H d es):eV H (es.map (enB E)):=fun q hq=>by
 obtain⟨e,he,rfl⟩:=Dg.mp hq;exact⟨_,r.ents e he,E.ok e.x⟩
theorem DS.move(r:DS E P w H d es)(dd:H' d=some (DTB P w d (es.map (enB E))))(t:aM H H'):DS E P w H' d es:=
 ⟨dd,fun e he=>t _ _ (r.ents e he),fun i e h=>(r.came i e h).up t,r.nd,r.len⟩
theorem DS.up(r:DS E P w H d es)(x:Ext H H'):DS E P w H' d es:=r.move (x.up r.dd) (Ext.tup x)
end
noncomputable def mn {α:Type} [DecidableEq α] (E:er α)(P:Program)(w:World):Sp:=fun vs H Q _=>∃(d b:Addr)(e:En α)(es:List (En α)),vs=[.ref d,.ref b]/\DS E P w H d es/\H b=some (.tup (E.enc e.x))/\e∈es ∧
 ∀ t pl ll H',H ll=none->H' t=some (.tup [.ref pl,.ref ll])->H' ll=some (.lst (e.p.map V.str))->Ext H H'->Q (.ref t) H'
noncomputable abbrev nWy:List Str:=["came_by","place","labels"]
theorem wI:ba nWy ["came_by","place"] (aq iL):=⟨rfl,rfl,rfl,by decide +kernel,rfl,by decide +kernel,by decide +kernel⟩
section
variable {α:Type} [DecidableEq α] {E:er α}{P:Program}{w:World}{K:PySem.W.Frag}{mg:Str->Option Value}{base:Heap}
theorem B1(F:Fun K "way_to" "way_to" iL f fd):ar P w K mg base CX0 1 f fd ["came_by","place"] (mn E P w):=by
 refine F.ok wI (fun vs H Q E h=>?_) (fun cdv A outer s H vs Q E1 hr h=>?_)
 ·obtain⟨d,b,e,es,rfl,_⟩:=h;rfl
 ·obtain⟨d,b,e0,es,rfl,r,hb,he0,k⟩:=h;have hu:=hr.units;refine⟨_,ae (av nWy 2 (bf ab))
   (ae (gA PassesOwn.never (aR oB (mZ hu (q_v 0) (q_v 1) (fun _ _=>rfl)) gN)
    (ae (bw (cT (q_v 2) (bD ek (mZ hu (q_v 0) (q_v 1) (fun _ _=>rfl)) af (fun _ _=>rfl))))
    (ah (av nWy 1 (bD ek (mZ hu (q_v 0) (q_v 1) (fun _ _=>rfl)) af (fun _ _=>rfl))))))
   (ae (bw (B5 (q_v 2)))
   (ah (bz (dj (aa (q_v 1) (aa (q_v 2) ab))))))),?_⟩
  have z1:∀{n:Nat},n<=1000->n<=sizeLine:=fun h=>by rw[DV];lia
  have z2:∀{n:Nat},n<=1000->n<sizeLine:=fun h=>by rw[DV];lia
  refine⟨z1 (by show 0<=1000;decide),fun ll H1 hll h1 e1=>?_⟩
  obtain⟨i0,hi0,hie⟩:=List.getElem_of_mem he0;refine⟨(fun m σ H2=>∃(b':Addr) (e:En α) (ls:List Str),σ=[some (.ref d),some (.ref b'),some (.ref ll)]/\DS E P w H2 d es/\es[m]? =some e/\H2 b'=some (.tup (E.enc e.x))/\H2 ll=some (.lst (ls.map V.str))/\ls.length+m<=1000/\e0.p=e.p++ls.reverse/\Ext H H2),
   ⟨i0,b,e0,[],rfl,r.up e1,by rw[Dv hi0,hie],e1.up hb,h1,by have:=r.len;show 0+i0<=1000;lia,by simp,e1⟩,?_⟩
  rintro m σ H2 ⟨b',e,ls,rfl,r2,he,hb2,h2,hlen,pth,x2⟩;have hat:=xo E r2.nd he;refine⟨_,r2.dd,r2.keys,_,hb2,_,E.ok e.x,_,hat,aV (fun hA=>?_) (fun hA=>?_)⟩
  ·have hA:e.v≠.non:=by
    have hA:(!decide (e.v=.non))=true:=hA;simpa using hA
   rcases r2.came m e he with⟨hv,_⟩|⟨t,ya,z,e',hm',hv,ht,hy,hl⟩
   ·exact absurd hv hA
   ·refine⟨_,fun _ _ z=>z,?_⟩
    rw[hv]at hat;refine⟨_,.inl h2,_,r2.dd,r2.keys,_,hb2,_,E.ok e.x,_,hat,?_⟩;refine⟨_,.inl ht,_,rfl,_,h2,z2 (by rw[Dd];lia),fun H3 h3 b3=>?_⟩
    have t3:aM H2 H3:=dS b3 h2 fun xs z=>nomatch z
    have dn:d≠ll:=bo r2.dd h2 fun z=>nomatch z
    have r3:DS E P w H3 d es:=r2.move (b3.up dn r2.dd) t3;refine⟨_,r3.dd,r3.keys,_,t3 _ _ hb2,_,E.ok e.x,_,hat,?_⟩;refine⟨_,.inl (t3 _ _ ht),_,rfl,?_⟩;obtain⟨j,hj,hje⟩:=List.getElem_of_mem hm';have hjm:j<m:=by
     rw[Et]at hj;lia
    have hje':es[j]? =some e':=by
     rw[List.getElem_take]at hje;rw[Et]at hj;rw[Dv (by lia),hje]
    refine⟨j,hjm,ya,e',ls++[z],rfl,r3,hje',t3 _ _ hy,by rw[Dn];exact h3,?_,?_,fun c u hc=>b3.up (aB hc hll) (x2.up hc)⟩
    ·rw[Dl,D7];lia
    ·rw[pth,hl,List.reverse_append]
     simp
  ·have hA:e.v=.non:=by
    have hA:¬ (!decide (e.v=.non))=true:=hA;simpa using hA
   have hst:e.p=[]:=by
    rcases r2.came m e he with⟨_,h⟩|⟨t,ya,lb,e',hm',hv,_⟩
    ·exact h
    ·rw[hA]at hv;cases hv
   refine⟨_,.inl h2,_,h2,fun H3 h3 b3=>?_⟩
   have t3:aM H2 H3:=dS b3 h2 fun xs z=>nomatch z
   refine⟨z1 (by show 2<=1000;decide),fun t H4 ht h4 e4=>?_⟩
   refine k t b' ll H4 hll h4 (e4.up ?_) fun c u hc=>e4.up (b3.up (aB hc hll) (x2.up hc))
   rw[h3,pth,hst,List.nil_append,List.map_reverse]
end
end K
end
section
namespace SB
open PySem PySem.Spec PyProof.Rows L2
theorem AR{α:Type}(f:α->List V){enc:α->V}{zs:List α}{J:It}{fr:List (Option Nat)}{g:TG}{Q:VK}(wk:Wk J H1 (zs.map enc))(hz:zs.length<sizeLine)(step:∀(i:Nat)(a:α)(H:Hp)(K:V->Hp->Prop),zs[i]? =some a->Ext H1 H->New H (.lst (f a)) K->g (enc a) (frV fr σ) H fun σ' H3=>cR fr σ σ'/\te σ' H3 K)(fin:∀ D H' (qs:List (α×Addr)),H1 D=none->H' D=some (.lst (rfs qs))->(∀ q∈qs,H' q.2=some (.lst (f q.1))/\H1 q.2=none/\q.2≠D)->qs.map (·.1)=zs->Ext H1 H'->Q (.ref D) H')(hg:mh g:=by intro x σ H Q Q' k q;exact k _ _ q):eZ fr σ g (fun _ H Q=>Q true H) te J H1 Q:=by
 refine⟨?_⟩;intro D hD;refine⟨fun i m acc H=>m=zs.length-i/\i<=zs.length/\H D=some (.lst acc)/\Ext H1 H/\∃ qs:List (α×Addr),acc=rfs qs/\(∀ q∈qs,H q.2=some (.lst (f q.1))/\H1 q.2=none/\q.2≠D)/\qs.map (·.1)=zs.take i,⟨zs.length,by simp,DZ _,aW,cU hD,[],rfl,(fun p hp=>nomatch hp),by simp⟩,?_⟩
 rintro i m acc H ⟨rfl,hi,hDa,ex,qs,rfl,hat,hqs⟩;have hl:(rfs qs).length=i:=by
  unfold rfs;rw[Dd,<-Dd (f:=fun x:α×Addr=>x.1),hqs,Et]
  lia
 refine⟨hDa,by lia,?_⟩
 by_cases hlt:i<zs.length
 ·refine .inr ⟨wk.go i H ex (by rw[Dd];exact hlt),fun x H2 y=>?_⟩
  obtain⟨rfl,hx⟩:=wk.yld i H x H2 ex (by rw[Dd];exact hlt) y
  rw[Dq,Dy]at hx;obtain⟨a,ha,rfl⟩:=hx;refine hg _ _ _ _ _ (fun σ' H3 q=>⟨q.1,?_⟩) (step i a _ (fun y H5=>H5 D=some (.lst (rfs qs))/\∃ m',m'<zs.length-i/\m'=zs.length-(i+1)/\i+1<=zs.length/\(upd H5 D (.lst (rfs qs++[y]))) D=some (.lst (rfs qs++[y]))/\Ext H1 (upd H5 D (.lst (rfs qs++[y])))/\∃ qs':List (α×Addr),rfs qs++[y]=rfs qs'/\(∀ q∈qs',(upd H5 D (.lst (rfs qs++[y]))) q.2=some (.lst (f q.1))/\H1 q.2=none/\q.2≠D)/\qs'.map (·.1)=zs.take (i+1)) ha ex fun p H5 hp h5 e5=>?_)
  ·show if true=true then _ else _
   rw[if_pos rfl];exact q.2
  ·refine⟨e5.up hDa,_,(by lia:zs.length-(i+1)<zs.length-i),rfl,hlt,aW,fun b o hb=>?_,qs++[(a,p)],?_,?_,?_⟩
   ·rw[ao (aB hb hD)];exact e5.up (ex.up hb)
   ·unfold rfs;rw[Dn];rfl
   ·intro z hz';rcases Dp.mp hz' with h|h
    ·obtain⟨h1,h3,h2⟩:=hat z h;rw[ao h2];exact⟨e5.up h1,h3,h2⟩
    ·rw[Dj]at h;subst h;have nd:p≠D:=(aB hDa hp).symm
     show(upd H5 D (.lst (rfs qs++[V.ref p]))) p=some (.lst (f a))/\H1 p=none/\p≠D
     rw[ao nd];exact⟨h5,ex.free hp,nd⟩
   ·rw[Dn,hqs,EI,ha];rfl
 ·have e:i=zs.length:=by lia
  subst e;refine .inl ⟨by have:=wk.stop H ex;rw[Dd]at this;exact this,fin D H qs hD hDa hat (by rw[hqs,Fy]) ex⟩
end SB
end
section
set_option maxHeartbeats 4000000
namespace K
open PySem PySem.Spec PyProof.Rows L2 SB
open PySem.W (CodeHd tabObj kla_obj kla_fn envX)
noncomputable abbrev aT:Stmt:=top 24
noncomputable def cx:er (List Int) where
 enc:=fun x=>x.map V.int
 key:=fun x=>x.map Sum.inl
 ok:=fun x=>by
  unfold cZ;rw[Du,Du];rfl
 inj:=fun a b h=>by
  induction a generalizing b with
  | nil=>
   cases b with
   | nil=>rfl
   | cons _ _=>cases h
  | cons x a ih=>
   cases b with
   | nil=>cases h
   | cons y b=>
    simp only[Dk,List.cons.injEq,Sum.inl.injEq]at h;rw[h.1,ih b h.2]
noncomputable def subs:List Int->List (List Int)
 | []=>[[]]
 | x::xs=>subs xs++(subs xs).map (x::·)
theorem j5{a b:List Int}(h:a.Sublist b):a∈subs b:=by
 induction h with
 | slnil=>exact Dj.mpr rfl
 | cons x _ ih=>exact Ft _ ih
 | cons_cons x _ ih=>exact Ek _ (DU ih)
theorem sv:∀ b:List Int,(subs b).length=2^b.length
 | []=>rfl
 | x::b=>by
  show(subs b++(subs b).map (x::·)).length=2^(b.length+1)
  rw[Dl,Dd,sv b,Nat.pow_succ];lia
noncomputable def okR (n:Int)(x:List Int):Prop:=x≠[]/\x.Sublist (UI n)
theorem jt{n:Int}(hn:n<=8):(subs (UI n)).length<=1000:=by
 rw[sv];have h:(UI n).length<=8:=by unfold UI;rw[Dd,Ef];lia
 exact Ea (Nat.pow_le_pow_right (by decide) h) (by decide)
theorem oO(n:Int):(UI n).Pairwise (· < ·):=by
 unfold UI;rw[ED];exact List.pairwise_lt_range.imp fun {a b} h=>by lia
theorem om{l:List Int}(h:l.Pairwise (· < ·)):cG l=l:=by
 unfold cG;have e:srt kLt (l.map Sum.inl)=l.map Sum.inl:=by
  refine(fm (cI true) (fun k hk=>jf _ k hk) (fun k=>Iff.rfl) ?_).symm
  rw[ED];exact h.imp fun {a b} h=>DB h
 rw[e,Du];exact List.map_id' _
theorem jj(M:az)(n:Int)(xs:List Int):(ay M n xs).Sublist (UI n):=by
 unfold ay;rw[om ((oO n).filter _)];exact List.filter_sublist
theorem nY{M:az}{n:Int}{xs:List Int}(hx:∀ r∈xs,okI n r)(hm:∀ m∈M.mv,bF n m){r:Int}:r∈ay M n xs↔Rc (bO M) xs r:=by
 unfold ay;rw[om ((oO n).filter _),Eb];constructor
 ·intro h;exact @of_decide_eq_true _ (Classical.propDecidable _) h.2
 ·intro h;exact⟨jy (qR hx hm h),@decide_eq_true _ (Classical.propDecidable _) h⟩
noncomputable def iI (M:az)(x:List Int):List Str:=M.mv.filterMap fun m=>if m.1∈x then aE M.sg m.2.1 else none
theorem km{M:az}{x:List Int}:z∈iI M x↔aw M x M.mv z≠[]:=by
 unfold iI aw;rw[List.mem_filterMap];constructor
 ·rintro⟨m,hm,h⟩ e
  split at h
  ·rename_i hx
   have:m∈M.mv.filter (bT M x z):=Eb.mpr ⟨hm,by unfold bT;rw[h,DB rfl,DB hx];rfl⟩
   rw[List.map_eq_nil_iff]at e;rw[e]at this;cases this
  ·cases h
 ·intro h;rcases hl:M.mv.filter (bT M x z) with _|⟨m,r⟩
  ·rw[hl]at h;exact absurd rfl h
  ·have hm:m∈M.mv.filter (bT M x z):=by rw[hl];exact Dm ..
   obtain⟨h1,h2⟩:=Eb.mp hm;unfold bT at h2;rw[Ey]at h2;have h3:=DX h2.1;have h4:=DX h2.2;exact⟨m,h1,by rw[if_pos h4];exact h3⟩
noncomputable def cf (M:az)(n:Int)(x:List Int):List (Str×List Int):=(aN (iI M x)).map fun z=>(z,ay M n (aw M x M.mv z))
noncomputable def dz (M:az)(n:Int):List (List Int):=if ay M n M.st=[] then [] else [ay M n M.st]
theorem rK{M:az}{n:Int}(hm:∀ m∈M.mv,bF n m){x:List Int}:∀ r∈aw M x M.mv z,okI n r:=fun r hr=>by
 obtain⟨m,h,rfl⟩:=Dg.mp hr
 exact(hm m (Eb.mp h).1).2.2
theorem zH{M:az}{n:Int}(hm:∀ m∈M.mv,bF n m){x:List Int}:∀ y∈cf M n x,okR n y.2:=fun y hy=>by
 obtain⟨z,hz,rfl⟩:=Dg.mp hy;refine⟨fun e=>?_,jj M n _⟩
 have h:=km.mp (jX.mp hz);rcases hl:aw M x M.mv z with _|⟨r,l⟩
 ·exact h hl
 ·have:r∈ay M n (aw M x M.mv z):=(nY (rK hm) hm).mpr (.base (by rw[hl];exact Dm ..))
  have e:ay M n (aw M x M.mv z)=[]:=e;rw[e]at this;cases this
noncomputable def jw (s:Stmt):Expr:=match cq s with
 | [_,.Assign _ (.Call _ [_,l] _ _) _,_,_]=>l
 | _=>.Name "" ⟨0,0,0,0⟩
noncomputable def rk (s:Stmt):Arguments:=match jw s with | .Lambda a _ _ _=>a|_=>cO (.Pass ⟨0,0,0,0⟩)
noncomputable def sS (s:Stmt):Expr:=match jw s with | .Lambda _ b _ _=>b|_=>.Name "" ⟨0,0,0,0⟩
noncomputable def fD (s:Stmt):Scope:=match jw s with | .Lambda _ _ c _=>c|_=>aq (.Pass ⟨0,0,0,0⟩)
noncomputable def dv (s:Stmt):Pos:=match jw s with | .Lambda _ _ _ p=>p|_=>⟨0,0,0,0⟩
noncomputable abbrev lvQ:Str:=(("secret":Str)++(".<locals>.":Str))++("<lambda>":Str)
theorem C3{l l':List Str}(h:∀ x,x∈l↔x∈l'):aN l=aN l':=by
 unfold aN;rw[iY (cI false) (fh l) fun k=>?_]
 simp only[Dg]
 constructor <;> rintro⟨a,ha,rfl⟩
 ·exact⟨a,(h a).mp ha,rfl⟩
 ·exact⟨a,(h a).mpr ha,rfl⟩
theorem oI{M:az}{n:Int}{x:List Int}:∀ qs:List (Str×Addr),(∀ q∈qs,ic M n x q.1 q.2 H)->∃ es:List (SE (List Int)),(es.map fun e=>V.ref e.ap)=rfs qs/\(∀ e∈es,H e.as=some (.tup (cx.enc e.st))/\H e.ap=some (.tup [.str e.z,.ref e.as])) ∧
  es.map (fun e=>(e.z,e.st))=(qs.map (·.1)).map fun z=>(z,ay M n (aw M x M.mv z))
 | [],_=>⟨[],rfl,(fun e he=>nomatch he),rfl⟩
 | q::qs,h=>by
  obtain⟨es,h1,h2,h3⟩:=oI qs fun q hq=>h q (Dr _ hq)
  obtain⟨t,t1,t2⟩:=h q (Dm ..);refine⟨⟨q.1,ay M n (aw M x M.mv q.1),t,q.2⟩::es,?_,fun e he=>?_,?_⟩
  ·rw[Dk,h1];rfl
  ·rcases DG.mp he with rfl|he
   ·exact⟨t2,t1⟩
   ·exact h2 e he
  ·rw[Dk,h3];rfl
section
variable {P:Program}{w:World}{K:PySem.W.Frag}{mg:Str->Option Value}{base:Heap}
theorem va:lx ["found"] ["machine"] (fD aT):=⟨rfl,rfl,rfl,by decide +kernel,by decide +kernel,by decide +kernel⟩
theorem yN{c':Addr}{oc:Obj}{cl:List (Str×Addr)}{ctv:Value}{H0:Hp}{M:az}{n:Int}(D:Known P w K mg base 4 "signs_from" ["machine","rooms"] (iU C T)) (Cl:eD base cl (fD aT) ["machine"] [.ref p]) (co:fI oc lvQ) (hf:H0 f=some (.frz (kla_obj "<lambda>" lvQ (rk aT) (sS aT) (fD aT) cl pm c' ctv) (.own f))) (hc':H0 c'=some (.frz oc (.own c'))) (mat:bN C H0 p M) (hml:M.mv.length<=24) (hn:n<=8) (hmo:∀ m∈M.mv,bF n m) :
  ar P w K mg base CX0 5 f (kla_fn "<lambda>" lvQ (rk aT) (sS aT) (fD aT) cl pm (.ref c') ctv) ["found"] (rj cx T (TabAt (bJ aG) lwQ T) (cf M n) (okR n) H0):=by
 refine B0 (k:=4) va Cl rfl co (fun vs H Q E h=>?_) (fun vs H Q E h=>?_) (fun A outer s H vs Q E hr h=>?_)
 ·obtain⟨a,x,rfl,_⟩:=h;rfl
 ·obtain⟨a,x,rfl,ext,_⟩:=h;exact⟨ext.up hf (fun _ z=>nomatch z),ext.up hc' (fun _ z=>nomatch z)⟩
 ·obtain⟨a,x,rfl,ext,jh,ha,okx,k⟩:=h;refine⟨_,aH D hr (aa (q_v 1) (aa (q_v 0) ab)),?_⟩;refine⟨p,a,M,x,n,rfl,gB mat ext.toT,hml,ha,hn,hmo,jh,fun l H' qs ks hl h' se hks eq e' j'=>?_⟩
  obtain⟨es,h1,h2,h3⟩:=oI qs se;refine k l H' es hl (by rw[h1];exact h') h2 ?_ e' j'
  rw[h3,eq];unfold cf;rw[C3 fun z=>(hks z).trans km.symm]
theorem qX:∀ y∈(fD aT).names,y.2=.free->(aq aT).names.lookup y.1=some .cell\/(aq aT).names.lookup y.1=some .free:=by decide +kernel
noncomputable def jok (T:Addr):JOk T (TabAt (bJ aG) lwQ T) where
 ext:=fun t x=>t.ext x
 but:=fun {H H' d u} t h n1 n2 b=>by
  have nd:∀{c:Addr} {v:HO},H c=some v->v≠u->c≠d:=fun {c v} hc hv z=>by
   rw[z,h]at hc;exact hv (DL hc).symm
  rcases t with t|⟨c',oc,h1,h2,h3⟩
  ·exact .inl (b.up (nd t fun z=>n1 _ z.symm) t)
  ·exact .inr ⟨c',oc,b.up (nd h1 fun z=>n1 _ z.symm) h1,b.up (nd h2 fun z=>n2 _ _ z.symm) h2,h3⟩
 tb:=fun t h n=>t.zt h n
noncomputable def cF (rooms:List Int)(e:List Int×List Str):Bool:=e.1.all fun r=>decide (r∈rooms)
structure aI (T T2:Addr)(H H':Hp):Prop where
 toT:cP H H'
 ot:∀{b u},b≠T->b≠T2->H b=some u->H' b=some u
theorem aI.trans(a:aI T T2 H H1)(b:aI T T2 H1 H2):aI T T2 H H2:=⟨a.toT.trans b.toT,fun n m h=>b.ot n m (a.ot n m h)⟩
theorem aI.one(a:ak T H H1):aI T T2 H H1:=⟨a.toT,fun n _ h=>a.ot n h⟩
theorem aI.two(a:ak T2 H H1):aI T T2 H H1:=⟨a.toT,fun _ n h=>a.ot n h⟩
theorem aI.ext(a:Ext H H1):aI T T2 H H1:=aI.one (Ext.toP a)
theorem aI.but{d:Addr}(x:aI T T2 H H1)(dn:H d=none)(b:But d H1 H2):aI T T2 H H2:=
 ⟨⟨fun {c u} h n=>b.up (fun z=>by rw[z,dn]at h;cases h) (x.toT.up h n),fun {c ps} h=>by
  obtain⟨ps',h'⟩:=x.toT.tb h;exact⟨ps',b.up (fun z=>by rw[z,dn]at h;cases h) h'⟩⟩,fun {c u} n m h=>b.up (fun z=>by rw[z,dn]at h;cases h) (x.ot n m h)⟩
theorem TabAt.but{d:Addr}{u:HO}(t:TabAt pos qual T H)(h:H d=some u)(n1:∀ ps,u≠.tbl ps)(n2:∀ o k,u≠.frz o (.own k))(b:But d H H'):TabAt pos qual T H':=by
 have nd:∀{c:Addr} {v:HO},H c=some v->v≠u->c≠d:=fun {c v} hc hv z=>by
  rw[z,h]at hc;exact hv (DL hc).symm
 rcases t with t|⟨c',oc,h1,h2,h3⟩
 ·exact .inl (b.up (nd t fun z=>n1 _ z.symm) t)
 ·exact .inr ⟨c',oc,b.up (nd h1 fun z=>n1 _ z.symm) h1,b.up (nd h2 fun z=>n2 _ _ z.symm) h2,h3⟩
noncomputable def kF (T T2:Addr)(rooms:List Int)(B:List (List Int×List Str))(H H':Hp)(t:Addr):Prop:=
 aI T T2 H H'/\TabAt (bJ aG) lwQ T H'/\TabAt (dv aT) lvQ T2 H'/\H t=none ∧
 (
  (∃ e l,B.find? (cF rooms)=some e/\H' t=some (.tup [.str "given",.ref l])/\H l=none/\H' l=some (.lst (e.2.map V.str))) ∨
  (B.find? (cF rooms)=none/\∃ l qs,H' t=some (.tup [.str "kept",.ref l])/\H l=none/\H' l=some (.lst (rfs qs))/\(∀ q∈qs,H' q.2=some (.lst (q.1.map V.int))/\H q.2=none/\q.2≠l) ∧
   (qs.map (·.1)).Perm (B.map (·.1))/\(qs.map (·.1)).Pairwise (fun x y=>bp x y=true)))
noncomputable def nP (C T T2:Addr):Sp:=fun vs H Q _=>∃(p c:Addr)(M:az)(rooms:List Int),vs=[.ref p,.ref c]/\bN C H p M/\M.mv.length<=24/\RdL H c (rooms.map V.int)/\rooms.length<=100/\M.size<=8/\(∀ r∈rooms,okI M.size r)/\(∀ r∈M.st,okI M.size r)/\(∀ m∈M.mv,bF M.size m) ∧
 TabAt (bJ aG) lwQ T H/\TabAt (dv aT) lvQ T2 H ∧
 ∀ t H' B,Run (cf M M.size) (dz M M.size) B.length B->(∀ e∈B,okR M.size e.1)->(B.map (·.1)).Nodup->kF T T2 rooms B H H' t->Q (.ref t) H'
noncomputable abbrev gg:List Str:=["machine","rooms","room","came_by","found"]
theorem CD:ba gg ["machine","rooms"] (aq aT):=⟨rfl,rfl,rfl,by decide +kernel,rfl,by decide +kernel,by decide +kernel⟩
theorem oA{α:Type}{p:α->Bool}{l:List α}{x:α}(hi:l[i]? =some x)(hx:p x=true)(hn:∀ y∈l.take i,p y=false):l.find? p=some x:=by
 induction l generalizing i with
 | nil=>simp at hi
 | cons a l ih=>
  cases i with
  | zero=>
   have hi:=DL hi;subst hi;rw[Ez,hx]
  | succ i=>
   rw[Ez,hn a (by rw[List.take_succ_cons];exact Dm ..)]
   exact ih (by simpa using hi) fun y hy=>hn y (by rw[List.take_succ_cons];exact Dr _ hy)
theorem Cw{c0:Addr}(F:Fun K "secret" "secret" aT f fd) (hcd:fd.code=.ref c0) (LB:cK mg base c0 T2) (TC:dk K mg C) (hall:mg "all" = none) (nT:T≠T2) (DN:Known P w K mg base 1 "need_room" ["size","room"] i5) (DF:Known P w K mg base 4 "first_sets" ["machine"] (lW C T)) (DW:Known P w K mg base 1 "way_to" ["came_by","place"] (mn cx P w)) (R:∀ base',K.In base'->base'.Ns mainGlobals mg->Known P w K mg base' 6 "reach" ["starts","steps_from"] (nN cx P w K mg base' 5 "found")) (D:∀ base',K.In base'->base'.Ns mainGlobals mg->(∀ b o,base.get? b=some o->base'.get? b=some o)->Known P w K mg base' 4 "signs_from" ["machine","rooms"] (iU C T)) (kb:K.In base) (nb:base.Ns mainGlobals mg):ar P w K mg base CX0 7 f fd ["machine","rooms"] (nP C T T2):=by
 refine Fun.okC F CD (fun vs H Q E h=>?_) (fun A outer s H vs Q E hr h=>?_)
 ·obtain⟨p,c,M,rooms,rfl,_⟩:=h;rfl
 ·obtain⟨p,c,M,rooms,rfl,mat,hml,hc,hrl,hn,hro,hst,hmo,tab,tab2,k⟩:=h;have hr1:aA 1 _:=hr.mono (by decide)
  have hr4:aA 4 _:=hr.mono (by decide)
  refine⟨_,ae (bC PassesOwn.never rfl (bu (q_v 1)) (q_g gg 2) (ah (bw (aH DN hr1 (aa (ji TC.cl TC.nS (q_v 0)) (aa (q_v 2) ab))))))
   (ae (av gg 3 (rm R hr (fun _=>rfl) (aa (aH DF hr4 (aa (q_v 0) ab)) (aa (o5 hcd LB (fun x kk hm=>qX (x,kk) hm) rfl) ab))))
   (ae (bC PassesOwn.never rfl (vA (q_v 3)) (q_g gg 4)
    (ah (cc (ka (q_b (o7 rfl) hall (aa (g8 gg (aq aT) ["room","rooms"] [none,some 1] rfl (xN (q_v 4)) (fun _ _ _ _=>q_g ["room","rooms"] 0) (fun _ _ _ _=>gh tU (q_v 0) (q_v 1))) ab)))
     (ah (bz (dj (aa (rH eC) (aa (bD ek (aH DW hr1 (aa (q_v 3) (aa (q_v 4) ab))) af (fun _ _=>rfl)) ab))))) bY)))
   (ah (bz (dj (aa (rH eC) (aa (g8 gg (aq aT) ["found"] [none] rfl (bu (q_b (AM rfl) TC.sorted (aa (q_v 3) ab))) (fun _ _ _ _=>q_g ["found"] 0) (fun _ _ _ _=>q_t CW TC.list (aa (q_v 0) ab))) ab))))))),?_⟩
  have z1:∀{n:Nat},n<=1000->n<=sizeLine:=fun h=>by rw[DV];lia
  have z0:∀{n:Nat},n<=1000->n<sizeLine:=fun h=>by rw[DV];lia
  refine⟨_,hc,bZ (xs:=rooms.map V.int) (fun i σ H2=>H2=H/\∃ v2:Option V,σ=[some (.ref p),some (.ref c),v2,none,none]) ⟨rfl,_,rfl⟩ (fun i σ H2 _ hp=>by rw[hp.1];exact hc) ?_ ?_⟩
  ·rintro i x σ H2 hx ⟨rfl,v2,rfl⟩;rw[Dq,Dy]at hx;obtain⟨r,hr',rfl⟩:=hx;obtain⟨dx,l1,l2,dd,l3,ms,mi⟩:=mat;exact⟨_,_,mi.ob,_,rfl,M.size,r,rfl,(hro r (Dw hr')).1,(hro r (Dw hr')).2,rfl,_,rfl⟩
  rintro σ H2 ⟨rfl,v2,rfl⟩;refine⟨p,M,M.size,rfl,mat,by lia,hn,hst,hmo,tab,fun lf H1 hlf hf1 x1 tb1=>?_⟩
  have tab21:TabAt (dv aT) lvQ T2 H1:=tab2.keep x1 nT.symm;refine⟨tab21,fun g c' ctv oc H3 hg x3 tab3 hg3 hc3 co3 base' rb=>?_⟩
  have tb3:TabAt (bJ aG) lwQ T H3:=tb1.keep x3 nT;have xx:aI T T2 H2 H3:=(aI.one x1).trans (aI.two x3);have mat3:bN C H3 p M:=gB mat xx.toT;have hc3':RdL H3 c (rooms.map V.int):=ix hc xx.toT;obtain⟨qs,hqs,hq1,hq2⟩:∃ qs:List (List Int×Addr),H3 lf=some (.lst (rfs qs))/\(∀ q∈qs,H3 q.2=some (.tup (cx.enc q.1))/\okR M.size q.1)/\qs.map (·.1)=dz M M.size:=by
   unfold dz;rcases hf1 with⟨e,h⟩|⟨e,t,_,h,ht⟩
   ·exact⟨[],x3.up h (fun _ z=>nomatch z),(fun q hq=>nomatch hq),by rw[if_pos e];rfl⟩
   ·refine⟨[(ay M M.size M.st,t)],x3.up h (fun _ z=>nomatch z),fun q hq=>?_,by rw[if_neg e];rfl⟩
    rw[Dj]at hq;subst hq;exact⟨x3.up ht (fun _ z=>nomatch z),e,jj _ _ _⟩
  refine⟨lf,g,T,TabAt (bJ aG) lwQ T,_,_,cf M M.size,okR M.size,subs (UI M.size),qs,rfl,.inl hqs,hq1,hg3,rfl,
   yN (D base' (kb.keeps rb.keep) (nb.keeps rb.keep) rb.keep) (rb.clos (fD aT) ["machine"] [.ref p] (fun x kk hm=>qX (x,kk) hm) ?_) co3 hg3 hc3 mat3 hml hn hmo,
   Binds.all (fun us hl=>match us,hl with | [_],_=>rfl),fun x _=>zH hmo,fun x hx=>j5 hx.2,jt hn,jok T,tb3,fun d H4 es r hrun tb4=>?_⟩
  ·intro i x v h1 h2
   match i with
   | 0=>
    cases h1;cases h2
    exact⟨rfl,0,rfl,rfl⟩
   | i+1=>simp at h1
  have esl:es.length<=1000:=r.len (jt hn);have t24:TabAt (dv aT) lvQ T2 H4:=tab3.keep r.ext nT.symm;have x24:aI T T2 H2 H4:=xx.trans (aI.one r.ext);have dn2:H2 d=none:=xx.toT.none r.dn;have hc4:RdL H4 c (rooms.map V.int):=ix hc3' r.ext.toT;rw[hq2]at hrun;have hB0:Run (cf M M.size) (dz M M.size) (es.map xpE).length (es.map xpE):=by rw[Dd];exact hrun
  have hB1:∀ e∈es.map xpE,okR M.size e.1:=fun e he=>by
   obtain⟨q,hq,rfl⟩:=Dg.mp he;exact r.okk q hq
  have hB2:((es.map xpE).map (·.1)).Nodup:=by rw[iF];exact r.nd
  have fin:∀ t H',kF T T2 rooms (es.map xpE) H2 H' t->Q (.ref t) H':=fun t H' z=>k t H' _ hB0 hB1 hB2 z
  refine⟨_,r.dd,fun o H5 h5 b5=>?_⟩
  have t5:aM H4 H5:=dS b5 r.dd fun xs z=>nomatch z
  have x25:aI T T2 H2 H5:=x24.but dn2 b5;have tb5:TabAt (bJ aG) lwQ T H5:=TabAt.but tb4 r.dd (fun _ z=>nomatch z) (fun _ _ z=>nomatch z) b5
  have t25:TabAt (dv aT) lvQ T2 H5:=TabAt.but t24 r.dd (fun _ z=>nomatch z) (fun _ _ z=>nomatch z) b5
  have hc5:RdL H5 c (rooms.map V.int):=by
   rcases hc4 with h|⟨o',h⟩
   ·exact .inl (b5.up (bo h r.dd fun z=>nomatch z) h)
   ·exact .inr ⟨o',b5.up (bo h r.dd fun z=>nomatch z) h⟩
  refine ux (xs:=es.map (enB cx)) (fun i σ H6=>∃ v4:Option V,σ=[some (.ref p),some (.ref c),v2,some (.ref d),v4]/\Ext H5 H6/\∀ e∈es.take i,cF rooms (xpE e)=false)
   ⟨_,rfl,Ext.refl,fun e he=>nomatch he⟩ (fun i σ H6 _ hp=>by obtain⟨_,_,x6,_⟩:=hp;exact x6.up h5) ?_ ?_
  ·rintro i x σ H6 hx ⟨v4,rfl,x6,hbefore⟩;rw[Dq,Dy]at hx;obtain⟨e,he,rfl⟩:=hx;have hem:=Dw he;have he6:H6 e.a=some (.tup (e.x.map V.int)):=x6.up (t5 _ _ (r.ents e hem));have xl:e.x.length<=8:=by
    have:=(r.okk e hem).2.length_le
    have hU:(UI M.size).length<=8:=by unfold UI;rw[Dd,Ef];lia
    lia
   refine⟨_,.inl he6,nA (zs:=e.x) (enc:=V.int) (fun r=>.bl (decide (r∈rooms))) (Bc (.inl he6)) (z0 (by lia)) (fun j r' H7 Kk hr' x7 kk=>?_) fun lb H7 hlb h7 x7=>?_⟩
   ·refine⟨cE rfl,_,x7.rd (x6.rd hc5),⟨rfl,cw _⟩,?_⟩
    have:=kk H7 Ext.refl
    rw[<-en]at this;exact this
   ·refine⟨e.x.map fun r'=>decide (r'∈rooms),.inl (by rw[h7,Du];rfl),?_⟩
    have hall':((e.x.map fun r'=>decide (r'∈rooms)).all id)=cF rooms (xpE e):=by
     unfold cF;rw[List.all_map];rfl
    have x67:Ext H5 H7:=x6.trans x7;refine aV (fun hA=>?_) (fun hA=>?_)
    ·have hA:((e.x.map fun r'=>decide (r'∈rooms)).all id)=true:=hA
     rw[hall']at hA;refine⟨d,o,es.map (enB cx),x67.up h5,fun o' v z=>?_,fun H8 h8 b8=>?_⟩
     ·have z:H2 d=some (.frz o' v):=z;rw[dn2]at z;cases z
     have t8:aM H4 H8:=fun b ys hb=>b8.up (bo hb r.dd fun z=>nomatch z) (x67.up (t5 b ys hb))
     have ds:DS cx P w H8 d es:=⟨h8,fun e he=>t8 _ _ (r.ents e he),fun i e h=>(r.came i e h).up t8,r.nd,esl⟩
     refine⟨d,e.a,e,es,rfl,ds,t8 _ _ (r.ents e hem),hem,fun t pl ll H9 hll h9 hl9 x9=>?_⟩
     refine⟨_,.inl h9,_,rfl,z1 (by show 2<=1000;decide),fun t' H10 ht' h10 x10=>?_⟩
     have x28:aI T T2 H2 H8:=((x25.trans (aI.ext x67))).but dn2 b8;have hfz:H7 d=some (.frz o (DTB P w d (es.map (enB cx)))):=x67.up h5;have tb8:TabAt (bJ aG) lwQ T H8:=TabAt.but (tb5.ext x67) hfz (fun _ z=>nomatch z) (fun _ _ z=>nomatch z) b8
     have t28:TabAt (dv aT) lvQ T2 H8:=TabAt.but (t25.ext x67) hfz (fun _ z=>nomatch z) (fun _ _ z=>nomatch z) b8
     refine fin t' H10 ⟨x28.trans (aI.ext (x9.trans x10)),(tb8.ext x9).ext x10,(t28.ext x9).ext x10,x28.toT.none (x9.free ht'),.inl ⟨xpE e,ll,?_,h10,x28.toT.none hll,x10.up hl9⟩⟩;refine oA (i:=i) (by rw[Dq,he];rfl) hA fun y hy=>?_
     rw[<-List.map_take]at hy;obtain⟨e',he',rfl⟩:=Dg.mp hy;exact hbefore e' he'
    ·have hA:¬ ((e.x.map fun r'=>decide (r'∈rooms)).all id)=true:=hA
     rw[hall']at hA;refine⟨_,rfl,x67,fun e' he'=>?_⟩
     rw[EI,he]at he';rcases Dp.mp he' with he'|he'
     ·exact hbefore e' he'
     ·rw[Dj.mp he'];exact Bool.eq_false_iff.mpr hA
  ·rintro σ H6 ⟨v4,rfl,x6,hbefore⟩;refine⟨d,o,es.map (enB cx),x6.up h5,fun o' v z=>?_,fun H8 h8 b8=>?_⟩
   ·have z:H2 d=some (.frz o' v):=z;rw[dn2]at z;cases z
   have t8:aM H4 H8:=fun b ys hb=>b8.up (bo hb r.dd fun z=>nomatch z) (x6.up (t5 b ys hb))
   have x28:aI T T2 H2 H8:=((x25.trans (aI.ext x6))).but dn2 b8;have hfz:H6 d=some (.frz o (DTB P w d (es.map (enB cx)))):=x6.up h5;have tb8:TabAt (bJ aG) lwQ T H8:=TabAt.but (tb5.ext x6) hfz (fun _ z=>nomatch z) (fun _ _ z=>nomatch z) b8
   have t28:TabAt (dv aT) lvQ T2 H8:=TabAt.but (t25.ext x6) hfz (fun _ z=>nomatch z) (fun _ _ z=>nomatch z) b8
   have heE:(es.map fun e:En (List Int)=>((e.x,e.a,e.v):je)).map ft=es.map (enB cx):=by rw[Du];rfl
   refine⟨es.map fun e=>(e.x,e.a,e.v),by rw[heE];exact h8,fun e he=>?_,by rw[Du];exact r.nd,fun out hout hup=>?_⟩
   ·obtain⟨e',he',rfl⟩:=Dg.mp he;exact⟨t8 _ _ (r.ents e' he'),(r.okk e' he').1⟩
   intro ls H9 hls h9 x9;rw[Du]at hout;have hol:out.length<=1000:=by
    have:=hout.length_eq
    rw[Dd]at this;lia
   have hot:∀ q∈out,H8 q.2=some (.tup (q.1.map V.int)):=fun q hq=>by
    obtain⟨e,he,rfl⟩:=Dg.mp (hout.mem_iff.mp hq);exact t8 _ _ (r.ents e he)
   refine⟨_,.inl h9,AR (zs:=out) (enc:=fun q:List Int×Addr=>V.ref q.2) (fun q=>q.1.map V.int) (fu (.inl h9)) (z0 (by lia)) (fun j q H10 Kk hq x10 kn=>?_) fun L H10 qs' hL h10 hqs' eqs x10=>?_⟩
   ·exact⟨cE rfl,_,.inl (x10.up (x9.up (hot q (Dw hq)))),kn⟩
   ·refine⟨z1 (by show 2<=1000;decide),fun t' H11 ht' h11 x11=>?_⟩
    refine fin t' H11 ⟨x28.trans (aI.ext ((x9.trans x10).trans x11)),((tb8.ext x9).ext x10).ext x11,((t28.ext x9).ext x10).ext x11,x28.toT.none ((x9.trans x10).free ht'),.inr ⟨?_,L,qs'.map fun q=>(q.1.1,q.2),h11,x28.toT.none (x9.free hL),?_,fun q hq=>?_,?_,?_⟩⟩
    ·refine List.find?_eq_none.mpr fun y hy=>?_
     obtain⟨e,he,rfl⟩:=Dg.mp hy;rw[hbefore e (by rw[Dd,Fy];exact he)]
     decide
    ·rw[x11.up h10];unfold rfs;rw[Du];rfl
    ·obtain⟨q',hq',rfl⟩:=Dg.mp hq;obtain⟨a1,a2,a3⟩:=hqs' q' hq';exact⟨x11.up a1,x28.toT.none (x9.free a2),a3⟩
    ·have e1:(qs'.map fun q=>(q.1.1,q.2)).map (·.1)=out.map (·.1):=by
      rw[<-eqs,Du,Du];rfl
     rw[e1]
     have:=hout.map (·.1)
     rw[Du]at this;rw[Du];exact this
    ·have e1:(qs'.map fun q=>(q.1.1,q.2)).map (·.1)=out.map (·.1):=by
      rw[<-eqs,Du,Du];rfl
     rw[e1];exact hup
end
end K
end
section
namespace SB
open PySem PySem.Spec PyProof.Rows L2
noncomputable def cQ (a:Int)(n:Nat):List Int:=(List.range n).map fun(k:Nat)=>a+(k:Int)
theorem vb(a:Int)(n:Nat):cQ a (n+1)=a::cQ (a+1) n:=by
 unfold cQ;rw[List.range_succ_eq_map,Dk,Du];refine congr (congrArg _ (by simp)) (Fi fun k _=>?_)
 show a+((k+1:Nat):Int)=a+1+(k:Int)
 lia
theorem sO:∀(vs:List Value)(a:Int),(∀(j:Nat)(v:Value),vs[j]? =some v->∃ t,v=.int (a+j*1) t)->Vals ((cQ a vs.length).map V.int) vs
 | [],a,_=>.nil
 | v::r,a,h=>by
  rw[DR,vb,Dk];obtain⟨t,ht⟩:=h 0 v rfl;refine .cons ⟨t,by rw[ht];simp⟩ (sO r (a+1) fun j v hj=>?_)
  obtain⟨t',ht'⟩:=h (j+1) v hj;refine⟨t',ht'.trans ?_⟩;congr 1;lia
section
variable {X:Cx}{a b:Expr}{ta:TA}{pos p p2 pos2:Pos}
end
end SB
end
section
namespace SB
open PySem PySem.Spec PyProof.Rows L2
open PySem.AutoSeq1 (wpAny_loadPart')
open MeetsSeq MeetsSeq2 MeetsSeq3
theorem lj:∀{xs:List Int}{vs:List Value}{i:Nat}{x:Int},Nums xs vs->xs[i]? =some x->∃ t,vs[i]? =some (.int x t)
 | [],_,i,x,_,h=>by simp at h
 | y::ys,vs,i,x,n,h=>by
  obtain⟨t,r,rfl,m⟩:=n.cons_inv;cases i with
  | zero=>
   have h:=DL h;subst h;exact⟨t,rfl⟩
  | succ i=>
   have h:ys[i]? =some x:=by simpa using h
   obtain⟨t',h'⟩:=lj m h;exact⟨t',by simpa using h'⟩
theorem Cf(l b:Addr)(xs ys:List Int)(items items2:Array Value)(n n2:Nat)(dd dd2:Option Addr)(sl sl2:Array (Option Value))(hx:Nums xs items.toList)(hy:Nums ys items2.toList)(k:Nat) :
  ∀ i:Nat,xs.length-i=k->i<=xs.length->i<=ys.length->Meets (Builtin.«list.__eq__.loop» ⟨[.ref l,.ref b,rawInt i,rawInt 0],[]⟩)
   (fun A R s=>s.heap.get? l=some { cls:=.type "list",dict:=dd,data:=.seq items n,slots:=sl }/\s.heap.get? b=some { cls:=.type "list",dict:=dd2,data:=.seq items2 n2,slots:=sl2 } ∧
    R (.ok (.ret (.bool (bp (xs.drop i) (ys.drop i))))) s):=by
 have sx:items.size=xs.length:=by rw[<-DJ];exact g0 hx
 have sy:items2.size=ys.length:=by rw[<-DJ];exact g0 hy
 induction k with
 | zero=>
  intro i hk hi1 hi2 prog w A R s h;obtain⟨hp,g,d,tk,os⟩:=s;obtain⟨hl,hb,h⟩:=h
  wp_walk using wpAny_loadPart' hl,wpAny_loadPart' hb
  have h1:items[((i:Nat):Int).toNat]? =none:=by simp;lia
  rw[h1]
  wp_walk using wpAny_loadPart' hl,wpAny_loadPart' hb
  show R (.ok (.ret (.bool (decide (items.size<items2.size))))) _
  have e:i=xs.length:=by lia
  subst e;rw[List.drop_length]at h;rw[sx,sy];have e2:bp [] (ys.drop xs.length)=decide (xs.length<ys.length):=by
   cases q:ys.drop xs.length with
   | nil=>
    have:=congrArg List.length q
    rw[Fo,E8]at this;rw[DT (by lia)]
    rfl
   | cons y r=>
    have:=congrArg List.length q
    rw[Fo,DR]at this;rw[DB (by lia)]
    rfl
  rw[<-e2];exact h
 | succ k ih=>
  intro i hk hi1 hi2 prog w A R s h;obtain⟨hp,g,d,tk,os⟩:=s;obtain⟨hl,hb,h⟩:=h
  have hlt:i<xs.length:=by lia
  obtain⟨t,hx1⟩:=lj hx (Dv hlt)
  wp_walk using wpAny_loadPart' hl,wpAny_loadPart' hb
  have h1:items[((i:Nat):Int).toNat]? =some (.int xs[i] t):=by simpa using hx1
  by_cases hlt2:i<ys.length
  ·obtain⟨t2,hy1⟩:=lj hy (Dv hlt2);have h2:items2[((i:Nat):Int).toNat]? =some (.int ys[i] t2):=by simpa using hy1
   have hc:((i:Int)+1)=((i+1:Nat):Int):=by push_cast;rfl
   rw[h1,h2];rw[Er hlt,Er hlt2]at h;unfold bp at h;refine De (wpAny_eqBool_int ?_)
   by_cases e:xs[i]=ys[i]
   ·rw[if_pos e]at h;rw[show(xs[i]==ys[i])=true from by simpa using e]
    wp_walk
    rw[hc];exact⟨plainId_quiet plain_eq_loop _,codeAny_builtin entry_eq_loop (by
     rw[Around.under_plainId plain_eq_loop _];exact ih (i+1) (by lia) (by lia) (by lia) prog w A R _ ⟨hl,hb,h⟩)⟩
   ·rw[if_neg e]at h;rw[show(xs[i]==ys[i])=false from by simpa using e]
    wp_walk using wpAny_loadPart' hl,wpAny_loadPart' hb
    rw[h1,h2];refine De (show wpAny (model prog w) A.in1 (compareOp .Lt (.int xs[i] t) (.int ys[i] t2)) _ _ _ from lt_int ?_)
    exact Df h
  ·have h2:items2[((i:Nat):Int).toNat]? =none:=by simp;lia
   rw[h1,h2]
   wp_walk using wpAny_loadPart' hl,wpAny_loadPart' hb
   show R (.ok (.ret (.bool (decide (items.size<items2.size))))) _
   have e:i=ys.length:=by lia
   subst e;rw[List.drop_length,Er hlt]at h;rw[sx,sy,DT (by lia)]
   exact h
theorem B9(l b:Addr)(xs ys:List Int)(items items2:Array Value)(n n2:Nat)(dd dd2:Option Addr)(sl sl2:Array (Option Value))(hx:Nums xs items.toList)(hy:Nums ys items2.toList) :
  Meets (Builtin.«list.__lt__» ⟨[.ref l,.ref b],[]⟩)
   (fun A R s=>s.heap.get? l=some { cls:=.type "list",dict:=dd,data:=.seq items n,slots:=sl }/\s.heap.get? b=some { cls:=.type "list",dict:=dd2,data:=.seq items2 n2,slots:=sl2 } ∧
    R (.ok (.ret (.bool (bp xs ys)))) s):=by
 intro prog w A R s h;obtain⟨hp,g,d,tk,os⟩:=s;obtain⟨hl,hb,h⟩:=h
 have f3:=AutoSeq1.sub_list_list
 wp_walk using wpAny_loadPart' hl,wpAny_loadPart' hb
 exact⟨plainId_quiet plain_eq_loop _,codeAny_builtin entry_eq_loop (by
  rw[Around.under_plainId plain_eq_loop _];exact Cf l b xs ys items items2 n n2 dd dd2 sl sl2 hx hy _ 0 rfl (DZ _) (DZ _) prog w A R _ ⟨hl,hb,h⟩)⟩
noncomputable def cW (h:Heap)(xs:List Int)(a:Addr):Prop:=∃ dd sl its n,h.get? a=some { cls:=.type "list",dict:=dd,data:=.seq its n,slots:=sl }/\Nums xs its.toList
theorem cW.keep{xs:List Int}(n:cW h xs a)(k:∀ b o,h.get? b=some o->h'.get? b=some o):cW h' xs a:=by
 obtain⟨dd,sl,its,m,h1,h2⟩:=n;exact⟨dd,sl,its,m,k _ _ h1,h2⟩
theorem cW.inj{xs ys:List Int}(n:cW h xs a)(m:cW h ys a):xs=ys:=by
 obtain⟨dd,sl,its,k,h1,h4⟩:=n;obtain⟨dd',sl',its',k',h1',h4'⟩:=m;rw[h1]at h1';cases h1'
 exact kh h4 h4'
theorem zc{xs:List Int}(ok:HOk P w H h)(e:H a=some (.lst (xs.map V.int))):cW h xs a:=by
 obtain⟨_,its,n,r,h1⟩:=(show aj P w H h a (.lst (xs.map V.int)) from ok a _ e)
 exact⟨_,_,its.toArray,n,h1,r⟩
section
variable {prog:Program}{w:World}{A:Around}{E:Value->Shared->Prop}{s:Shared}
theorem z9(hu:A.units<cLine){xs ys:List Int}{a':Addr}(h1:cW s.heap xs a)(h2:cW s.heap ys a'){C:Bool->Shared->Prop}(h:C (bp xs ys) s):wpAny (model prog w) A (keyLt' oneType' (.ref a) (.ref a')) C E s:=by
 obtain⟨dd,sl,its,n,ho,hi⟩:=h1;obtain⟨dd',sl',its',n',ho',hi'⟩:=h2;rw[keyLt'_oneType,oneLt'_eq];simp only[if_true];refine De (wpAny_cRoomFor hu ?_);refine De (wpAny_callSpecialIfBound?_slot ⟨_,ho,rfl⟩ PySem.F.slot_list_lt (call_meets PySem.F.slot_list_lt ⟨_,ho,rfl⟩ PySem.F.entry_list_lt (PySem.F.args_list_lt_2 _ _) (B9 a a' xs ys its its' n n' dd dd' sl sl' hi hi') ⟨ho,ho',?_⟩));exact ER h
theorem vT{ys:List (List Int×Value)}(hk:∀ p∈ys,∃ a,p.2=.ref a/\cW s.heap p.1 a)(h2:2<=ys.length){Q:SortKind->Shared->Prop}(h:Q oneType' s):wpAny (model prog w) A (keyKind' (ys.map (·.2)).toArray) Q E s:=by
 refine PySem.W.kas_kind (T:=Value.type "list") (by rw[Dd];exact h2) (fun v hv=>?_) (by decide) (by decide) h
 obtain⟨p,hp,rfl⟩:=Dg.mp hv;obtain⟨a,e,dd,sl,its,n,ho,_⟩:=hk p hp;rw[e]
 exact(PySem.W.Looks.ld ho).andThen .now
theorem rp(hl:s.heap.IsList a vs.toArray)(hz:vs.length<=sizeLine){R:List Value->Shared->Prop}(go:∀(h1:Heap),(∀ b o,s.heap.get? b=some o->h1.get? b=some o)->s.heap.objs.size<=h1.objs.size->R vs { s with heap:=h1 }):wpAny (model prog w) A (collect (.ref a)) R E s:=by
 refine collect_list hl (go _ (fun b o q=>?_) ?_) hz
 ·have hlt:b<s.heap.objs.size:=Dz q;rw[Heap.get?_update_ne _ _ _ _ (DO hlt),Heap.get?_push_ne _ _ _ (DO hlt)];exact q
 ·rw[Heap.size_update];show _<=(s.heap.push (seqObj "list" #[] 0)).objs.size
  rw[PyProof.Rows.size_push'];exact Nat.le_succ _
end
section
variable {X:Cx}
noncomputable def rB:List V->Hp->VK->Prop:=fun xs H Q=>match xs with
 | [.ref a]=>∃ ks:List Int,H a=some (.lst (ks.map V.int))/\aU (ks.Nodup)/\New H (.lst ((srt kLt (ks.map Sum.inl)).map kV)) Q
 | _=>False
theorem tO:∀{ks:List Int}{vs:List Value},Vals (ks.map V.int) vs->∃ ys:List (Ky×Value),ys.map (·.1)=ks.map Sum.inl/\ys.map (·.2)=vs/\∀ p∈ys,L2.bq p.1 p.2=true
 | [],_,r=>by cases r;exact⟨[],rfl,rfl,fun p hp=>nomatch hp⟩
 | k::ks,_,r=>by
  rw[Dk]at r;cases r with
  | @cons _ v _ vs r1 r2=>
   obtain⟨ys,h1,h2,h3⟩:=tO r2;obtain⟨t,rfl⟩:=r1;refine⟨(.inl k,.int k t)::ys,by rw[Dk,h1];rfl,by rw[Dk,h2],fun p hp=>?_⟩
   rcases DG.mp hp with rfl|hp
   ·exact gQ k t
   ·exact h3 p hp
theorem zY:aD X (.builtin "sorted") rB:=by
 intro pins s σ H xs us Q I r h;unfold rB at h
 split at h
 ·rename_i a
  obtain⟨ks,ha,nd,q⟩:=h;have nd:ks.Nodup:=nd;obtain⟨u,rfl,rx⟩:=vals1 r;cases rx
  obtain⟨z,its,n,rv,hg⟩:=(show aj X.prog X.w H s.heap a (.lst (ks.map V.int)) from I.hok a _ ha)
  rw[Dd]at z;have hl:=rv.length;rw[Dd]at hl;obtain⟨ys,e1,e2,e3⟩:=tO rv;have hb:∀ k∈ks.map (Sum.inl:Int->Ky),isI k=true:=fun k hk=>by
   obtain⟨x,_,rfl⟩:=Dg.mp hk;rfl
  refine jY (Rel:=fun(k:Ky) v=>L2.bq k v=true) (cI true) (ks:=ks.map Sum.inl) (by rw[Dd];exact z) (List.Pairwise.map _ (fun a b h z=>h (Sum.inl.inj z)) nd) hb ?_ oneType' ?_ ?_ ?_ ?_
  ·intro k hk k' hk' v h1 h2;rcases L2.br h1 with⟨i,t,e1,e2⟩|⟨x,t,e1,e2⟩ <;> rcases L2.br h2 with⟨j,t',e3,e4⟩|⟨y,t',e3,e4⟩
   ·rw[e2]at e4;injection e4 with e5 _;rw[e1,e3,e5]
   ·rw[e2]at e4;cases e4
   ·rw[e2]at e4;cases e4
   ·rw[e2]at e4;injection e4 with e5 _;rw[e1,e3,e5]
  ·intro s1 ys hy _ h2 Q' q';exact ma (b:=true) (fun p hp=>⟨(hy p hp).2,hb _ (hy p hp).1⟩) h2 q'
  ·intro s1 _ x hx y hy C hC;exact mJ hx.2 hy.2 (by rw[hb _ hx.1,hb _ hy.1]) hC
  ·intro E' R hR;refine rp (vs:=its) ⟨_,hg,rfl,n,rfl⟩ (by lia) fun h1 kp hs=>?_
   rw[<-e2];exact hR h1 s.toks ys e1 e3 kp hs
  ·intro h' tk D c out hpo hup hrel keep hD hg;have ho:out.map (·.1)=srt kLt (ks.map Sum.inl):=fm (cI true) hb (fun k'=>hpo.mem_iff) hup
   have rv2:Vals ((srt kLt (ks.map Sum.inl)).map kV) (out.map (·.2)):=by
    rw[<-ho,Du];exact gy (f:=kV) fun q hq=>fU (hrel q hq)
   have hol:out.length=ks.length:=by
    have:=hpo.length_eq
    rw[Dd,Dd]at this;exact this
   have I2:Inv X pins σ (upd H D (.lst ((srt kLt (ks.map Sum.inl)).map kV))) { s with heap:=h',toks:=tk }:=
    I.laid (t':=tk) keep hD (show aj X.prog X.w _ h' D (.lst ((srt kLt (ks.map Sum.inl)).map kV)) from⟨by rw[<-ho,Dd,Dd,hol];exact z,out.map (·.2),c,rv2,hg⟩)
   exact⟨V.ref D,_,I2,rfl,q.at (I.hok.fresh hD)⟩
 ·exact h.elim
noncomputable def rE:List V->Hp->VK->Prop:=fun xs H Q=>match xs with
 | [.ref a]=>∃ es:List (List Int×Addr),H a=some (.lst (es.map fun e=>V.ref e.2))/\(∀ e∈es,H e.2=some (.lst (e.1.map V.int)))/\aU ((es.map (·.1)).Nodup) ∧
   ∀ out:List (List Int×Addr),out.Perm es->(out.map (·.1)).Pairwise (fun x y=>bp x y=true)->New H (.lst (out.map fun p=>V.ref p.2)) Q
 | _=>False
theorem qT:∀{es:List (List Int×Addr)}{vs:List Value},Vals (es.map fun e=>V.ref e.2) vs->vs=es.map fun e=>Value.ref e.2
 | [],_,r=>by cases r;rfl
 | e::es,_,r=>by
  rw[Dk]at r;cases r with
  | @cons _ v _ vs r1 r2=>
   cases r1
   rw[Dk,qT r2]
theorem CT(hu:X.A.units+64<cLine):aD X (.builtin "sorted") rE:=by
 intro pins s σ H xs us Q I r h;unfold rE at h
 split at h
 ·rename_i a
  obtain⟨es,ha,hk,nd,q⟩:=h;have nd:(es.map (·.1)).Nodup:=nd;obtain⟨u,rfl,rx⟩:=vals1 r;cases rx
  obtain⟨z,its,n,rv,hg⟩:=(show aj X.prog X.w H s.heap a (.lst (es.map fun e=>V.ref e.2)) from I.hok a _ ha)
  rw[Dd]at z;have hits:=qT rv;have nt:∀ e∈es,cW s.heap e.1 e.2:=fun e he=>zc I.hok (hk e he)
  refine jY (Rel:=fun k v=>∃ e∈es,e.1=k/\v=.ref e.2) lG (ks:=es.map (·.1)) (by rw[Dd];exact z) nd (fun _ _=>trivial) ?_ oneType' ?_ ?_ ?_ ?_
  ·rintro k _ k' _ v ⟨e,he,rfl,rfl⟩ ⟨e',he',rfl,e2⟩;injection e2 with e2;have n1:=nt e he;rw[e2]at n1;exact n1.inj (nt e' he')
  ·intro s1 ys hy kp h2 Q' q';refine vT (fun p hp=>?_) h2 q'
   obtain⟨_,e,he,e1,e2⟩:=hy p hp;exact⟨e.2,e2,by rw[<-e1];exact(nt e he).keep kp⟩
  ·rintro s1 kp x ⟨_,e,he,e1,e2⟩ y ⟨_,e',he',e1',e2'⟩ C hC;rw[e2,e2'];rw[<-e1,<-e1']at hC;exact z9 (by show X.A.units+1+1<cLine;lia) ((nt e he).keep kp) ((nt e' he').keep kp) hC
  ·intro E' R hR;refine rp (vs:=its) ⟨_,hg,rfl,n,rfl⟩ (by rw[hits,Dd];exact z) fun h1 kp hs=>?_
   have e2:its=(es.map fun e=>(e.1,Value.ref e.2)).map (·.2):=by rw[hits,Du];rfl
   rw[e2];refine hR h1 s.toks (es.map fun e=>(e.1,Value.ref e.2)) (by rw[Du];rfl) (fun p hp=>?_) kp hs
   obtain⟨e,he,rfl⟩:=Dg.mp hp;exact⟨e,he,rfl,rfl⟩
  ·intro h' tk D c out hpo hup hrel keep hD hg;have pick:∀ p:List Int×Value,∃ b:Addr,p∈out->p.2=.ref b/\(p.1,b)∈es:=fun p=>by
    by_cases hp:p∈out
    ·obtain⟨e,he,e1,e2⟩:=hrel p hp;exact⟨e.2,fun _=>⟨e2,by rw[<-e1];exact he⟩⟩
    ·exact⟨0,fun z=>absurd z hp⟩
   let f:=fun p=>Classical.choose (pick p)
   have hf:∀ p∈out,p.2=.ref (f p)/\(p.1,f p)∈es:=fun p hp=>Classical.choose_spec (pick p) hp
   have hol:out.length=es.length:=by
    have:=hpo.length_eq
    rw[Dd,Dd]at this;exact this
   have hperm:(out.map fun p=>(p.1,f p)).Perm es:=by
    have n1:(out.map (·.1)).Nodup:=hpo.nodup_iff.mpr nd;have n2:(out.map fun p=>(p.1,f p)).Nodup:=by
     have:((out.map fun p=>(p.1,f p)).map (·.1)).Nodup:=by rw[Du];exact n1
     exact List.Pairwise.of_map (S:=fun a b=>a≠b) (·.1) (fun a b h z=>h (by rw[z])) this
    have n3:es.Nodup:=List.Pairwise.of_map (S:=fun a b=>a≠b) (·.1) (fun a b h z=>h (by rw[z])) nd
    refine(Fl n2 n3).mpr fun q=>⟨fun hq=>?_,fun hq=>?_⟩
    ·obtain⟨p,hp,rfl⟩:=Dg.mp hq
     exact(hf p hp).2
    ·have:q.1∈out.map (·.1):=hpo.mem_iff.mpr (DU hq)
     obtain⟨p,hp,e1⟩:=Dg.mp this;refine Dg.mpr ⟨p,hp,?_⟩;have hh:∀{l:List (List Int×Addr)},(l.map (·.1)).Nodup->∀ x y,x∈l->y∈l->x.1=y.1->x=y:=by
      intro l hl;induction l with
      | nil=>intro x y h _ _;cases h
      | cons y0 l ih=>
       rw[Dk,Eu]at hl;intro x y m1 m2 ee;rcases DG.mp m1 with z1|m1 <;> rcases DG.mp m2 with z2|m2
       ·rw[z1,z2]
       ·rw[z1]at ee;exact absurd (ee▸DU (f:=(·.1)) m2) hl.1
       ·rw[z2]at ee;exact absurd (ee▸DU (f:=(·.1)) m1) hl.1
       ·exact ih hl.2 x y m1 m2 ee
     exact hh nd _ _ (hf p hp).2 hq e1
   have I2:Inv X pins σ (upd H D (.lst ((out.map fun p=>(p.1,f p)).map fun p=>V.ref p.2))) { s with heap:=h',toks:=tk }:=
    I.laid (t':=tk) keep hD (show aj X.prog X.w _ h' D (.lst ((out.map fun p=>(p.1,f p)).map fun p=>V.ref p.2)) from⟨by rw[Dd,Dd,hol];exact z,out.map (·.2),c,by rw[Du];exact lX fun p hp=>(hf p hp).1,hg⟩)
   exact⟨V.ref D,_,I2,rfl,(q _ hperm (by rw[Du];exact hup)).at (I.hok.fresh hD)⟩
 ·exact h.elim
end
end SB
end
section
namespace SB
open PySem PySem.Spec PyProof.Rows L2
theorem u9{kvs:List (L2.Key×V)}{vs:List (L2.Key×Value)}(rel:Paired (fun p q=>p.1=q.1/\RelV p.2 q.2) kvs vs):Vals (kvs.map (·.2)) (vs.map (·.2)):=by
 induction rel with
 | nil=>exact .nil
 | cons h _ ih=>exact .cons h.2 ih
section
variable {X:Cx}{d:Expr}{td:TE}{pos p apos cpos:Pos}
noncomputable def wX (td:TE):TE:=fun σ H Q=>td σ H fun x H1=>match x with
 | .ref a=>∃ kvs,H1 a=some (.dK kvs)/\New H1 (.lst (kvs.map (·.2))) Q
 | _=>False
theorem uX(hc:X.calm=true)(hd:PE X d td)(hml:X.mg "list" = none) (hgl:Gl X "list":=by rfl) (hbase:attributeBase d "values" X.env (eval d X.env)=eval d X.env:=by rfl) (hline:(apos.endLine==cpos.line)=true:=by rfl) (hs3:starEach [.Call (.Attribute d "values" apos) [] [] cpos] X.env=[(false,eval (.Call (.Attribute d "values" apos) [] [] cpos) X.env)]:=by rfl) :
  PE X (.Call (.Name "list" p) [.Call (.Attribute d "values" apos) [] [] cpos] [] pos) (wX td):=by
 intro pins s σ H Q I h;refine Ff (fb I hgl hml (u:=.type "list") (by rfl) ?_ (by decide) (by decide))
 refine PyProof.Rows.callWith_type1 ?_ hs3 (by rfl)
 rw[hs3];show wpAny _ _ (spliced ((false,eval (.Call (.Attribute d "values" apos) [] [] cpos) X.env)::backTo pos [])) _ _ s
 refine Calls.spliced_cons ?_;refine wpAny_Call_method0_late hbase hline (thn (hd pins s σ H _ I h) fun v s1 hZ=>?_)
 obtain⟨x,H1,I1,r1,q1⟩:=hZ
 try dsimp only at q1
 split at q1
 ·rename_i a
  obtain⟨kvs,ha,q⟩:=q1;cases r1
  obtain⟨z,hs,vs,rel,dd⟩:=ml I1.hok ha;obtain⟨ob,es,ep,hob,hex,hdat,hrest⟩:=id dd;refine⟨"dict",_,PySem.F.plainAttrs_dict,PySem.F.slot_dict_values,PySem.F.type_dict_values,dd.typeIs,fun b e=>by cases e;exact⟨ob,hob,hex.2.1⟩,Calls.callWith_builtin rfl (PySem.evalArgs_none ?_)⟩
  refine call_meetsIn PySem.F.slot_dict_values dd.typeIs PySem.F.entry_dict_values (PySem.F.args_dict_values_1 _) (meets_dict_values (au X.prog X.w) a hs) ⟨⟨vs,dd⟩,?_⟩;refine Calls.spliced_nil ?_;have I2:=I1.kept (h':=s1.heap.push { cls:=.type "dict_values",data:=.fields #[.ref a] }) (t':=s1.toks) fun b o e=>Dh _ e
  have hm:(s1.heap.push { cls:=.type "dict_values",data:=.fields #[.ref a] }).DictAt (au X.prog X.w) a vs ep:=Heap.DictAt.push ⟨ob,es,hob,hex,hdat,hrest⟩ _
  have hlen:kvs.length=vs.length:=Paired.length rel;refine PySem.W.kdl_call (PySem.W.kdl_values (knd:=au X.prog X.w) (d:=a) (kvs:=vs) (ep:=ep)) (I.ok.hd hc) ⟨⟨_,DE _ rfl,rfl,rfl⟩,hm⟩ (by lia) fun h' tk acc c' kp hS hacc=>?_
  have rv:Vals (kvs.map (·.2)) acc.toList:=by
   have e:acc.toList=vs.map (·.2):=by
    apply List.ext_getElem?;intro i
    by_cases hi:i<vs.length
    ·have hi':i<acc.size:=by rw[hacc.1];exact hi
     obtain⟨k,hk⟩:=hacc.2 i acc[i] (DY hi');rw[DK,DY hi',Dq,hk];rfl
    ·rw[Eg.mpr (by rw[DJ,hacc.1];lia),Eg.mpr (by rw[Dd];lia)]
   rw[e];exact u9 rel
  refine⟨.ref _,_,I2.laid (t':=tk) kp (Di _) (show aj X.prog X.w _ h' _ (.lst (kvs.map (·.2))) from⟨by rw[Dd];exact z,acc.toList,c',rv,?_⟩),rfl,q.at (I2.hok.fresh (Di _))⟩
  rw[Array.toArray_toList];exact hS
 ·exact q1.elim
noncomputable def lC:V->List V->Hp->VK->Prop:=fun x vs H Q=>match x,vs with
 | .ref l,[]=>∃(xs:List V) (y:V),H l=some (.lst (xs++[y]))/\cN H l (.lst xs) (Q y)
 | _,_=>False
theorem ye:MtR X "list.pop" lC:=MtR.weak AV fun x vs H Q h=>by
 unfold lC at h
 split at h
 ·obtain⟨xs,y,hx,q⟩:=h;refine⟨_,_,y,rfl,rfl,hx,by simp,?_⟩
  rw[List.dropLast_concat];exact q.at
 ·exact h.elim
theorem vF{o:Expr}{ta:TE}(ho:PE X o ta)(hbase:attributeBase o "pop" X.env (eval o X.env)=eval o X.env:=by rfl) (hline:(apos.endLine==cpos.line)=true:=by rfl):PE X (.Call (.Attribute o "pop" apos) [] [] cpos) (iu lC ta eO):=
 PE.weak (rD PySem.F.plainAttrs_list PySem.F.slot_list_pop PySem.F.type_list_pop ye (PE.cl ho) hbase hline) rX
end
end SB
end
section
set_option maxHeartbeats 4000000
namespace K
open PySem PySem.Spec PyProof.Rows L2 SB
noncomputable abbrev sUn:Stmt:=top 29
noncomputable abbrev sNx:Stmt:=top 30
noncomputable abbrev mOf (n:Int)(st:List Int)(ms:List (Mv×Addr))(sg:List (Str×Str))(fl:List Str):az:=mkM n st (ms.map (·.1)) sg fl
theorem tQ{n:Int}{st:List Int}{ms:List (Mv×Addr)}{sg:List (Str×Str)}{r y:Int}:y∈bO (mOf n st ms sg fl) r↔∃ m∈ms,aE sg m.1.2.1=none/\m.1.1=r/\m.1.2.2=y:=by
 unfold bO gq;rw[Dg];constructor
 ·rintro⟨m,hm,rfl⟩;obtain⟨h1,h2⟩:=Eb.mp hm;obtain⟨h3,h4⟩:=Eb.mp h1;have h5:m∈ms.map (·.1):=dZ.mp h3;obtain⟨q,hq,rfl⟩:=Dg.mp h5;exact⟨q,hq,DX h4,DX h2,rfl⟩
 ·rintro⟨q,hq,h1,h2,rfl⟩;exact⟨q.1,Eb.mpr ⟨Eb.mpr ⟨dZ.mpr (DU hq),DB h1⟩,DB h2⟩,rfl⟩
theorem Ba(sg:List (Str×Str))(z:Str):(aJ (sgV sg) (Sum.inr z)).isSome = !decide (aE sg z=none):=by
 unfold aE aJ sgV;rw[List.find?_map,Fh,Fh];have e:((fun kv:L2.Key×V=>decide (kv.1=Sum.inr z))∘fun p:Str×Str=>((Sum.inr p.1:L2.Key),V.str p.2))=fun p:Str×Str=>decide (p.1=z):=by
  funext p;apply Ej.mpr
  simp
 rw[e];cases h:sg.find? (fun p:Str×Str=>decide (p.1=z)) <;> rfl
noncomputable def iN:Sp:=fun vs H Q _=>∃(q c s m g f:Addr)(n:Int)(st:List Int)(ms:List (Mv×Addr))(sg:List (Str×Str))(fl:List Str)(xs:List Int),vs=[.ref q,.ref c]/\dE H q s m g f n st ms sg fl/\RdL H c (xs.map V.int)/\xs.length<=100/\n<=8/\(∀ r∈xs,okI n r)/\(∀ y∈ms,bF n y.1)/\ms.length<=24 ∧
 New H (.lst ((ay (mOf n st ms sg fl) n xs).map V.int)) Q
noncomputable abbrev nUn:List Str:=["_law_machine_here","_law_rooms","_law_row","_law_found","_law_here"]
noncomputable abbrev nUc:List Str:=["_law_start","_law_deed","_law_last","_law_here","_law_machine_here"]
theorem BX:ba nUn ["_law_machine_here","_law_rooms"] (aq sUn):=⟨rfl,rfl,rfl,by decide +kernel,rfl,by decide +kernel,by decide +kernel⟩
section
variable {P:Program}{w:World}{K:PySem.W.Frag}{mg:Str->Option Value}{base:Heap}
theorem By(F:Fun K "_law_unseen" "_law_unseen" sUn f fd) (hli:mg "list" = none) (hso:mg "sorted" = none):ar P w K mg base CX0 1 f fd ["_law_machine_here","_law_rooms"] iN:=by
 refine F.ok BX (fun vs H Q E h=>?_) (fun cdv A outer s H vs Q E hr h=>?_)
 ·obtain⟨q,c,s,m,g,f,n,st,ms,sg,fl,xs,rfl,_⟩:=h;rfl
 ·obtain⟨q,c,s,m,g,f,n,st,ms,sg,fl,xs,rfl,la,hc,hxl,hn,hxs,hmo,hml,k⟩:=h;have hu:=hr.units;refine⟨_,ae (av nUn 2 (q_t jS hli (aa (q_v 1) ab)))
   (ae (av nUn 3 (bf ab))
   (ae (gA PassesOwn.never (aR (fw hu) (q_v 2) (bf ab))
    (ae (av nUn 4 (vF (q_v 2)))
    (ah (cc (aR sU (q_v 4) (q_v 3))
     (ae (bw (cT (q_v 3) (q_v 4)))
     (ah (av nUn 2 (ag bW (q_v 2) (iZ nUn (aq sUn) nUc [none,none,none,some 4,some 0] rfl (bu (bD cz (q_v 0) af (fun _ _=>rfl)))
      (fun _ _ _ _=>eI (n:=3) rfl (bj (q_g nUc 0) (bj (q_g nUc 1) (bj (q_g nUc 2) dN))))
      (fun _ _ _ _=>(pw_and (aR du (q_v 0) (q_v 3)) (pw_and1 (aR (oU hu) (q_v 1) (bD cz (q_v 4) af (fun _ _=>rfl))))).pt) (fun _ _ _ _=>q_v 2)))))) bY))))
   (ah (bz (q_b zY hso (aa (q_v 3) ab)))))),?_⟩
  have z1:∀{n:Nat},n<=10000->n<=sizeLine:=fun h=>by rw[DV];lia
  have z0:∀{n:Nat},n<=10000->n<sizeLine:=fun h=>by rw[DV];lia
  have hU:(UI n).length<=8:=by unfold UI;rw[Dd,Ef];lia
  refine⟨_,hc,fun l0 H1 hl0 h1 e1=>?_⟩
  refine⟨z1 (by show 0<=10000;decide),fun lf H2 hlf h2 e2=>?_⟩
  have hlfn:H lf=none:=e1.free hlf;refine⟨(fun μ σ H3=>∃(l:Addr) (v4:Option V) (row F:List Int),σ=[some (.ref q),some (.ref c),some (.ref l),some (.ref lf),v4]/\Ext H H3/\H l=none/\l≠lf/\H3 l=some (.lst (row.map V.int))/\H3 lf=some (.lst (F.map V.int))/\F.Nodup/\(∀ r∈F,okI n r)/\(∀ r∈row,okI n r) ∧
    (∀ r∈F,Rc (bO (mOf n st ms sg fl)) xs r)/\(∀ r∈row,Rc (bO (mOf n st ms sg fl)) xs r)/\(∀ r∈xs,r∈F\/r∈row)/\(∀ r∈F,∀ y∈bO (mOf n st ms sg fl) r,y∈F\/y∈row)/\F.length+mis (UI n) F<=8/\row.length+25*mis (UI n) F<=100+25*8/\μ=row.length+25*mis (UI n) F),
   ⟨_,l0,_,xs,[],rfl,e1.trans e2,hl0,aB h1 hlf,e2.up h1,h2,EK,(fun r hr=>nomatch hr),hxs,(fun r hr=>nomatch hr),fun r hr=>.base hr,fun r hr=>.inr hr,(fun r hr=>nomatch hr),?_,?_,rfl⟩,?_⟩
  ·have:mis (UI n) []<=(UI n).length:=Fb
   show 0+mis (UI n) []<=8
   lia
  ·have:mis (UI n) []<=(UI n).length:=Fb
   lia
  rintro μ σ H3 ⟨l,v4,row,F,rfl,x3,hl,nl,h3,h3f,nd,okF,okR',rcF,rcR,hst,hcl,bd,bd2,rfl⟩;refine⟨z1 (by show 0<=10000;decide),fun a0 H4 ha0 h4 e4=>⟨flD (row.map V.int),flD [],cj (.inl (e4.up h3)) (cw _),cj (.inl h4) rfl,eJ (fun x _ y hy=>nomatch hy),rfl,by rw[dU];decide,?_⟩⟩
  refine aV (fun hA=>?_) (fun hA=>?_)
  ·have hA:(!eqD (flD (row.map V.int)) (flD []))=true:=hA;have hne:row≠[]:=fun z=>by
    subst z;rw[show eqD (flD (List.map V.int [])) (flD [])=true from cX rfl]at hA
    cases hA
   obtain⟨row',r,rfl⟩:∃ row' r,row=row'++[r]:=by
    rcases List.eq_nil_or_concat row with e|⟨a,b,e⟩
    ·exact absurd e hne
    ·exact⟨a,b,by rw[e];simp⟩
   have h4l:H4 l=some (.lst (row'.map V.int++[V.int r])):=by rw[e4.up h3,Dn];rfl
   refine⟨_,fun _ _ z=>z,_,.inl h4l,_,_,h4l,fun H5 h5 b5=>?_⟩
   have x4:Ext H H4:=x3.trans e4;have x5:Ext H H5:=fun b u hb=>b5.up (fun z=>by rw[z,hl]at hb;cases hb) (x4.up hb)
   have f5:H5 lf=some (.lst (F.map V.int)):=b5.up nl.symm (e4.up h3f);have rok:okI n r:=okR' r (by simp)
   have rrc:Rc (bO (mOf n st ms sg fl)) xs r:=rcR r (by simp)
   refine⟨_,.inl f5,⟨rfl,cw _⟩,aV (fun hB=>?_) (fun hB=>?_)⟩
   ·have hB:(!inV (.int r) (F.map V.int))=true:=hB;rw[en]at hB;have hB:r∉F:=by simpa using hB
    refine⟨_,.inl f5,_,f5,z0 (by rw[Dd];lia),fun H6 h6 b6=>?_⟩
    have x6:Ext H H6:=fun b u hb=>b6.up (fun z=>by rw[z,hlfn]at hb;cases hb) (x5.up hb)
    have l6:H6 l=some (.lst (row'.map V.int)):=b6.up nl h5;have la6:=la.ext x6;refine⟨_,.inl la6.q,_,rfl,_,.inl la6.m,?_⟩;refine dX (zs:=ms) (enc:=fun y:Mv×Addr=>V.ref y.2) (fun y=>if (decide (y.1.1=r)&&decide (aE sg y.1.2.1=none))=true then some (V.int y.1.2.2) else none) (fu (.inl la6.m)) (z0 (by lia)) (fun i y H7 Kk hy x7 kk=>?_) ?_
    ·have ty:=x7.up (la6.t y (Dw hy));have la7:=la6.ext x7;have kk:=kk H7 Ext.refl;refine⟨_,.inl ty,rfl,jk rfl (jk rfl (cE rfl)),?_⟩;have ysg:(aJ (sgV sg) (Sum.inr y.1.2.1)).isSome = !decide (aE sg y.1.2.1=none):=by rw[Ba]
     refine⟨rfl,aV (fun h1=>?_) (fun h1=>?_)⟩
     ·have h1:y.1.1=r:=by
       have:=DX h1
       injection this
      refine⟨_,.inl la7.q,_,rfl,_,.inl la7.g,_,rfl,?_⟩;show if (!(aJ (sgV sg) (Sum.inr y.1.2.1)).isSome)=true then _ else _
      rw[ysg]
      by_cases h2:aE sg y.1.2.1=none
      ·rw[if_pos (by rw[DB h2];rfl)]
       rw[if_pos (by rw[DB h1,DB h2];rfl)]at kk
       exact kk
      ·rw[if_neg (by rw[DT h2];decide)]
       rw[if_neg (by rw[DB h1,DT h2];decide)]at kk
       exact kk
     ·have h1:¬ y.1.1=r:=fun z=>h1 (by rw[z];exact DB rfl)
      rw[if_neg (by rw[DT h1,Bool.false_and];decide)]at kk
      show if false=true then _ else _
      rw[if_neg (by decide)]
      exact kk
    ·intro lc H7 hlc h7 e7;rw[eK]at h7;refine⟨_,e7.up l6,_,h7,z1 ?_,fun ln H8 hln h8 e8=>?_⟩
     ·have:=ET (fun y:Mv×Addr=>decide (y.1.1=r)&&decide (aE sg y.1.2.1=none)) ms
      rw[Dd,Dd,Dd];rw[Dl,D7]at bd2;lia
     have e68:Ext H6 H8:=e7.trans e8;have mN:∀ y,y∈(ms.filter fun y=>decide (y.1.1=r)&&decide (aE sg y.1.2.1=none)).map (fun y=>y.1.2.2)↔y∈bO (mOf n st ms sg fl) r:=fun y=>by
      rw[tQ,Dg];constructor
      ·rintro⟨z,hz,rfl⟩;obtain⟨h1,h2⟩:=Eb.mp hz;rw[Ey]at h2;exact⟨z,h1,DX h2.2,DX h2.1,rfl⟩
      ·rintro⟨z,h1,h2,h3,rfl⟩;exact⟨z,Eb.mpr ⟨h1,by rw[DB h2,DB h3];rfl⟩,rfl⟩
     have lN:((ms.filter fun y=>decide (y.1.1=r)&&decide (aE sg y.1.2.1=none)).map (fun y=>y.1.2.2)).length<=24:=by
      rw[Dd];exact Ea (ET _ _) hml
     generalize (ms.filter fun y=>decide (y.1.1=r)&&decide (aE sg y.1.2.1=none)).map (fun y=>y.1.2.2)=N at h8 mN lN
     have h8:H8 ln=some (.lst ((row'++N).map V.int)):=by rw[h8,Dn]
     have mis1:=dW hB (UI n);rw[if_pos (jy rok)]at mis1;rw[Dl,D7]at bd2;refine⟨(row'++N).length+25*mis (UI n) (F++[r]),?_,ln,_,row'++N,F++[r],rfl,x6.trans e68,x6.free (e7.free hln),fun z=>?_,h8,?_,?_,?_,?_,?_,?_,?_,?_,?_,?_,rfl⟩
     ·rw[Dl,Dl,D7];lia
     ·rw[z]at hln;rw[e7.up h6]at hln;cases hln
     ·rw[e68.up h6,Dn];rfl
     ·exact List.nodup_append.mpr ⟨nd,Eu.mpr ⟨(fun z=>nomatch z),EK⟩,fun a ha b hb e=>by rw[Dj.mp hb]at e;exact hB (e▸ha)⟩
     ·intro z hz;rcases Dp.mp hz with hz|hz
      ·exact okF z hz
      ·rw[Dj.mp hz];exact rok
     ·intro z hz;rcases Dp.mp hz with hz|hz
      ·exact okR' z (by simp [hz])
      ·obtain⟨y,hy,_,_,rfl⟩:=tQ.mp ((mN z).mp hz)
       exact(hmo y hy).2.2
     ·intro z hz;rcases Dp.mp hz with hz|hz
      ·exact rcF z hz
      ·rw[Dj.mp hz];exact rrc
     ·intro z hz;rcases Dp.mp hz with hz|hz
      ·exact rcR z (by simp [hz])
      ·exact .step rrc ((mN z).mp hz)
     ·intro z hz;rcases hst z hz with h|h
      ·exact .inl (by simp [h])
      ·rcases Dp.mp h with h|h
       ·exact .inr (by simp [h])
       ·rw[Dj.mp h];exact .inl (by simp)
     ·intro z hz y hy;rcases Dp.mp hz with hz|hz
      ·rcases hcl z hz y hy with h|h
       ·exact .inl (by simp [h])
       ·rcases Dp.mp h with h|h
        ·exact .inr (by simp [h])
        ·rw[Dj.mp h];exact .inl (by simp)
      ·rw[Dj.mp hz]at hy;exact .inr (Ek _ ((mN y).mpr hy))
     ·rw[Dl,D7];lia
     ·rw[Dl];lia
   ·have hB:¬ (!inV (.int r) (F.map V.int))=true:=hB;rw[en]at hB;have hB:r∈F:=Decidable.byContradiction fun z=>hB (by rw[DT z];rfl)
    rw[Dl,D7]at bd2;refine⟨row'.length+25*mis (UI n) F,?_,l,_,row',F,rfl,x5,hl,nl,h5,f5,nd,okF,fun z hz=>okR' z (by simp [hz]),rcF,fun z hz=>rcR z (by simp [hz]),fun z hz=>?_,fun z hz y hy=>?_,bd,by lia,rfl⟩
    ·rw[Dl,D7];lia
    ·rcases hst z hz with h|h
     ·exact .inl h
     ·rcases Dp.mp h with h|h
      ·exact .inr h
      ·rw[Dj.mp h];exact .inl hB
    ·rcases hcl z hz y hy with h|h
     ·exact .inl h
     ·rcases Dp.mp h with h|h
      ·exact .inr h
      ·rw[Dj.mp h];exact .inl hB
  ·have hA:¬ (!eqD (flD (row.map V.int)) (flD []))=true:=hA;have hnil:row=[]:=by
    cases row with
    | nil=>rfl
    | cons a r=>exact absurd (by rw[dO (fun z=>by have:=lT z;simp at this)];rfl) hA
   subst hnil;have hF:∀ r,r∈F↔Rc (bO (mOf n st ms sg fl)) xs r:=fun r=>⟨rcF r,fun h=>um (fun x hx=>(hst x hx).resolve_right fun z=>nomatch z) (fun x hx y hy=>(hcl x hx y hy).resolve_right fun z=>nomatch z) h⟩
   refine⟨F,e4.up h3f,nd,fun lr H5 hlr h5 e5=>?_⟩
   rw[nX,mH hxs (fun m hm=>by obtain⟨y,hy,rfl⟩:=Dg.mp (dZ.mp hm);exact hmo y hy) hF]at h5
   exact k lr H5 ((x3.trans e4).free hlr) h5 ((x3.trans e4).trans e5)
theorem oW{α:Type}{next:α->List α}{a b:List α}(h:∀ x∈a,x∈b){x:α}(c:Rc next a x):Rc next b x:=by
 induction c with
 | base hx=>exact .base (h _ hx)
 | step _ hy ih=>exact .step ih hy
theorem oV{M:az}{n:Int}{a b:List Int}(h:∀ r,r∈a↔r∈b):ay M n a=ay M n b:=by
 unfold ay;congr 1;apply List.filter_congr;intro r _;exact decide_eq_decide.mpr ⟨oW fun x hx=>(h x).mp hx,oW fun x hx=>(h x).mpr hx⟩
theorem kL{n:Int}{st:List Int}{ms:List (Mv×Addr)}{sg:List (Str×Str)}{xs:List Int}{r:Int}:r∈aw (mOf n st ms sg fl) xs (mOf n st ms sg fl).mv z↔∃ m∈ms,aE sg m.1.2.1=some z/\m.1.1∈xs/\m.1.2.2=r:=by
 unfold aw;rw[Dg];constructor
 ·rintro⟨m,hm,rfl⟩;obtain⟨h1,h2⟩:=Eb.mp hm;have h5:m∈ms.map (·.1):=dZ.mp h1;obtain⟨q,hq,rfl⟩:=Dg.mp h5;unfold bT at h2;rw[Ey]at h2;exact⟨q,hq,DX h2.1,DX h2.2,rfl⟩
 ·rintro⟨q,hq,h1,h2,rfl⟩;refine⟨q.1,Eb.mpr ⟨dZ.mpr (DU hq),?_⟩,rfl⟩;unfold bT;rw[show decide (aE (mOf n st ms sg fl).sg q.1.2.1=some z)=true from DB h1,DB h2]
  rfl
noncomputable def ky:Sp:=fun vs H Q _=>∃(q c s m g f:Addr)(n:Int)(st:List Int)(ms:List (Mv×Addr))(sg:List (Str×Str))(fl:List Str)(xs:List Int)(z:Str),vs=[.ref q,.ref c,.str z]/\dE H q s m g f n st ms sg fl/\RdL H c (xs.map V.int)/\n<=8/\(∀ y∈ms,bF n y.1)/\ms.length<=24 ∧
 ∀ l H',H l=none->H' l=some (.lst ((ay (mOf n st ms sg fl) n (aw (mOf n st ms sg fl) xs (mOf n st ms sg fl).mv z)).map V.int))->Ext H H'->Q (.ref l) H'
noncomputable abbrev nNx:List Str:=["_law_machine_here","_law_rooms","_law_sign","_law_row"]
noncomputable abbrev nNc:List Str:=["_law_start","_law_deed","_law_last","_law_machine_here","_law_rooms","_law_sign"]
theorem vg:ba nNx ["_law_machine_here","_law_rooms","_law_sign"] (aq sNx):=⟨rfl,rfl,rfl,by decide +kernel,rfl,by decide +kernel,by decide +kernel⟩
theorem CM(F:Fun K "_law_next" "_law_next" sNx f fd) (D:Known P w K mg base 1 "_law_unseen" ["_law_machine_here","_law_rooms"] iN):ar P w K mg base CX0 2 f fd ["_law_machine_here","_law_rooms","_law_sign"] ky:=by
 refine F.ok vg (fun vs H Q E h=>?_) (fun cdv A outer s H vs Q E hr h=>?_)
 ·obtain⟨q,c,s,m,g,f,n,st,ms,sg,fl,xs,z,rfl,_⟩:=h;rfl
 ·obtain⟨q,c,s,m,g,f,n,st,ms,sg,fl,xs,z,rfl,la,hc,hn,hmo,hml,k⟩:=h;have hu:=hr.units;refine⟨_,ae (iX nNx 3 (aq sNx) nNc [none,none,none,some 0,some 1,some 2] rfl (bu (bD cz (q_v 0) af (fun _ _=>rfl)))
    (fun _ _ _ _=>eI (n:=3) rfl (bj (q_g nNc 0) (bj (q_g nNc 1) (bj (q_g nNc 2) dN))))
    (fun _ _ _ _=>(pw_and (aR tU (q_v 0) (q_v 4)) (pw_and1 (aR du (su hu (bD cz (q_v 3) af (fun _ _=>rfl)) (q_v 1) ⟨rfl,rfl,rfl,rfl⟩) (q_v 5)))).pt) (fun _ _ _ _=>q_v 2))
   (ah (bz (aH D hr (aa (q_v 0) (aa (q_v 3) ab))))),?_⟩
  have z0:∀{n:Nat},n<=10000->n<sizeLine:=fun h=>by rw[DV];lia
  refine⟨_,.inl la.q,_,rfl,_,.inl la.m,?_⟩;refine dX (zs:=ms) (enc:=fun y:Mv×Addr=>V.ref y.2) (fun y=>if (decide (y.1.1∈xs)&&decide (aE sg y.1.2.1=some z))=true then some (V.int y.1.2.2) else none) (fu (.inl la.m)) (z0 (by lia)) (fun i y H7 Kk hy x7 kk=>?_) ?_
  ·have ty:=x7.up (la.t y (Dw hy));have la7:=la.ext x7;have kk:=kk H7 Ext.refl;refine⟨_,.inl ty,rfl,jk rfl (jk rfl (cE rfl)),?_⟩;refine⟨_,x7.rd hc,⟨rfl,cw _⟩,?_⟩;refine aV (fun h1=>?_) (fun h1=>?_)
   ·have h1:inV (.int y.1.1) (xs.map V.int)=true:=h1;rw[en]at h1;refine⟨_,.inl la7.q,_,rfl,_,.inl la7.g,_,.inl la7.g,_,rfl,?_⟩;rw[sA];cases e:aE sg y.1.2.1 with
    | none=>
     rw[e,show decide ((none:Option Str)=some z)=false from rfl,Fp,if_neg (by decide)]at kk
     exact⟨rfl,kk⟩
    | some y'=>
     refine⟨rfl,?_⟩;show if decide (V.str y'=V.str z)=true then _ else _
     by_cases h2:y'=z
     ·rw[if_pos (by rw[h2];exact DB rfl)]
      rw[if_pos (by rw[h1,e,h2,DB rfl];rfl)]at kk
      exact kk
     ·rw[if_neg (by rw[DT (fun w=>h2 (by injection w))];decide)]
      rw[e,show decide (some y'=some z)=false from DT fun w=>h2 (DL w),Fp,if_neg (by decide)]at kk
      exact kk
   ·have h1:¬ inV (.int y.1.1) (xs.map V.int)=true:=h1;rw[en]at h1;rw[if_neg (by rw[Bool.eq_false_iff.mpr h1,Bool.false_and];decide)]at kk
    show if false=true then _ else _
    rw[if_neg (by decide)]
    exact kk
  ·intro lc H7 hlc h7 e7;rw[eK]at h7;have mL:∀ r,r∈(ms.filter fun y=>decide (y.1.1∈xs)&&decide (aE sg y.1.2.1=some z)).map (fun y=>y.1.2.2)↔r∈aw (mOf n st ms sg fl) xs (mOf n st ms sg fl).mv z:=fun r=>by
    rw[kL,Dg];constructor
    ·rintro⟨y,hy,rfl⟩;obtain⟨h1,h2⟩:=Eb.mp hy;rw[Ey]at h2;exact⟨y,h1,DX h2.2,DX h2.1,rfl⟩
    ·rintro⟨y,h1,h2,h3,rfl⟩;exact⟨y,Eb.mpr ⟨h1,by rw[DB h2,DB h3];rfl⟩,rfl⟩
   have lL:((ms.filter fun y=>decide (y.1.1∈xs)&&decide (aE sg y.1.2.1=some z)).map (fun y=>y.1.2.2)).length<=24:=by
    rw[Dd];exact Ea (ET _ _) hml
   have oL:∀ r∈(ms.filter fun y=>decide (y.1.1∈xs)&&decide (aE sg y.1.2.1=some z)).map (fun y=>y.1.2.2),okI n r:=fun r hr=>by
    obtain⟨y,hy,_,_,rfl⟩:=kL.mp ((mL r).mp hr)
    exact(hmo y hy).2.2
   generalize (ms.filter fun y=>decide (y.1.1∈xs)&&decide (aE sg y.1.2.1=some z)).map (fun y=>y.1.2.2)=N at h7 mL lL oL
   refine⟨q,lc,s,m,g,f,n,st,ms,sg,fl,N,rfl,la.ext e7,.inl h7,by lia,hn,oL,hmo,hml,fun l H8 hl h8 e8=>?_⟩
   rw[oV mL]at h8;exact k l H8 (e7.free hl) h8 (e7.trans e8)
end
set_option maxHeartbeats 4000000
section
variable {α:Type} [DecidableEq α]
theorem Run.same{steps:α->List (Str×α)}{st:List α}:∀{k:Nat}{es es':List (α×List Str)},Run steps st k es->Run steps st k es'->es=es'
 | 0,_,_,.zero,.zero=>rfl
 | k+1,_,_,.next r h,.next r' h'=>by
  have e:=Run.same r r';subst e;rw[h]at h';cases h'
  rfl
theorem Run.pre{steps:α->List (Str×α)}{st:List α}{k:Nat}{es:List (α×List Str)}(r:Run steps st k es):∀{m:Nat}{B:List (α×List Str)},Run steps st m B->k<=m->∃ n,B=es++n
 | 0,B,r',h=>by
  obtain rfl:k=0:=by lia
  exact⟨[],by rw[Run.same r' r,D9]⟩
 | m+1,B,r',h=>by
  by_cases e:k=m+1
  ·subst e;exact⟨[],by rw[Run.same r' r,D9]⟩
  ·cases r' with
   | @next _ es' x p r1 h1=>
    obtain⟨n,hn⟩:=Run.pre r r1 (by lia)
    obtain⟨n',hn'⟩:=il p es' (steps x);exact⟨n++n',by rw[hn',hn,Ed]⟩
theorem Run.le{steps:α->List (Str×α)}{st:List α}{k:Nat}{es B:List (α×List Str)}(r:Run steps st k es)(b:Run steps st B.length B):k<=B.length:=by
 induction r with
 | zero=>exact DZ _
 | @next k es x p r1 h1 ih=>
  rcases Nat.lt_or_ge k B.length with q|q
  ·exact q
  ·have e:k=B.length:=by lia
   subst e
   have:=Run.same r1 b
   rw[this,Eg.mpr (Di _)]at h1;cases h1
theorem Run.bd{steps:α->List (Str×α)}{st:List α}{k:Nat}{es:List (α×List Str)}(r:Run steps st k es):k<=es.length:=by
 cases r with
 | zero=>exact DZ _
 | @next k es x p r1 h1=>
  obtain⟨n,hn⟩:=il p es (steps x)
  have:=(DI.mp h1).1
  rw[hn,Dl];lia
noncomputable def bg (nil:α->Bool):List (α×List Str)->List (List Str×α)->List (α×List Str)
 | es,[]=>es
 | es,(p,x)::r=>if nil x=true\/x∈es.map (·.1) then bg nil es r else bg nil (es++[(x,p)]) r
theorem k5(nil:α->Bool)(es:List (α×List Str))(p:List Str)(x:α)(r:List (List Str×α)):bg nil es ((p,x)::r)=if nil x=true\/x∈es.map (·.1) then bg nil es r else bg nil (es++[(x,p)]) r:=rfl
theorem nZ(nil:α->Bool):∀(es:List (α×List Str))(a b:List (List Str×α)),bg nil es (a++b)=bg nil (bg nil es a) b
 | es,[],b=>rfl
 | es,(p,x)::a,b=>by
  show(if nil x=true\/x∈es.map (·.1) then bg nil es (a++b) else bg nil (es++[(x,p)]) (a++b))=bg nil (if nil x=true\/x∈es.map (·.1) then bg nil es a else bg nil (es++[(x,p)]) a) b
  split
  ·exact nZ nil es a b
  ·exact nZ nil _ a b
theorem mT(nil:α->Bool):∀(es:List (α×List Str))(a:List (List Str×α)),∃ n,bg nil es a=es++n
 | es,[]=>⟨[],by rw[D9];rfl⟩
 | es,(p,x)::a=>by
  unfold bg
  split
  ·exact mT nil es a
  ·obtain⟨n,h⟩:=mT nil (es++[(x,p)]) a;exact⟨(x,p)::n,by rw[h];simp⟩
theorem jq(nil:α->Bool)(g:Str->α)(p:List Str):∀(S:List Str)(es:List (α×List Str)),bg nil es (S.map fun z=>(p++[z],g z))=pushS p es ((S.filter fun z=>!nil (g z)).map fun z=>(z,g z))
 | [],es=>rfl
 | z::S,es=>by
  rw[Dk];unfold bg;cases hz:nil (g z) with
  | true=>
   rw[if_pos (.inl rfl),List.filter_cons_of_neg (by rw[hz];decide)]
   exact jq nil g p S es
  | false=>
   rw[List.filter_cons_of_pos (by rw[hz];rfl),Dk]
   unfold pushS
   by_cases hm:g z∈es.map (·.1)
   ·rw[if_pos (.inr hm),if_pos hm];exact jq nil g p S es
   ·rw[if_neg (fun w=>w.elim (fun w=>nomatch w) hm),if_neg hm]
    exact jq nil g p S _
end
noncomputable def cL (x:List Int):Bool:=x.isEmpty
theorem ui(l:List Str):(aN l).Pairwise (fun x y=>kLt (Sum.inr x) (Sum.inr y)=true):=by
 have h:=ip (lt:=kLt) (cI false) (xs:=l.map Sum.inr) (fh l);have e:(srt kLt (l.map Sum.inr))=(aN l).map Sum.inr:=by
  unfold aN;rw[Du];refine(List.map_id' (srt kLt (l.map Sum.inr))).symm.trans (Fi fun k hk=>?_)
  obtain⟨i,_,rfl⟩:=Dg.mp (cp.mp hk);rfl
 rw[e,ED]at h;exact h
theorem xQ{l l':List Str}{p:Str->Bool}(h:∀ z,z∈l'↔z∈l/\p z=true):aN l'=(aN l).filter p:=by
 have h1:=ui l';have h2:=(ui l).filter p;have e:∀ z,z∈aN l'↔z∈(aN l).filter p:=fun z=>by
  rw[jX,Eb,jX];exact h z
 have L:=cI false;have k1:∀ k∈(aN l').map (Sum.inr:Str->Ky),isI k=false:=fun k hk=>fh _ k hk
 have nd1:((aN l').map (Sum.inr:Str->Ky)).Nodup:=jc L k1 (ED.mpr h1);have k2:∀ k∈((aN l).filter p).map (Sum.inr:Str->Ky),isI k=false:=fun k hk=>fh _ k hk
 have nd2:(((aN l).filter p).map (Sum.inr:Str->Ky)).Nodup:=jc L k2 (ED.mpr h2);have pm:((aN l').map (Sum.inr:Str->Ky)).Perm (((aN l).filter p).map Sum.inr):=(Fl nd1 nd2).mpr fun k=>by
  constructor
  ·intro hk;obtain⟨z,hz,rfl⟩:=Dg.mp hk;exact DU ((e z).mp hz)
  ·intro hk;obtain⟨z,hz,rfl⟩:=Dg.mp hk;exact DU ((e z).mpr hz)
 have:=bS.same L k1 pm (ED.mpr h1) (ED.mpr h2)
 have inj:∀{a b:List Str},a.map (Sum.inr:Str->Ky)=b.map Sum.inr->a=b:=by
  intro a;induction a with
  | nil=>intro b hb;cases b with|nil=>rfl|cons _ _=>cases hb
  | cons x a ih=>
   intro b hb;cases b with
   | nil=>cases hb
   | cons y b=>
    rw[Dk,Dk]at hb;injection hb with h1 h2;rw[Sum.inr.inj h1,ih h2]
 exact inj this
theorem Af{sg:List (Str×Str)}{d:Str}(h:aE sg d=some z):z∈sg.map (·.2):=by
 unfold aE at h;rw[Dy]at h;obtain⟨p,hp,rfl⟩:=h;exact DU (List.mem_of_find?_eq_some hp)
theorem wu{α:Type}{next:α->List α}{x:α}(c:Rc next [] x):False:=by
 induction c with
 | base h=>cases h
 | step _ _ ih=>exact ih
theorem vq{n:Int}{st:List Int}{ms:List (Mv×Addr)}{sg:List (Str×Str)}(hmo:∀ y∈ms,bF n y.1)(x:List Int)(p:List Str)(es:List (List Int×List Str)) :
  bg cL es ((aN (sg.map (·.2))).map fun z=>(p++[z],ay (mOf n st ms sg fl) n (aw (mOf n st ms sg fl) x (mOf n st ms sg fl).mv z)))=pushS p es (cf (mOf n st ms sg fl) n x):=by
 rw[jq cL (fun z=>ay (mOf n st ms sg fl) n (aw (mOf n st ms sg fl) x (mOf n st ms sg fl).mv z))]
 unfold cf;have hm:∀ m∈(mOf n st ms sg fl).mv,bF n m:=fun m hm=>by
  obtain⟨y,hy,rfl⟩:=Dg.mp (dZ.mp hm);exact hmo y hy
 rw[xQ (l:=sg.map (·.2)) (l':=iI (mOf n st ms sg fl) x) (p:=fun z=>!cL (ay (mOf n st ms sg fl) n (aw (mOf n st ms sg fl) x (mOf n st ms sg fl).mv z))) fun z=>?_]
 rw[km];constructor
 ·intro h;rcases hl:aw (mOf n st ms sg fl) x (mOf n st ms sg fl).mv z with _|⟨r,l⟩
  ·exact absurd hl h
  ·have hr:r∈aw (mOf n st ms sg fl) x (mOf n st ms sg fl).mv z:=by rw[hl];exact Dm ..
   obtain⟨m,hm',h1,_,_⟩:=kL.mp hr;refine⟨Af h1,?_⟩
   have:r∈ay (mOf n st ms sg fl) n (aw (mOf n st ms sg fl) x (mOf n st ms sg fl).mv z):=(nY (rK hm) hm).mpr (.base hr)
   rw[<-hl];cases e:ay (mOf n st ms sg fl) n (aw (mOf n st ms sg fl) x (mOf n st ms sg fl).mv z) with
   | nil=>rw[e]at this;cases this
   | cons _ _=>rfl
 ·rintro⟨_,h⟩ e;rw[e]at h
  have:ay (mOf n st ms sg fl) n []=[]:=by
   cases e2:ay (mOf n st ms sg fl) n [] with
   | nil=>rfl
   | cons r l=>
    have hr:r∈ay (mOf n st ms sg fl) n []:=by rw[e2];exact Dm ..
    exact(wu ((nY (fun r (hr:r∈[])=>by cases hr) hm).mp hr)).elim
  rw[this]at h;cases h
set_option maxHeartbeats 8000000
noncomputable abbrev gx:Stmt:=top 31
structure PEn where
 p:List Str
 x:List Int
 a:Addr
 sl:Addr
 hl:Addr
noncomputable def pxE (e:PEn):List Str×List Int:=(e.p,e.x)
structure PAt (H:Hp)(lf la:Addr)(e:PEn):Prop where
 a:H e.a=some (.lst [.ref e.sl,.ref e.hl])
 s:H e.sl=some (.lst (e.p.map V.str))
 h:H e.hl=some (.lst (e.x.map V.int))
 na:e.a≠lf/\e.a≠la
 ns:e.sl≠lf/\e.sl≠la
 nh:e.hl≠lf/\e.hl≠la
theorem PAt.ext{la:Addr}{e:PEn}(p:PAt H lf la e)(x:Ext H H'):PAt H' lf la e:=⟨x.up p.a,x.up p.s,x.up p.h,p.na,p.ns,p.nh⟩
theorem PAt.mI{la:Addr}{e:PEn}(p:PAt H lf la e)(b:But lf H H'):PAt H' lf la e:=⟨b.up p.na.1 p.a,b.up p.ns.1 p.s,b.up p.nh.1 p.h,p.na,p.ns,p.nh⟩
theorem PAt.kj{la:Addr}{e:PEn}(p:PAt H lf la e)(b:But la H H'):PAt H' lf la e:=⟨b.up p.na.2 p.a,b.up p.ns.2 p.s,b.up p.nh.2 p.h,p.na,p.ns,p.nh⟩
noncomputable def FAt (H:Hp)(lf la:Addr)(f:List Int×Addr):Prop:=H f.2=some (.lst (f.1.map V.int))/\f.2≠lf/\f.2≠la
structure DH (H0 H:Hp)(ls lf l la:Addr)(S:List Str)(R Ah:List PEn)(F:List (List Int×Addr)):Prop where
 ext:Ext H0 H
 fn:H0 lf=none
 an:H0 la=none
 nfa:lf≠la
 hs:H ls=some (.lst (S.map V.str))
 nsf:ls≠lf/\ls≠la
 hr:H l=some (.lst (R.map fun e=>V.ref e.a))
 nrf:l≠lf/\l≠la
 hf:H lf=some (.lst (F.map fun f=>V.ref f.2))
 ha:H la=some (.lst (Ah.map fun e=>V.ref e.a))
 pr:∀ e∈R,PAt H lf la e
 pa:∀ e∈Ah,PAt H lf la e
 pf:∀ f∈F,FAt H lf la f
section
variable {H0 H H':Hp}{ls lf l la:Addr}{S:List Str}{R Ah:List PEn}{F:List (List Int×Addr)}
theorem DH.up(d:DH H0 H ls lf l la S R Ah F)(x:Ext H H'):DH H0 H' ls lf l la S R Ah F:=
 ⟨d.ext.trans x,d.fn,d.an,d.nfa,x.up d.hs,d.nsf,x.up d.hr,d.nrf,x.up d.hf,x.up d.ha,fun e he=>(d.pr e he).ext x,fun e he=>(d.pa e he).ext x,fun f hf=>⟨x.up (d.pf f hf).1,(d.pf f hf).2⟩⟩
theorem DH.found(d:DH H0 H ls lf l la S R Ah F){f:List Int×Addr}(b:But lf H H')(h:H' lf=some (.lst ((F++[f]).map fun f=>V.ref f.2)))(hf:FAt H lf la f):DH H0 H' ls lf l la S R Ah (F++[f]):=by
 refine⟨fun c u hc=>b.up (fun z=>by rw[z,d.fn]at hc;cases hc) (d.ext.up hc),d.fn,d.an,d.nfa,b.up d.nsf.1 d.hs,d.nsf,b.up d.nrf.1 d.hr,d.nrf,h,b.up d.nfa.symm d.ha,fun e he=>(d.pr e he).mI b,fun e he=>(d.pa e he).mI b,fun g hg=>?_⟩
 rcases Dp.mp hg with hg|hg
 ·exact⟨b.up (d.pf g hg).2.1 (d.pf g hg).1,(d.pf g hg).2⟩
 ·rw[Dj]at hg;subst hg;exact⟨b.up hf.2.1 hf.1,hf.2⟩
theorem DH.ahead(d:DH H0 H ls lf l la S R Ah F){e:PEn}(b:But la H H')(h:H' la=some (.lst ((Ah++[e]).map fun e=>V.ref e.a)))(he:PAt H lf la e):DH H0 H' ls lf l la S R (Ah++[e]) F:=by
 refine⟨fun c u hc=>b.up (fun z=>by rw[z,d.an]at hc;cases hc) (d.ext.up hc),d.fn,d.an,d.nfa,b.up d.nsf.2 d.hs,d.nsf,b.up d.nrf.2 d.hr,d.nrf,b.up d.nfa d.hf,h,fun e he=>(d.pr e he).kj b,fun g hg=>?_,fun g hg=>⟨b.up (d.pf g hg).2.2 (d.pf g hg).1,(d.pf g hg).2⟩⟩
 rcases Dp.mp hg with hg|hg
 ·exact(d.pa g hg).kj b
 ·rw[Dj]at hg;subst hg;exact he.kj b
end
structure DW (H0 H:Hp)(ls lf l:Addr)(S:List Str)(R:List PEn)(F:List (List Int×Addr)):Prop where
 ext:Ext H0 H
 fn:H0 lf=none
 hs:H ls=some (.lst (S.map V.str))
 nsf:ls≠lf
 hr:H l=some (.lst (R.map fun e=>V.ref e.a))
 nrf:l≠lf
 hf:H lf=some (.lst (F.map fun f=>V.ref f.2))
 pr:∀ e∈R,PAt H lf lf e
 pf:∀ f∈F,FAt H lf lf f
theorem DW.up{H0:Hp}{ls:Addr}{S:List Str}{R:List PEn}{F:List (List Int×Addr)}(d:DW H0 H ls lf l S R F)(x:Ext H H'):DW H0 H' ls lf l S R F:=
 ⟨d.ext.trans x,d.fn,x.up d.hs,d.nsf,x.up d.hr,d.nrf,x.up d.hf,fun e he=>(d.pr e he).ext x,fun f hf=>⟨x.up (d.pf f hf).1,(d.pf f hf).2⟩⟩
theorem DW.toH{H0:Hp}{ls la:Addr}{S:List Str}{R:List PEn}{F:List (List Int×Addr)}(d:DW H0 H ls lf l S R F)(hn:H la=none)(h:H' la=some (.lst []))(x:Ext H H'):DH H0 H' ls lf l la S R [] F:=by
 have ne:∀{b:Addr} {u:HO},H b=some u->b≠la:=fun hb=>aB hb hn
 refine⟨d.ext.trans x,d.fn,d.ext.free hn,ne d.hf,x.up d.hs,⟨d.nsf,ne d.hs⟩,x.up d.hr,⟨d.nrf,ne d.hr⟩,x.up d.hf,h,fun e he=>?_,(fun e he=>nomatch he),fun f hf=>?_⟩
 ·have p:=d.pr e he;exact⟨x.up p.a,x.up p.s,x.up p.h,⟨p.na.1,ne p.a⟩,⟨p.ns.1,ne p.s⟩,⟨p.nh.1,ne p.h⟩⟩
 ·have p:=d.pf f hf;exact⟨x.up p.1,p.2.1,ne p.1⟩
theorem DH.toW{H0:Hp}{ls la:Addr}{S:List Str}{R Ah:List PEn}{F:List (List Int×Addr)}(d:DH H0 H ls lf l la S R Ah F):DW H0 H ls lf la S Ah F:=
 ⟨d.ext,d.fn,d.hs,d.nsf.1,d.ha,d.nfa.symm,d.hf,fun e he=>have p:=d.pa e he;⟨p.a,p.s,p.h,⟨p.na.1,p.na.1⟩,⟨p.ns.1,p.ns.1⟩,⟨p.nh.1,p.nh.1⟩⟩,fun f hf=>have p:=d.pf f hf;⟨p.1,p.2.1,p.2.1⟩⟩
noncomputable def enD (e:PEn):Dt:=.lst [flD (e.p.map V.str),flD (e.x.map V.int)]
theorem sV{K:PySem.W.Frag}:∀{R:List PEn},(∀ e∈R,PAt H lf lf e)->IsL K H (R.map enD) (R.map fun e=>V.ref e.a)
 | [],_=>by rw[EH];unfold SB.IsL;rfl
 | e::R,h=>by
  rw[Dk,Dk];unfold SB.IsL;refine⟨_,_,rfl,?_,sV fun e he=>h e (Dr _ he)⟩
  have p:=h e (Dm ..);unfold enD Is;refine⟨e.a,_,rfl,(show RdL H e.a _ from .inl p.a).sq,?_⟩
  unfold SB.IsL;refine⟨_,_,rfl,cj (.inl p.s) (oY _),?_⟩;unfold SB.IsL;refine⟨_,_,rfl,cj (.inl p.h) (cw _),?_⟩;unfold SB.IsL;rfl
theorem vP(e:PEn):dep (enD e)=2:=by
 unfold enD dep aZ;rw[dU];unfold aZ;rw[dU];unfold aZ;rfl
theorem nE:∀{ds:List Dt},(∀ d∈ds,dep d<=n)->aZ ds<=n
 | [],_=>by unfold aZ;exact DZ _
 | d::ds,h=>by
  unfold aZ;exact Nat.max_le.mpr ⟨h d (Dm ..),nE fun d hd=>h d (Dr _ hd)⟩
theorem oF{K:PySem.W.Frag}{la:Addr}:∀{F:List (List Int×Addr)},(∀ f∈F,FAt H lf la f)->IsL K H (F.map fun f=>flD (f.1.map V.int)) (F.map fun f=>V.ref f.2)
 | [],_=>by rw[EH];unfold SB.IsL;rfl
 | e::R,h=>by
  rw[Dk,Dk];unfold SB.IsL;exact⟨_,_,rfl,cj (.inl (h e (Dm ..)).1) (cw _),oF fun e he=>h e (Dr _ he)⟩
theorem oR:∀{a b:List Int},a.map V.int=b.map V.int->a=b
 | [],[],_=>rfl
 | [],_::_,h=>by cases h
 | _::_,[],h=>by cases h
 | x::a,y::b,h=>by
  rw[Dk,Dk]at h;injection h with h1 h2;injection h1 with h1;rw[h1,oR h2]
theorem rC(x:List Int):∀ F:List (List Int×Addr),(F.map fun f=>flD (f.1.map V.int)).any (fun e=>eqD e (flD (x.map V.int)))=decide (x∈F.map (·.1))
 | []=>rfl
 | f::F=>by
  rw[Dk,Fn,rC x F,Dk]
  by_cases h:x=f.1
  ·rw[h,cX rfl,Bool.true_or]
   exact(DB (Dm ..)).symm
  ·rw[dO (fun z=>h (oR (lT z)).symm),Bool.false_or]
   refine decide_eq_decide.mpr ⟨fun z=>Dr _ z,fun z=>?_⟩
   rcases DG.mp z with z|z
   ·exact absurd z h
   ·exact z
structure DP (M:az)(n:Int)(rooms:List Int)(W:List (List Str×List Int))(F:List (List Int))(es:List (List Int×List Str))(k:Nat):Prop where
 run:Run (cf M n) (dz M n) k es
 fk:F=(es.take k).map (·.1)
 eq:es=bg cL (es.take k) W
 no:∀ e∈es.take k,cF rooms e=false
 okF:∀ x∈F,okR n x
 okW:∀ w∈W,w.2.Sublist (UI n)
 okP:∀ w∈W,w.1.length<=F.length
 nd:F.Nodup
 bd:F.length+mis (subs (UI n)) F<=(subs (UI n)).length
theorem DP.skip{M:az}{n:Int}{w:List Str×List Int}{W:List (List Str×List Int)}{F:List (List Int)}{es:List (List Int×List Str)}{k:Nat}(d:DP M n rooms (w::W) F es k)(h:w.2=[]\/w.2∈F):DP M n rooms W F es k:=by
 refine⟨d.run,d.fk,?_,d.no,d.okF,fun w hw=>d.okW w (Dr _ hw),fun w hw=>d.okP w (Dr _ hw),d.nd,d.bd⟩
 have e:=d.eq;obtain⟨p,x⟩:=w
 have:bg cL (es.take k) ((p,x)::W)=bg cL (es.take k) W:=by
  rw[k5,if_pos];rcases h with h|h
  ·have h:x=[]:=h;rw[h];exact .inl rfl
  ·rw[<-d.fk];exact .inr h
 rw[this]at e;exact e
theorem DP.new{M:az}{n:Int}{w:List Str×List Int}{W:List (List Str×List Int)}{F:List (List Int)}{es:List (List Int×List Str)}{k:Nat}(d:DP M n rooms (w::W) F es k)(h1:w.2≠[])(h2:w.2∉F):es[k]? =some (w.2,w.1)/\es.take (k+1)=es.take k++[(w.2,w.1)]/\es=bg cL (es.take (k+1)) W:=by
 have e:=d.eq;obtain⟨p,x⟩:=w;have e1:bg cL (es.take k) ((p,x)::W)=bg cL (es.take k++[(x,p)]) W:=by
  rw[k5,if_neg];rintro(h|h)
  ·apply h1;show x=[]
   cases x with
   | nil=>rfl
   | cons _ _=>cases h
  ·rw[<-d.fk]at h;exact h2 h
 rw[e1]at e;obtain⟨m,hm⟩:=mT cL (es.take k++[(x,p)]) W;have hk:=d.run.bd;have tl:(es.take k).length=k:=by rw[Et];lia
 have e2:es=es.take k++((x,p)::m):=by
  have:=e.trans hm
  rw[Ed]at this;exact this
 have e3:es[k]? =some (x,p):=by
  rw[e2,El (by lia),tl,Nat.sub_self]
  rfl
 have e4:es.take (k+1)=es.take k++[(x,p)]:=by
  rw[EI,e3];rfl
 exact⟨e3,e4,by rw[e4];exact e⟩
theorem DP.step{n:Int}{st:List Int}{ms:List (Mv×Addr)}{sg:List (Str×Str)}{w:List Str×List Int}{W:List (List Str×List Int)}{F:List (List Int)}{es:List (List Int×List Str)}{k:Nat}(hmo:∀ y∈ms,bF n y.1)(d:DP (mOf n st ms sg fl) n rooms (w::W) F es k)(h1:w.2≠[])(h2:w.2∉F)(h3:cF rooms (w.2,w.1)=false) :
  ∃ es',DP (mOf n st ms sg fl) n rooms (W++(aN (sg.map (·.2))).map fun z=>(w.1++[z],ay (mOf n st ms sg fl) n (aw (mOf n st ms sg fl) w.2 (mOf n st ms sg fl).mv z))) (F++[w.2]) es' (k+1):=by
 obtain⟨e3,e4,e5⟩:=d.new h1 h2;have okw:okR n w.2:=⟨h1,d.okW w (Dm ..)⟩;obtain⟨m,hm⟩:=il w.1 es (cf (mOf n st ms sg fl) n w.2);have hk:k<es.length:=(DI.mp e3).1;have tk:(pushS w.1 es (cf (mOf n st ms sg fl) n w.2)).take (k+1)=es.take (k+1):=by
  rw[hm,Fc (by lia)]
 refine⟨pushS w.1 es (cf (mOf n st ms sg fl) n w.2),.next d.run e3,?_,?_,?_,?_,?_,?_,?_,?_⟩
 ·rw[tk,e4,Dn,<-d.fk];rfl
 ·rw[tk,nZ,<-e5,vq hmo]
 ·rw[tk,e4];intro e he;rcases Dp.mp he with he|he
  ·exact d.no e he
  ·rw[Dj.mp he];exact h3
 ·intro x hx;rcases Dp.mp hx with hx|hx
  ·exact d.okF x hx
  ·rw[Dj.mp hx];exact okw
 ·intro y hy;rcases Dp.mp hy with hy|hy
  ·exact d.okW y (Dr _ hy)
  ·obtain⟨z,_,rfl⟩:=Dg.mp hy;exact jj _ _ _
 ·intro y hy;rw[Dl,D7];rcases Dp.mp hy with hy|hy
  ·have:=d.okP y (Dr _ hy)
   lia
  ·obtain⟨z,_,rfl⟩:=Dg.mp hy
   have:=d.okP w (Dm ..)
   show(w.1++[z]).length<=_
   rw[Dl,D7];lia
 ·exact List.nodup_append.mpr ⟨d.nd,Eu.mpr ⟨(fun z=>nomatch z),EK⟩,fun a ha b hb e=>by rw[Dj.mp hb]at e;exact h2 (e▸ha)⟩
 ·have:=dW h2 (subs (UI n))
  rw[if_pos (j5 okw.2)]at this
  have:=d.bd
  rw[Dl,D7];lia
noncomputable def pZ (rooms:List Int)(B:List (List Int×List Str))(H':Hp)(t:Addr):Prop:=
 (∃ e l,B.find? (cF rooms)=some e/\H' t=some (.tup [.str "given",.ref l])/\H' l=some (.lst (e.2.map V.str))) ∨
 (B.find? (cF rooms)=none/\∃ l qs,H' t=some (.tup [.str "kept",.ref l])/\H' l=some (.lst (rfs qs))/\(∀ q∈qs,H' q.2=some (.lst (q.1.map V.int)))/\(qs.map (·.1)).Perm (B.map (·.1))/\(qs.map (·.1)).Pairwise (fun x y=>bp x y=true))
theorem DP.given{M:az}{n:Int}{w:List Str×List Int}{W:List (List Str×List Int)}{F:List (List Int)}{es B:List (List Int×List Str)}{k:Nat}(d:DP M n rooms (w::W) F es k)(h1:w.2≠[])(h2:w.2∉F)(h3:cF rooms (w.2,w.1)=true)(b:Run (cf M n) (dz M n) B.length B):B.find? (cF rooms)=some (w.2,w.1):=by
 obtain⟨e3,_,_⟩:=d.new h1 h2;obtain⟨m,hm⟩:=d.run.pre b (d.run.le b);have hk:k<es.length:=(DI.mp e3).1;refine oA (i:=k) (by rw[hm,Ep hk];exact e3) h3 fun y hy=>?_
 rw[hm,Fc (by lia)]at hy
 exact d.no y hy
theorem DP.kept{M:az}{n:Int}{F:List (List Int)}{es B:List (List Int×List Str)}{k:Nat}(d:DP M n rooms [] F es k)(b:Run (cf M n) (dz M n) B.length B):B.find? (cF rooms)=none/\F=B.map (·.1):=by
 have e:=d.eq;have e:es=es.take k:=e;have hk:=d.run.bd;have kl:k=es.length:=by
  have:=congrArg List.length e
  rw[Et]at this;lia
 have hB:B=es:=by
  obtain⟨m,hm⟩:=d.run.pre b (d.run.le b);have r2:=d.run;rw[kl]at r2
  have:=Run.le b r2
  have hl:=congrArg List.length hm;rw[Dl]at hl
  have:m=[]:=EC.mp (by lia)
  rw[hm,this,D9]
 refine⟨List.find?_eq_none.mpr fun y hy=>?_,?_⟩
 ·rw[hB,e]at hy;rw[d.no y hy];decide
 ·rw[d.fk,hB,<-e]
noncomputable def lZ:Sp:=fun vs H Q _=>∃(q c s m g f:Addr)(n:Int)(st:List Int)(ms:List (Mv×Addr))(sg:List (Str×Str))(fl:List Str)(rooms:List Int),vs=[.ref q,.ref c]/\dE H q s m g f n st ms sg fl/\RdL H c (rooms.map V.int)/\rooms.length<=100/\n<=8/\st.length<=100/\(∀ r∈st,okI n r)/\(∀ y∈ms,bF n y.1)/\ms.length<=24/\sg.length<=5 ∧
 ∀ t H',H t=none->Ext H H'->(∀ B,Run (cf (mOf n st ms sg fl) n) (dz (mOf n st ms sg fl) n) B.length B->pZ rooms B H' t)->Q (.ref t) H'
noncomputable abbrev nDu:List Str:=["_law_machine_here","_law_rooms","_law_signs","_law_row","_law_found","_law_ahead","_law_sights","_law_here","_law_sign"]
theorem yk:ba nDu ["_law_machine_here","_law_rooms"] (aq gx):=⟨rfl,rfl,rfl,by decide +kernel,rfl,by decide +kernel,by decide +kernel⟩
section
variable {P:Program}{w:World}{K:PySem.W.Frag}{mg:Str->Option Value}{base:Heap}
theorem yK(F:Fun K "_law_due" "_law_due" gx f fd) (TL:fQ K mg) (hli:mg "list" = none) (hso:mg "sorted" = none) (hse:mg "set" = none) (D1:Known P w K mg base 1 "_law_unseen" ["_law_machine_here","_law_rooms"] iN) (D2:Known P w K mg base 2 "_law_next" ["_law_machine_here","_law_rooms","_law_sign"] ky):ar P w K mg base CX0 3 f fd ["_law_machine_here","_law_rooms"] lZ:=by
 refine F.ok yk (fun vs H Q E h=>?_) (fun cdv A outer s H vs Q E hr h=>?_)
 ·obtain⟨q,c,s,m,g,f,n,st,ms,sg,fl,rooms,rfl,_⟩:=h;rfl
 ·obtain⟨q,c,s,m,g,f,n,st,ms,sg,fl,rooms,rfl,la,hc,hrl,hn,hsl,hst,hmo,hml,hsg,k⟩:=h;have hu:=hr.units;have hr1:aA 1 _:=hr.mono (by decide)
  refine⟨_,ae (av nDu 2 (mF rfl (uX rfl (bD cz (q_v 0) af (fun _ _=>rfl)) hli) hso hse))
   (ae (av nDu 3 (bf (aa (bf (aa (bf ab) (aa (aH D1 hr1 (aa (q_v 0) (aa (bD cz (q_v 0) af (fun _ _=>rfl)) ab))) ab))) ab)))
   (ae (av nDu 4 (bf ab))
   (ae (gA PassesOwn.never (aR (fw hu) (q_v 3) (bf ab))
    (ae (av nDu 5 (bf ab))
    (ae (bC PassesOwn.never rfl (bu (q_v 3)) (pC rfl (bj (q_g nDu 6) (bj (q_g nDu 7) dN)))
     (ah (cc (pw_and (aR (fw hu) (q_v 7) (bf ab)) (pw_and1 (aR (yR hu) (q_v 7) (q_v 4)))).pt
      (ae (bw (cT (q_v 4) (q_v 7)))
      (ae (cc (aR du (q_b ef TL.len (aa (iZ nDu (aq gx) ["_law_room","_law_rooms"] [none,some 1] rfl (bu (q_v 7)) (fun _ _ _ _=>q_g ["_law_room","_law_rooms"] 0) (fun _ _ _ _=>aR sU (q_v 0) (q_v 1)) (fun _ _ _ _=>q_v 0)) ab)) af)
       (ah (bz (dj (aa eC (aa (q_v 6) ab))))) bY)
      (ah (bC PassesOwn.never rfl (bu (q_v 2)) (q_g nDu 8)
       (ah (bw (cT (q_v 5) (bf (aa (ag bW (q_v 6) (bf (aa (q_v 8) ab))) (aa (aH D2 hr (aa (q_v 0) (aa (q_v 7) (aa (q_v 8) ab)))) ab)))))))))) bY)))
    (ah (av nDu 3 (q_v 5))))))
   (ah (bz (dj (aa eC (aa (q_b (CT hu) hso (aa (q_v 4) ab)) ab)))))))),?_⟩
  have z1:∀{n:Nat},n<=10000->n<=sizeLine:=fun h=>by rw[DV];lia
  have z0:∀{n:Nat},n<=10000->n<sizeLine:=fun h=>by rw[DV];lia
  have hUl:(subs (UI n)).length<=1000:=jt hn;refine⟨_,.inl la.q,_,rfl,_,la.g,fun lv H1 hlv h1 e1=>?_⟩
  refine⟨(sg.map (·.2)).map Sum.inr,.inl (by rw[h1];unfold sgV;rw[Du,Du,Du];rfl),false,⟨fun k hk=>fh _ k hk,by rw[Dd,Dd];lia⟩,fun ls H2 hls h2 e2=>?_⟩
  rw[lS]at h2;have Sl:(aN (sg.map (·.2))).length<=5:=by
   have:=ri (sg.map (·.2))
   rw[Dd]at this;lia
  generalize hS:aN (sg.map (·.2))=S at h2 Sl;refine⟨z1 (by show 0<=10000;decide),fun l1 H3 hl1 h3 e3=>?_⟩
  have e13:=e1.trans (e2.trans e3);have la3:=la.ext e13;refine⟨_,.inl la3.q,_,rfl,q,s,s,m,g,f,n,st,ms,sg,fl,st,rfl,la3,.inl la3.s,hsl,hn,hst,hmo,hml,fun l2 H4 hl2 h4 e4=>?_⟩
  refine⟨z1 (by show 2<=10000;decide),fun l3 H5 hl3 h5 e5=>?_⟩
  refine⟨z1 (by show 1<=10000;decide),fun l H6 hl h6 e6=>?_⟩
  refine⟨z1 (by show 0<=10000;decide),fun lf H7 hlf h7 e7=>?_⟩
  have x7:Ext H H7:=e13.trans (e4.trans (e5.trans (e6.trans e7)));have x6:Ext H H6:=e13.trans (e4.trans (e5.trans e6));have hlfn:H lf=none:=x6.free hlf;have nf:∀{b:Addr} {u:HO},H6 b=some u->b≠lf:=fun hb=>aB hb hlf
  have up46:Ext H4 H6:=e5.trans e6;have E0:PAt H7 lf lf ⟨[],ay (mOf n st ms sg fl) n st,l3,l1,l2⟩:=
   ⟨e7.up (e6.up h5),e7.up (up46.up (e4.up h3)),e7.up (up46.up h4),⟨nf (e6.up h5),nf (e6.up h5)⟩,⟨nf (up46.up (e4.up h3)),nf (up46.up (e4.up h3))⟩,⟨nf (up46.up h4),nf (up46.up h4)⟩⟩
  have hs6:H6 ls=some (.lst (S.map V.str)):=up46.up (e4.up (e3.up h2));have W0:DW H H7 ls lf l S [⟨[],ay (mOf n st ms sg fl) n st,l3,l1,l2⟩] []:=
   ⟨x7,hlfn,e7.up hs6,nf hs6,e7.up h6,nf h6,h7,fun e he=>by rw[Dj.mp he];exact E0,fun f hf=>nomatch hf⟩
  have hms:∀ m∈(mOf n st ms sg fl).mv,bF n m:=fun m hm=>by
   obtain⟨y,hy,rfl⟩:=Dg.mp (dZ.mp hm);exact hmo y hy
  have P0:DP (mOf n st ms sg fl) n rooms ([(⟨[],ay (mOf n st ms sg fl) n st,l3,l1,l2⟩:PEn)].map pxE) [] (bM [] (dz (mOf n st ms sg fl) n)) 0:=by
   have ec:ay (mOf n st ms sg fl) n (mOf n st ms sg fl).st=ay (mOf n st ms sg fl) n st:=oV fun r=>rZ
   refine⟨.zero,rfl,?_,(fun e he=>by simp at he),(fun x hx=>nomatch hx),fun w hw=>?_,fun w hw=>?_,EK,?_⟩
   ·rw[List.take_zero];show _=bg cL [] [([],ay (mOf n st ms sg fl) n st)]
    rw[k5];unfold dz;rw[ec];cases hc0:ay (mOf n st ms sg fl) n st with
    | nil=>rw[if_pos rfl,if_pos (.inl rfl)];rfl
    | cons a b=>rw[if_neg (by simp),if_neg (by simp [cL])];rfl
   ·rw[Dk,EH,Dj]at hw;rw[hw];exact jj _ _ _
   ·rw[Dk,EH,Dj]at hw;rw[hw];exact DZ _
   ·have:mis (subs (UI n)) []<=(subs (UI n)).length:=Fb
    show 0+_<=_
    lia
  refine⟨(fun μ σ H8=>∃(l:Addr) (v5 v6 v7 v8:Option V) (R:List PEn) (F:List (List Int×Addr)) (es:List (List Int×List Str)) (kk:Nat),σ=[some (.ref q),some (.ref c),some (.ref ls),some (.ref l),some (.ref lf),v5,v6,v7,v8]/\DW H H8 ls lf l S R F/\DP (mOf n st ms sg fl) n rooms (R.map pxE) (F.map (·.1)) es kk/\μ=2*mis (subs (UI n)) (F.map (·.1))+(if R=[] then 0 else 1)),
   ⟨_,l,_,_,_,_,_,[],_,0,rfl,W0,P0,rfl⟩,?_⟩
  rintro μ σ H8 ⟨l,v5,v6,v7,v8,R,F,es,kk,rfl,dw,dp,rfl⟩;refine⟨z1 (by show 0<=10000;decide),fun a0 H9 ha0 h9 e9=>?_⟩
  have dw9:=dw.up e9;have dR:dep (Dt.lst (R.map enD))<=40:=by
   unfold dep
   have:=nE (n:=2) (ds:=R.map enD) fun d hd=>by
    obtain⟨e,_,rfl⟩:=Dg.mp hd;rw[vP];exact Di _
   lia
  refine⟨.lst (R.map enD),flD [],?_,cj (.inl h9) rfl,?_,rfl,dR,?_⟩
  ·unfold Is;exact⟨l,_,rfl,(show RdL H9 l _ from .inl dw9.hr).sq,sV dw9.pr⟩
  ·unfold flD Alike;rw[EH];unfold bB;cases R.map enD <;> trivial
  refine aV (fun hA=>?_) (fun hA=>?_)
  ·have hA:(!eqD (.lst (R.map enD)) (flD []))=true:=hA;have hne:R≠[]:=fun z=>by
    subst z;rw[show eqD (.lst (List.map enD [])) (flD [])=true from cX rfl]at hA
    cases hA
   rw[if_neg hne];refine⟨_,fun _ _ z=>z,z1 (by show 0<=10000;decide),fun la' H10 hla h10 e10=>?_⟩
   have dh0:=dw9.toH hla h10 e10;refine⟨_,.inl dh0.hr,bZ (xs:=R.map fun e=>V.ref e.a) (fun i σ H11=>∃(v6 v7 v8:Option V) (Ah:List PEn) (F':List (List Int×Addr)) (es':List (List Int×List Str)) (k':Nat),σ=[some (.ref q),some (.ref c),some (.ref ls),some (.ref l),some (.ref lf),some (.ref la'),v6,v7,v8]/\DH H H11 ls lf l la' S R Ah F' ∧
     DP (mOf n st ms sg fl) n rooms ((R.drop i++Ah).map pxE) (F'.map (·.1)) es' k'/\Ah.length<=5*F'.length/\mis (subs (UI n)) (F'.map (·.1))<=mis (subs (UI n)) (F.map (·.1))/\(Ah=[]\/mis (subs (UI n)) (F'.map (·.1))+1<=mis (subs (UI n)) (F.map (·.1))))
    ⟨_,_,_,[],F,es,kk,rfl,dh0,by rw[List.drop_zero,D9];exact dp,DZ _,Di _,.inl rfl⟩ (fun i σ H11 _ hp=>?_) ?_ ?_⟩
   ·obtain⟨_,_,_,_,_,_,_,_,dh,_⟩:=hp;exact .inl dh.hr
   ·rintro i x σ H11 hx ⟨w6,w7,w8,Ah,F',es',k',rfl,dh,dp',al,ms1,ms2⟩;rw[Dq,Dy]at hx;obtain⟨e,he,rfl⟩:=hx;have hem:=Dw he;have pe:=dh.pr e hem;have hdr:(R.drop i++Ah).map pxE=pxE e::(R.drop (i+1)++Ah).map pxE:=by
     obtain⟨hil,hie⟩:=DI.mp he;rw[Er hil,hie];rfl
    rw[hdr]at dp';have skip:∀{H12:Hp},DH H H12 ls lf l la' S R Ah F'->(e.x=[]\/e.x∈F'.map (·.1))->∃(v6 v7 v8:Option V) (Ah:List PEn) (F'':List (List Int×Addr)) (es':List (List Int×List Str)) (k':Nat),[some (V.ref q),some (.ref c),some (.ref ls),some (.ref l),some (.ref lf),some (.ref la'),some (.ref e.sl),some (.ref e.hl),w8]=[some (.ref q),some (.ref c),some (.ref ls),some (.ref l),some (.ref lf),some (.ref la'),v6,v7,v8]/\DH H H12 ls lf l la' S R Ah F'' ∧
      DP (mOf n st ms sg fl) n rooms ((R.drop (i+1)++Ah).map pxE) (F''.map (·.1)) es' k'/\Ah.length<=5*F''.length/\mis (subs (UI n)) (F''.map (·.1))<=mis (subs (UI n)) (F.map (·.1))/\(Ah=[]\/mis (subs (UI n)) (F''.map (·.1))+1<=mis (subs (UI n)) (F.map (·.1))):=fun dh' hsk=>
     ⟨_,_,_,Ah,F',es',k',rfl,dh',dp'.skip hsk,al,ms1,ms2⟩
    refine⟨_,.inl pe.a,rfl,?_⟩;refine⟨z1 (by show 0<=10000;decide),fun a1 H12 ha1 h12 e12=>?_⟩
    have dh12:=dh.up e12;have pe12:=pe.ext e12;refine⟨flD (e.x.map V.int),flD [],cj (.inl pe12.h) (cw _),cj (.inl h12) rfl,eJ (fun x _ y hy=>nomatch hy),rfl,by rw[dU];decide,?_⟩
    refine aV (fun hB=>?_) (fun hB=>?_)
    rotate_left
    ·have hB:¬ (!eqD (flD (e.x.map V.int)) (flD []))=true:=hB;have hx:e.x=[]:=by
      cases hx:e.x with
      | nil=>rfl
      | cons a r=>rw[hx]at hB;exact absurd (by rw[dO (fun z=>by have:=lT z;simp at this)];rfl) hB
     show if false=true then _ else _
     rw[if_neg (by decide)]
     exact skip dh12 (.inl hx)
    have hB:(!eqD (flD (e.x.map V.int)) (flD []))=true:=hB;have hxn:e.x≠[]:=fun z=>by
     rw[z,show eqD (flD (List.map V.int [])) (flD [])=true from cX rfl]at hB
     cases hB
    refine⟨flD (e.x.map V.int),lf,_,F'.map fun f=>flD (f.1.map V.int),rfl,(show RdL H12 lf _ from .inl dh12.hf).sq,oF dh12.pf,cj (.inl pe12.h) (cw _),fun d hd=>?_,?_⟩
    ·obtain⟨f,_,rfl⟩:=Dg.mp hd;exact⟨eJ (nv _ _),by rw[dU];decide⟩
    show if (!(F'.map fun f=>flD (f.1.map V.int)).any (fun d=>eqD d (flD (e.x.map V.int))))=true then _ else _
    rw[rC]
    by_cases hC:e.x∈F'.map (·.1)
    ·rw[if_neg (by rw[DB hC];decide)]
     exact skip dh12 (.inr hC)
    rw[if_pos (by rw[DT hC];rfl)]
    have fl1:F'.length<=1000:=by
     have:=dp'.bd
     rw[Dd]at this;lia
    refine⟨_,.inl dh12.hf,_,dh12.hf,z0 (by rw[Dd];lia),fun H13 h13 b13=>?_⟩
    have dh13:=dh12.found (f:=(e.x,e.hl)) b13 (by rw[h13,Dn];rfl) ⟨pe12.h,pe12.nh⟩
    have pe13:=pe12.mI b13;have xl:e.x.length<=8:=by
     have:=(dp'.okW (pxE e) (Dm ..)).length_le
     have hU:(UI n).length<=8:=by unfold UI;rw[Dd,Ef];lia
     have:e.x.length<=(UI n).length:=this
     lia
    refine⟨_,.inl pe13.h,?_⟩;refine dX (zs:=e.x) (enc:=V.int) (fun r=>if (!decide (r∈rooms))=true then some (V.int r) else none) (fu (.inl pe13.h)) (z0 (by lia)) (fun j r H14 Kk hr' x14 kk'=>?_) ?_
    ·refine⟨cE rfl,_,x14.rd (dh13.ext.rd hc),⟨rfl,cw _⟩,?_⟩;have kk':=kk' H14 Ext.refl;show if (!inV (V.int r) (rooms.map V.int))=true then _ else _
     rw[en]
     by_cases hD:r∈rooms
     ·rw[if_neg (by rw[DB hD];decide)]at kk' ⊢
      exact kk'
     ·rw[if_pos (by rw[DT hD];rfl)]at kk' ⊢
      exact kk'
    intro lc H14 hlc h14 e14;rw[eK]at h14;have dh14:=dh13.up e14;have pe14:=pe13.ext e14;refine⟨_,.inl h14,?_⟩;have hlen:∀ l:List Int,(V.int (((l.filter fun r=>!decide (r∈rooms)).map fun r=>r).map V.int).length=V.int 0)↔(l.all fun r=>decide (r∈rooms))=true:=fun l=>by
     rw[Dd,Dd];constructor
     ·intro h;injection h with h;have h:(l.filter fun r=>!decide (r∈rooms))=[]:=EC.mp (by lia)
      rw[List.filter_eq_nil_iff]at h;refine EW.mpr fun r hr=>?_
      have:=h r hr
      simpa using this
     ·intro h
      have:(l.filter fun r=>!decide (r∈rooms))=[]:=List.filter_eq_nil_iff.mpr fun r hr=>by
       have:=EW.mp h r hr
       rw[this];decide
      rw[this];rfl
    refine⟨rfl,aV (fun hD=>?_) (fun hD=>?_)⟩
    ·have hD:=(hlen e.x).mp (DX hD);refine⟨z1 (by show 2<=10000;decide),fun t H15 ht h15 e15=>?_⟩
     refine k t H15 (dh14.ext.free ht) (dh14.ext.trans e15) fun B hBr=>?_
     exact .inl ⟨(e.x,e.p),e.sl,dp'.given hxn hC hD hBr,h15,e15.up pe14.s⟩
    ·have hD:cF rooms (e.x,e.p)=false:=Bool.eq_false_iff.mpr fun z=>hD (DB ((hlen e.x).mpr z))
     obtain⟨es2,dp2⟩:=dp'.step hmo hxn hC hD;rw[hS]at dp2;refine⟨_,.inl dh14.hs,bZ (xs:=S.map V.str) (fun j σ H15=>∃(v8:Option V) (nw:List PEn),σ=[some (.ref q),some (.ref c),some (.ref ls),some (.ref l),some (.ref lf),some (.ref la'),some (.ref e.sl),some (.ref e.hl),v8]/\DH H H15 ls lf l la' S R (Ah++nw) (F'++[(e.x,e.hl)]) ∧
       nw.map pxE=(S.take j).map (fun z=>(e.p++[z],ay (mOf n st ms sg fl) n (aw (mOf n st ms sg fl) e.x (mOf n st ms sg fl).mv z)))/\e.p.length<=1000)
      ⟨_,[],rfl,by rw[D9];exact dh14,by rw[List.take_zero];rfl,?_⟩ (fun j σ H15 _ hp=>?_) ?_ ?_⟩
     ·have:=dp'.okP (pxE e) (Dm ..)
      rw[Dd]at this;exact Ea this fl1
     ·obtain⟨_,_,_,dh,_⟩:=hp;exact .inl dh.hs
     ·rintro j x σ H15 hx ⟨u8,nw,rfl,dh15,hnw,pl⟩;rw[Dq,Dy]at hx;obtain⟨z,hz,rfl⟩:=hx;have pe15:=dh15.pr e hem;refine⟨_,.inl dh15.ha,z1 (by show 1<=10000;decide),fun t1 H16 ht1 h16 e16=>?_⟩
      refine⟨_,e16.up pe15.s,_,h16,z1 (by rw[Dd];show e.p.length+1<=10000;lia),fun t2 H17 ht2 h17 e17=>?_⟩
      have e57:=e16.trans e17;have dh17:=dh15.up e57;refine⟨q,e.hl,s,m,g,f,n,st,ms,sg,fl,e.x,z,rfl,la.ext dh17.ext,.inl (e57.up pe15.h),hn,hmo,hml,fun t3 H18 ht3 h18 e18=>?_⟩
      refine⟨z1 (by show 2<=10000;decide),fun t4 H19 ht4 h19 e19=>?_⟩
      have dh18:=dh17.up e18;have dh19:=dh18.up e19;have nf2:∀{J:Hp} {b:Addr},DH H J ls lf l la' S R (Ah++nw) (F'++[(e.x,e.hl)])->J b=none->b≠lf/\b≠la':=fun d hb=>⟨(aB d.hf hb).symm,(aB d.ha hb).symm⟩
      have pn:PAt H19 lf la' ⟨e.p++[z],ay (mOf n st ms sg fl) n (aw (mOf n st ms sg fl) e.x (mOf n st ms sg fl).mv z),t4,t2,t3⟩:=
       ⟨h19,by rw[e19.up (e18.up h17),Dn];rfl,e19.up h18,nf2 dh18 ht4,nf2 (dh15.up e16) ht2,nf2 dh17 ht3⟩
      refine⟨_,dh19.ha,z0 ?_,fun H20 h20 b20=>?_⟩
      ·have hnl:=congrArg List.length hnw;rw[Dd,Dd,Et]at hnl;rw[Dd,Dl];lia
      refine⟨_,nw++[⟨e.p++[z],ay (mOf n st ms sg fl) n (aw (mOf n st ms sg fl) e.x (mOf n st ms sg fl).mv z),t4,t2,t3⟩],rfl,?_,?_,pl⟩
      ·have:=dh19.ahead b20 (by rw[h20];simp only[Dn];rfl) pn
       rw[Ed]at this;exact this
      ·rw[Dn,hnw,EI,hz,Dn];rfl
     ·rintro σ H15 ⟨u8,nw,rfl,dh15,hnw,pl⟩;rw[Dd,Fy]at hnw;have hnl:=congrArg List.length hnw;rw[Dd,Dd]at hnl;have mm:=dW hC (subs (UI n));rw[if_pos (show e.x∈subs (UI n) from j5 (dp'.okW (pxE e) (Dm ..)))]at mm
      refine⟨_,_,_,Ah++nw,F'++[(e.x,e.hl)],es2,k'+1,rfl,dh15,?_,?_,?_,.inr ?_⟩
      ·have e1:(R.drop (i+1)++(Ah++nw)).map pxE=(R.drop (i+1)++Ah).map pxE++nw.map pxE:=by rw[<-Ed,Dn]
       have e2:(F'++[(e.x,e.hl)]).map (·.1)=F'.map (·.1)++[e.x]:=by rw[Dn];rfl
       rw[e1,e2,hnw];exact dp2
      ·rw[Dl,Dl,D7];lia
      ·rw[Dn];show mis (subs (UI n)) (F'.map (·.1)++[e.x])<=_
       lia
      ·rw[Dn];show mis (subs (UI n)) (F'.map (·.1)++[e.x])+1<=_
       lia
   ·rintro σ H11 ⟨w6,w7,w8,Ah,F',es',k',rfl,dh,dp',al,ms1,ms2⟩;rw[Dd,List.drop_length,List.nil_append]at dp';refine⟨_,?_,la',_,_,_,_,Ah,F',es',k',rfl,dh.toW,dp',rfl⟩;cases Ah with
    | nil=>
     rw[if_pos rfl];lia
    | cons a b=>
     rw[if_neg (by simp)]
     rcases ms2 with h|h
     ·cases h
     ·lia
  ·have hA:¬ (!eqD (.lst (R.map enD)) (flD []))=true:=hA;have hnil:R=[]:=by
    cases R with
    | nil=>rfl
    | cons a r=>exact absurd (by rw[dO (fun z=>by unfold flD at z;rw[Dk]at z;simp at z)];rfl) hA
   subst hnil;refine⟨F,dw9.hf,fun f hf=>(dw9.pf f hf).1,dp.nd,fun out hout hup=>fun lo H10 hlo h10 e10=>?_⟩
   refine⟨z1 (by show 2<=10000;decide),fun t H11 ht h11 e11=>?_⟩
   refine k t H11 ((dw9.ext.trans e10).free ht) ((dw9.ext.trans e10).trans e11) fun B hBr=>?_
   obtain⟨b1,b2⟩:=dp.kept hBr;refine .inr ⟨b1,lo,out,h11,e11.up h10,fun o ho=>e11.up (e10.up (dw9.pf o (hout.mem_iff.mp ho)).1),?_,hup⟩
   rw[<-b2];exact hout.map (·.1)
end
end K
end
section
namespace SB
open PySem PySem.Spec PyProof.Rows L2
section
variable {X:Cx}{a:Expr}{ta:TA}{pos p p2 pos2:Pos}
noncomputable def yW (ta:TA):TE:=fun σ H Q=>ta σ H fun vs H1=>match vs with
 | [.int j]=>aU (-1000<=j/\j<=1000)/\New H1 (.lst ((cQ 0 (j-0).toNat).map V.int)) Q
 | _=>False
theorem xf(hh:X.A.handled=none)(ha:PA X [a] ta)(hml:X.mg "list" = none) (hm:X.mg "range" = none) (hgl:Gl X "list":=by rfl) (hg:Gl X "range":=by rfl) (hs:starEach [a] X.env=[(false,eval a X.env)]:=by rfl) (hs3:starEach [.Call (.Name "range" p2) [a] [] pos2] X.env=[(false,eval (.Call (.Name "range" p2) [a] [] pos2) X.env)]:=by rfl) :
  PE X (.Call (.Name "list" p) [.Call (.Name "range" p2) [a] [] pos2] [] pos) (yW ta):=by
 intro pins s σ H Q I h;refine Ff (fb I hgl hml (u:=.type "list") (by rfl) ?_ (by decide) (by decide))
 refine PyProof.Rows.callWith_type1 ?_ hs3 (by rfl)
 rw[hs3];show wpAny _ _ (spliced ((false,eval (.Call (.Name "range" p2) [a] [] pos2) X.env)::backTo pos [])) _ _ s
 refine Calls.spliced_cons ?_;refine Call_ (fb I hg hm boot_range (PyProof.Rows.callWith_type1 (thn (ha pos2 pins s σ H _ I h) fun us s1 ⟨vs,H1,I1,r1,q1⟩=>?_) hs (by rfl)))
 dsimp only at q1
 split at q1
 ·rename_i j
  cases r1 with
  | cons r' rr=>
    cases rr
    obtain⟨t',rfl⟩:=r';obtain⟨⟨b3,b4⟩,q⟩:=q1;refine call_range_1 ?_;refine Calls.spliced_nil ?_;have hn:Builtin.Range.rangeSize 0 j 1=(((j-0).toNat:Nat):Int):=by rw[rangeSize_one];split <;> lia
    refine call_list_range hh (IsRange.new ..) (small_one (by lia) (by lia) (by lia) (by lia)) hn (by lia) fun h' tk acc c hk hD hI=>?_
    have I2:=I1.kept (h':=s1.heap.push { cls:=.type "range",data:=.fields #[.int 0 s1.toks,.int j t',.int 1 (s1.toks+1)] }) (t':=s1.toks+1+1) fun b o e=>Dh _ e
    have hl:acc.toList.length=(j-0).toNat:=by rw[DJ];exact hI.1
    have rv:Vals ((cQ 0 (j-0).toNat).map V.int) acc.toList:=by
     rw[<-hl];exact sO _ _ fun k v hv=>hI.2 k v (by rw[<-hv,DK])
    have hz:((cQ 0 (j-0).toNat).map V.int).length<=sizeLine:=by rw[rv.length,hl,DV];lia
    refine⟨.ref _,_,I2.laid (t':=tk) hk (Di _) (show aj X.prog X.w _ h' _ (.lst ((cQ 0 (j-0).toNat).map V.int)) from⟨hz,acc.toList,c,rv,?_⟩),rfl,q.at (I2.hok.fresh (Di _))⟩
    rw[Array.toArray_toList];exact hD
 ·exact q1.elim
end
end SB
end
section
set_option maxHeartbeats 8000000
namespace K
open PySem PySem.Spec PyProof.Rows L2 SB
noncomputable abbrev fe:Stmt:=top 32
structure qH (mg:Str->Option Value):Prop where
 isi:mg "isinstance" = none
 list:mg "list" = none
 tuple:mg "tuple" = none
theorem wL(K:PySem.W.Frag):PySem.W.kitOne K (.type "tuple") (.type "tuple")=some true:=by kernel_rfl
theorem zN(K:PySem.W.Frag):PySem.W.kitOne K (.type "list") (.type "list")=some true:=by kernel_rfl
theorem Bz(K:PySem.W.Frag):PySem.W.kitOne K (.type "str") (.type "list")=some false:=by kernel_rfl
noncomputable def gvD (zs:List Str):Dt:=.tup [.sc (.str "given"),flD (zs.map V.str)]
noncomputable def kpD (xs:List (List Int)):Dt:=.tup [.sc (.str "kept"),.lst (xs.map fun x=>flD (x.map V.int))]
theorem rU{K:PySem.W.Frag}{t:Addr}{zs:List Str}(h1:H t=some (.tup [.str "given",.ref l])) (h2:H l=some (.lst (zs.map V.str))):Is K H (gvD zs) (.ref t):=by
 unfold gvD Is;refine⟨t,_,rfl,(show RdT H t _ from .inl h1).sq,?_⟩
 unfold SB.IsL;refine⟨_,_,rfl,by unfold Is;exact⟨rfl,rfl⟩,?_⟩
 unfold SB.IsL;refine⟨_,_,rfl,cj (.inl h2) (oY _),?_⟩;unfold SB.IsL;rfl
theorem tW{K:PySem.W.Frag}:∀{qs:List (List Int×Addr)},(∀ q∈qs,H q.2=some (.lst (q.1.map V.int)))->SB.IsL K H ((qs.map (·.1)).map fun x=>flD (x.map V.int)) (rfs qs)
 | [],_=>by unfold SB.IsL;rfl
 | q::qs,h=>by
  unfold SB.IsL rfs;exact⟨_,_,rfl,cj (.inl (h q (Dm ..))) (cw _),tW fun q hq=>h q (Dr _ hq)⟩
theorem o9{K:PySem.W.Frag}{t:Addr}{qs:List (List Int×Addr)}(h1:H t=some (.tup [.str "kept",.ref l])) (h2:H l=some (.lst (rfs qs))) (h3:∀ q∈qs,H q.2=some (.lst (q.1.map V.int))):Is K H (kpD (qs.map (·.1))) (.ref t):=by
 unfold kpD Is;refine⟨t,_,rfl,(show RdT H t _ from .inl h1).sq,?_⟩
 unfold SB.IsL;refine⟨_,_,rfl,by unfold Is;exact⟨rfl,rfl⟩,?_⟩
 unfold SB.IsL;refine⟨_,_,rfl,?_,?_⟩
 ·unfold Is;exact⟨l,_,rfl,(show RdL H l _ from .inl h2).sq,tW h3⟩
 ·unfold SB.IsL;rfl
theorem xn(zs:List Str):Alike (gvD zs) (gvD zs):=by
 unfold gvD Alike bB;refine⟨by unfold Alike;rfl,?_⟩
 unfold bB;exact⟨eJ (BQ _ _),by unfold bB;trivial⟩
theorem rP:∀ xs:List (List Int),bB (xs.map fun x=>flD (x.map V.int)) (xs.map fun x=>flD (x.map V.int))
 | []=>by unfold bB;trivial
 | x::xs=>by
  rw[Dk];unfold bB;exact⟨eJ (nv _ _),rP xs⟩
theorem yE(xs:List (List Int)):Alike (kpD xs) (kpD xs):=by
 unfold kpD Alike bB;refine⟨by unfold Alike;rfl,?_⟩
 unfold bB;exact⟨by unfold Alike;exact rP xs,by unfold bB;trivial⟩
theorem yQ(zs:List Str):dep (gvD zs)<=40:=by
 unfold gvD dep aZ;unfold dep aZ;rw[dU];unfold aZ;decide
theorem C0(xs:List (List Int)):dep (kpD xs)<=40:=by
 have:aZ (xs.map fun x=>flD (x.map V.int))<=1:=nE fun d hd=>by
  obtain⟨x,_,rfl⟩:=Dg.mp hd;rw[dU];exact Di _
 simp only[kpD,dep,aZ];lia
theorem rh{K:PySem.W.Frag}{B:List (List Int×List Str)}{Hs Hd J:Hp}{t td:Addr}(s:kF T T2 rooms B H Hs t)(d:pZ rooms B Hd td)(xs:∀ b u,Hs b=some u->(∀ ps,u≠.tbl ps)->J b=some u)(xd:∀ b u,Hd b=some u->(∀ ps,u≠.tbl ps)->J b=some u) :
  ∃ D,Is K J D (.ref t)/\Is K J D (.ref td)/\Alike D D/\mX D=true/\dep D<=40:=by
 obtain⟨_,_,_,_,s⟩:=s;have nL:∀{ys:List V},∀ ps,HO.lst ys≠.tbl ps:=fun ps z=>nomatch z
 have nT:∀{ys:List V},∀ ps,HO.tup ys≠.tbl ps:=fun ps z=>nomatch z
 rcases s with⟨e,l,h1,h2,_,h3⟩|⟨h1,l,qs,h2,_,h3,h4,h5,h6⟩
 ·rcases d with⟨e',l',g1,g2,g3⟩|⟨g1,_⟩
  ·rw[h1]at g1;cases g1
   exact⟨gvD e.2,rU (xs _ _ h2 nT) (xs _ _ h3 nL),rU (xd _ _ g2 nT) (xd _ _ g3 nL),xn _,rfl,yQ _⟩
  ·rw[h1]at g1;cases g1
 ·rcases d with⟨e',l',g1,g2,g3⟩|⟨g1,l',qs',g2,g3,g4,g5,g6⟩
  ·rw[h1]at g1;cases g1
  ·have e:qs.map (·.1)=qs'.map (·.1):=bS.same lG (fun _ _=>trivial) (h5.trans g5.symm) h6 g6
   refine⟨kpD (qs.map (·.1)),o9 (xs _ _ h2 nT) (xs _ _ h3 nL) (fun q hq=>xs _ _ (h4 q hq).1 nL),?_,yE _,rfl,C0 _⟩
   rw[e];exact o9 (xd _ _ g2 nT) (xd _ _ g3 nL) (fun q hq=>xd _ _ (g4 q hq) nL)
theorem dE.n6{q s m g:Addr}{n:Int}{st:List Int}{ms:List (Mv×Addr)}{sg:List (Str×Str)}(a:dE H q s m g f n st ms sg fl)(e:cP H H'):dE H' q s m g f n st ms sg fl:=
 ⟨e.up a.q (fun _ z=>nomatch z),e.up a.s (fun _ z=>nomatch z),e.up a.m (fun _ z=>nomatch z),fun y hy=>e.up (a.t y hy) (fun _ z=>nomatch z),e.up a.g (fun _ z=>nomatch z),e.up a.f (fun _ z=>nomatch z)⟩
theorem kR{α:Type} [DecidableEq α] (p:List Str)(N:Nat)(hp:p.length+1<=N):∀(es:List (α×List Str))(ss:List (Str×α)),N<=es.length->(∀(i:Nat)(e:α×List Str),es[i]? =some e->e.2.length<=i)->∀(i:Nat)(e:α×List Str),(pushS p es ss)[i]? =some e->e.2.length<=i
 | es,[],_,h=>h
 | es,(z,y)::ss,hN,h=>by
  unfold pushS
  split
  ·exact kR p N hp es ss hN h
  ·refine kR p N hp _ ss (by rw[Dl];lia) fun i e he=>?_
   by_cases hi:i<es.length
   ·rw[Ep hi]at he;exact h i e he
   ·rw[El (by lia)]at he
    have e0:i-es.length=0:=by
     have:=(DI.mp he).1
     simp at this;lia
    rw[e0]at he;have he:=DL he;subst he
    show(p++[z]).length<=i
    rw[Dl,D7];lia
theorem nz{α:Type} [DecidableEq α]:∀(es:List (α×List Str))(xs:List α),(∀ e∈es,e.2=[])->∀ e∈bM es xs,e.2=[]
 | es,[],h=>h
 | es,x::xs,h=>by
  unfold bM
  split
  ·exact nz es xs h
  ·refine nz _ xs fun e he=>?_
   rcases Dp.mp he with he|he
   ·exact h e he
   ·rw[Dj.mp he]
theorem Run.len{α:Type} [DecidableEq α] {steps:α->List (Str×α)}{st:List α}{k:Nat}{es:List (α×List Str)}(r:Run steps st k es):∀(i:Nat)(e:α×List Str),es[i]? =some e->e.2.length<=i:=by
 induction r with
 | zero=>
  intro i e he;rw[nz [] st (fun e he=>nomatch he) e (Dw he)]
  exact DZ _
 | @next k es x p r1 h1 ih=>
  have hp:=ih k _ h1;have hk:=(DI.mp h1).1;have hp:p.length<=k:=hp;exact kR p (k+1) (by lia) es _ (by lia) ih
theorem ifN{c:Bool}{A B:Prop}(h:c=false)(b:B):if c=true then A else B:=by
 rw[h,if_neg (by decide)]
 exact b
noncomputable def Elt (H0 H:Hp)(l:Addr)(N:Nat)(v:V):Prop:=(∃ z,v=.str z)\/∃ b ys,v=.ref b/\b≠l/\H0 b=none/\H b=some (.lst ys)/\ys.length<=N
theorem zS(l:List Mv):(eB l).length<=l.length:=by
 unfold eB;rw[Dd]
 have:=lA cD (l.map mk)
 rw[Dd]at this;exact this
theorem xM{n:Int}{k:Nat}(h:(k:Int)<=n):∀ r∈cQ 0 k,okI n r:=fun r hr=>by
 unfold cQ at hr;obtain⟨j,hj,rfl⟩:=Dg.mp hr
 have:=Eh.mp hj
 exact⟨by lia,by lia⟩
section
variable {P:Program}{w:World}{K:PySem.W.Frag}{mg:Str->Option Value}{base:Heap}
noncomputable def kA (T T2:Addr):Sp:=fun vs H Q _=>∃(a:Addr)(ns:List Int),vs=[.ref a]/\RdL H a (ns.map V.int)/\ns.length<=63/\TabAt (bJ aG) lwQ T H/\TabAt (dv aT) lvQ T2 H/\∀ H',Q (.bl true) H'
noncomputable abbrev bX:List Str:=["_law_script","_law_machine_here","_law_size","_law_starts","_law_moves","_law_shown","_law_faults","_law_asked","_law_cell_here","_law_some","_law_rooms","_law_due_here","_law_handed","_law_found","_law_one"]
theorem yJ:ba bX ["_law_script"] (aq fe):=⟨rfl,rfl,rfl,by decide +kernel,rfl,by decide +kernel,by decide +kernel⟩
theorem yr(F:Fun K "law" "law" fe f fd) (TC:dk K mg C) (TL:fQ K mg) (TJ:qH mg) (D1:Known P w K mg base 1 "_law_cell" ["_law_script","_law_k"] jl) (DM:Known P w K mg base 2 "_law_machine" ["_law_script","_law_most"] nG) (DC:jJ P w K mg base 4 "Machine" C gL (lH C)) (DD:Known P w K mg base 3 "_law_due" ["_law_machine_here","_law_rooms"] lZ) (DS:Known P w K mg base 7 "secret" ["machine","rooms"] (nP C T T2)):ar P w K mg base CX0 8 f fd ["_law_script"] (kA T T2):=by
 refine F.ok yJ (fun vs H Q E h=>?_) (fun cdv A outer s H vs Q E hr h=>?_)
 ·obtain⟨a,ns,rfl,_⟩:=h;rfl
 ·obtain⟨a,ns,rfl,ha,h63,tab,tab2,k⟩:=h;have hu:=hr.units;have hr1:aA 1 _:=hr.mono (by decide)
  have hr2:aA 2 _:=hr.mono (by decide)
  have hr3:aA 3 _:=hr.mono (by decide)
  have hr5:aA 5 _:=hr.mono (by decide)
  refine⟨_,ae (av bX 1 (aH DM hr2 (aa (q_v 0) (aa af ab))))
   (ae (xr (q_v 1) (pC rfl (bj (q_g bX 2) (bj (q_g bX 3) (bj (q_g bX 4) (bj (q_g bX 5) (bj (q_g bX 6) dN)))))))
   (ae (av bX 7 (AA DC hr5 (aa (q_v 2) (aa (q_v 3) (aa (q_v 4) (aa (q_v 5) (aa (q_v 6) ab)))))))
   (ae (av bX 8 (aH D1 hr1 (aa (q_v 0) (aa af ab))))
   (ae (iX bX 9 (aq fe) ["_law_room","_law_cell_here"] [none,some 8] rfl (eG (q_v 2) TL.range) (fun _ _ _ _=>q_g ["_law_room","_law_cell_here"] 0) (fun _ _ _ _=>aR du (ag bE (ag cn (q_v 1) (ag ie af (q_v 0))) af) af) (fun _ _ _ _=>q_v 0))
   (ae (av bX 9 (ag bW (ag bW (fz gj (q_v 9) (eF (ag bE (q_v 8) af)) gX) (fz gj (q_v 9) gX (eF (ag bE (q_v 8) af)))) (fz gj (q_v 9) gX (eF af))))
   (ae (bC PassesOwn.never rfl (bu (bf (aa (q_v 9) (aa (xf hr.hd (aa (q_v 2) ab) TJ.list TL.range) (aa (bf ab) ab))))) (q_g bX 10)
    (ae (av bX 11 (aH DD hr3 (aa (q_v 1) (aa (q_v 10) ab))))
    (ae (av bX 12 (q_t jS TJ.list (aa (q_v 10) ab)))
    (ae (av bX 13 (aH DS hr (aa (q_v 7) (aa (q_v 12) ab))))
    (ae (cc (pw_or (kE (ka (q_b sX TJ.isi (aa (q_v 13) (aa (qy TJ.tuple) ab))))) (pw_or (aR wJ (q_b uV TL.len (aa (q_v 13) ab)) af) (pw_or (aR (fw hu) (q_v 13) (q_v 11)) (pw_or1 (aR (fw hu) (q_v 12) (q_v 10)))))).pt (ah (bz kZ)) bY)
    (ae (bC PassesOwn.never rfl (bu (bD ek (q_v 13) af (fun _ _=>rfl))) (q_g bX 14) (ah (cc (ka (q_b sX TJ.isi (aa (q_v 14) (aa (qy TJ.list) ab)))) (ah (bw (cT (q_v 14) af))) bY)))
    (ae (bw (cT (bD ek (q_v 13) af (fun _ _=>rfl)) eC))
    (ah (cc (aR (fw hu) (aH DS hr (aa (q_v 7) (aa (q_v 12) ab))) (aH DD hr3 (aa (q_v 1) (aa (q_v 10) ab)))) (ah (bz kZ)) bY)))))))))
   (ah (bz kZ)))))))),?_⟩
  have z1:∀{n:Nat},n<=10000->n<=sizeLine:=fun h=>by rw[DV];lia
  have z0:∀{n:Nat},n<=10000->n<sizeLine:=fun h=>by rw[DV];lia
  refine⟨a,18,ns,rfl,ha,h63,by decide,fun p H1 n s m g f st ps sg fl la ok hpl hst9 hfl5 hsg5 e1=>?_⟩
  obtain⟨n1,n8⟩:=ok.size;refine⟨_,.inl la.q,rfl,?_⟩;intro x dx H2 hx hdx h2 e2;refine⟨x,dx,n,s,m,g,f,st,ps,sg,fl,rfl,h2,ok,⟨.inl (e2.up la.s),.inl (e2.up la.m),fun y hy=>e2.up (la.t y hy),e2.up la.g,.inl (e2.up la.f)⟩,by lia,by lia,fun H3 l1 l2 e l3 qs mi fresh hin frm=>⟨rfl,?_⟩⟩
  have x3:Ext H1 H3:=fun y u hy=>frm y u (aB hy hx) (e2.up hy)
  have x03:Ext H H3:=e1.trans x3;have la3:=la.ext x3;have mat3:bN C H3 x (mOf n st ps sg fl):=⟨dx,l1,l2,e,l3,qs,mi⟩;refine⟨a,ns,24,rfl,x03.rd ha,by decide,?_⟩
  show bR 8 (.int (ai ns 24)) [some (.ref a),some (.ref p),some (.int n),some (.ref s),some (.ref m),some (.ref g),some (.ref f),some (.ref x),none,none,none,none,none,none,none] H3 _
  refine⟨⟨by lia,by lia⟩,?_⟩
  refine dX (zs:=List.range n.toNat) (fun j=>if decide (V.int (ai ns 24 / (1*2^(0+(j:Int)).toNat)%2)=V.int 1)=true then some (.int (0+(j:Int))) else none) (jU 0 _) (z0 (by rw[Ef];lia)) ?_ ?_
  ·intro i j H6 Kk hj ex kk;have hj8:j<n.toNat:=Eh.mp (Dw hj);refine⟨cE rfl,gZ (by lia) (by lia),hE (by lia) (by lia),by show(0:Int)<2;decide,rfl,?_⟩
   have:=kk H6 Ext.refl
   refine aV (fun h=>?_) (fun h=>?_)
   ·have h':decide (V.int (ai ns 24 / (1*2^(0+(j:Int)).toNat)%2)=V.int 1)=true:=h;rw[if_pos h']at this;exact this
   ·have h':¬ decide (V.int (ai ns 24 / (1*2^(0+(j:Int)).toNat)%2)=V.int 1)=true:=h;rw[if_neg h']at this;exact this
  intro s4 H4 hs4 h4 e4;rw[eK (α:=Nat) (c:=fun j=>decide (V.int (ai ns 24 / (1*2^(0+(j:Int)).toNat)%2)=V.int 1)) (g:=fun j=>0+(j:Int))]at h4
  obtain⟨cs,ecs,hcs,lcs⟩:∃ cs:List Int,((List.range n.toNat).filter fun(j:Nat)=>decide (V.int (ai ns 24 / (1*2^(0+(j:Int)).toNat)%2)=V.int 1)).map (fun(j:Nat)=>0+(j:Int))=cs/\(∀ r∈cs,okI n r)/\cs.length<=8:=by
   refine⟨_,rfl,fun r hr=>?_,?_⟩
   ·obtain⟨j,hj,rfl⟩:=Dg.mp hr
    have:=Eh.mp (Eb.mp hj).1
    exact⟨by lia,by lia⟩
   ·rw[Dd]
    have:=ET (fun(j:Nat)=>decide (V.int (ai ns 24 / (1*2^(0+(j:Int)).toNat)%2)=V.int 1)) (List.range n.toNat)
    rw[Ef]at this;lia
  rw[ecs]at h4;show bR 9 (.ref s4) [some (.ref a),some (.ref p),some (.int n),some (.ref s),some (.ref m),some (.ref g),some (.ref f),some (.ref x),some (.int (ai ns 24)),none,none,none,none,none,none] H4 _
  obtain⟨c1,ec1,hc1,lc1⟩:=gK V.int cs (some (ai ns 24%3)) none;obtain⟨c2,ec2,hc2,lc2⟩:=gK V.int cs none (some (ai ns 24%3));obtain⟨c3,ec3,hc3,lc3⟩:=gK V.int cs none (some 1);refine⟨by show(0:Int)<3;decide,_,.inl h4,fun t1 H5 ht1 h5 e5=>?_⟩
  rw[ec1]at h5;refine⟨by show(0:Int)<3;decide,_,.inl (e5.up h4),fun t2 H6 ht2 h6 e6=>?_⟩
  rw[ec2]at h6;refine⟨_,e6.up h5,_,h6,z1 (by rw[Dd,Dd];lia),fun t3 H7 ht3 h7 e7=>?_⟩
  refine⟨_,.inl (e7.up (e6.up (e5.up h4))),fun t4 H8 ht4 h8 e8=>?_⟩
  rw[ec3]at h8;refine⟨_,e8.up h7,_,h8,z1 (by rw[Dl,Dd,Dd,Dd];lia),fun t5 H9 ht5 h9 e9=>?_⟩
  rw[<-Dn,<-Dn]at h9;have hsm:∀ r∈c1++c2++c3,okI n r:=fun r hr=>by
   rcases Dp.mp hr with hr|hr
   ·rcases Dp.mp hr with hr|hr
    ·exact hcs r (hc1 r hr)
    ·exact hcs r (hc2 r hr)
   ·exact hcs r (hc3 r hr)
  have lsm:(c1++c2++c3).length<=24:=by rw[Dl,Dl];lia
  generalize c1++c2++c3=sm at h9 hsm lsm;show bR 9 (.ref t5) [some (.ref a),some (.ref p),some (.int n),some (.ref s),some (.ref m),some (.ref g),some (.ref f),some (.ref x),some (.int (ai ns 24)),some (.ref s4),none,none,none,none,none] H9 _
  refine⟨⟨by lia,by lia⟩,fun t6 H10 ht6 h10 e10=>?_⟩
  refine⟨z1 (by show 0<=10000;decide),fun t7 H11 ht7 h11 e11=>?_⟩
  refine⟨z1 (by show 3<=10000;decide),fun lw Hb hlw hb e12=>?_⟩
  have x9:Ext H3 H9:=e4.trans (e5.trans (e6.trans (e7.trans (e8.trans e9))));have x3b:Ext H3 Hb:=x9.trans (e10.trans (e11.trans e12));have lab:=la3.ext x3b;have matb:=mat3.ext x3b;have tabb:=tab.ext (x03.trans x3b);have tab2b:=tab2.ext (x03.trans x3b);obtain⟨L3,hL3,hL4,hL5⟩:∃ L3:List (List Int×Addr),Hb lw=some (.lst (rfs L3))/\(∀ q∈L3,Hb q.2=some (.lst (q.1.map V.int))/\(∀ r∈q.1,okI n r)/\q.1.length<=100)/\L3.length=3:=by
   refine⟨[(sm,t5),(cQ 0 (n-0).toNat,t6),([],t7)],hb,fun q hq=>?_,rfl⟩
   rcases DG.mp hq with rfl|hq
   ·exact⟨e12.up (e11.up (e10.up h9)),hsm,by lia⟩
   rcases DG.mp hq with rfl|hq
   ·refine⟨e12.up (e11.up h10),xM (by lia),?_⟩
    unfold cQ;rw[Dd,Ef];lia
   ·rw[Dj]at hq;subst hq;exact⟨e12.up h11,(fun r hr=>nomatch hr),DZ _⟩
  have hmv:(mOf n st ps sg fl).mv.length<=24:=by
   have:=zS (ps.map (·.1))
   rw[Dd]at this;exact Ea this (by lia)
  have hMst:∀ r∈(mOf n st ps sg fl).st,okI n r:=fun r hr=>ok.st r (rZ.mp hr)
  have hMmv:∀ y∈(mOf n st ps sg fl).mv,bF n y:=fun y hy=>by
   obtain⟨q,hq,rfl⟩:=Dg.mp (dZ.mp hy);exact ok.mv q hq
  refine⟨_,.inl hL3,bZ (xs:=rfs L3) (fun i σ H13=>∃(v10 v11 v12 v13 v14:Option V),σ=[some (.ref a),some (.ref p),some (.int n),some (.ref s),some (.ref m),some (.ref g),some (.ref f),some (.ref x),some (.int (ai ns 24)),some (.ref t5),v10,v11,v12,v13,v14]/\aI T T2 Hb H13/\TabAt (bJ aG) lwQ T H13/\TabAt (dv aT) lvQ T2 H13)
   ⟨_,_,_,_,_,rfl,aI.ext Ext.refl,tabb,tab2b⟩ (fun i σ H13 _ hp=>?_) ?_ ?_⟩
  ·obtain⟨_,_,_,_,_,_,x2,_⟩:=hp;exact .inl (x2.toT.up hL3 fun _ z=>nomatch z)
  rotate_left
  ·rintro σ H13 ⟨v10,v11,v12,v13,v14,rfl,_⟩;exact k H13
  rintro i y σ H13 hy ⟨v10,v11,v12,v13,v14,rfl,x13,tb13,t213⟩;unfold rfs at hy;rw[Dq,Dy]at hy;obtain⟨⟨rooms,c⟩,hq,rfl⟩:=hy;obtain⟨hcb,hro,hrl⟩:=hL4 _ (Dw hq);have hcb:Hb c=some (.lst (rooms.map V.int)):=hcb;have hro:∀ r∈rooms,okI n r:=hro;have hrl:rooms.length<=100:=hrl;have nL:∀{ys:List V},∀ ps,HO.lst ys≠.tbl ps:=fun ps z=>nomatch z
  have nT':∀{ys:List V},∀ ps,HO.tup ys≠.tbl ps:=fun ps z=>nomatch z
  refine⟨p,c,s,m,g,f,n,st,ps,sg,fl,rooms,rfl,lab.n6 x13.toT,.inl (x13.toT.up hcb nL),hrl,n8,by lia,ok.st,ok.mv,by lia,hsg5,fun td H14 htd x14 hdue=>?_⟩
  show bR 11 (.ref td) [some (.ref a),some (.ref p),some (.int n),some (.ref s),some (.ref m),some (.ref g),some (.ref f),some (.ref x),some (.int (ai ns 24)),some (.ref t5),some (.ref c),v11,v12,v13,v14] H14 _
  refine⟨_,.inl (x14.up (x13.toT.up hcb nL)),fun th H15 hth h15 e15=>?_⟩
  have xb15:aI T T2 Hb H15:=x13.trans (aI.ext (x14.trans e15));have tb15:=(tb13.ext x14).ext e15;have t215:=(t213.ext x14).ext e15;show bR 12 (.ref th) [some (.ref a),some (.ref p),some (.int n),some (.ref s),some (.ref m),some (.ref g),some (.ref f),some (.ref x),some (.int (ai ns 24)),some (.ref t5),some (.ref c),some (.ref td),v12,v13,v14] H15 _
  refine⟨x,th,mOf n st ps sg fl,rooms,rfl,gB matb xb15.toT,hmv,.inl h15,hrl,n8,hro,hMst,hMmv,tb15,t215,fun t H16 B hrun hokB hndB hend=>?_⟩
  show bR 13 (.ref t) [some (.ref a),some (.ref p),some (.int n),some (.ref s),some (.ref m),some (.ref g),some (.ref f),some (.ref x),some (.int (ai ns 24)),some (.ref t5),some (.ref c),some (.ref td),some (.ref th),v13,v14] H16 _
  obtain⟨D,D1',D2',D3,D4,D5⟩:=rh (K:=K) (J:=H16) hend (hdue B hrun) (fun b u h _=>h) (fun b u h nt=>hend.1.toT.up (e15.up h) nt)
  obtain⟨x16,tb16,t216,htn,hend'⟩:=id hend;obtain⟨w0,l,vs,h16,hln,h16l,helt,hvl⟩:∃(w0:Str) (l:Addr) (vs:List V),H16 t=some (.tup [.str w0,.ref l])/\H15 l=none/\H16 l=some (.lst vs)/\(∀ v∈vs,Elt H15 H16 l 100 v)/\vs.length<=1000:=by
   have Bl:B.length<=1000:=by
    have:=my hndB (ks:=subs (UI n)) fun x hx=>by
     obtain⟨e,he,rfl⟩:=Dg.mp hx;exact j5 (hokB e he).2
    rw[Dd]at this;exact Ea this (jt n8)
   rcases hend' with⟨e,l,g1,g2,g3,g4⟩|⟨g1,l,qs,g2,g3,g4,g5,g6,g7⟩
   ·refine⟨"given",l,_,g2,g3,g4,fun v hv=>?_,?_⟩
    ·obtain⟨z,_,rfl⟩:=Dg.mp hv;exact .inl ⟨z,rfl⟩
    ·rw[Dd];obtain⟨i,hi,hie⟩:=List.getElem_of_mem (List.mem_of_find?_eq_some g1)
     have:=hrun.len i e (by rw[Dv hi,hie])
     lia
   ·refine⟨"kept",l,_,g2,g3,g4,fun v hv=>?_,?_⟩
    ·unfold rfs at hv;obtain⟨q,hq,rfl⟩:=Dg.mp hv;obtain⟨a1,a2,a3⟩:=g5 q hq;refine .inr ⟨q.2,_,rfl,a3,a2,a1,?_⟩
     have:q.1∈B.map (·.1):=g6.mem_iff.mp (DU hq)
     obtain⟨e,he,e1⟩:=Dg.mp this;have h8:=(hokB e he).2.length_le;have hU:(UI (mOf n st ps sg fl).size).length<=8:=by unfold UI;rw[Dd,Ef];show n.toNat<=8;lia
     rw[Dd,<-e1];lia
    ·have:=g6.length_eq
     rw[Dd,Dd]at this;unfold rfs;rw[Dd];lia
  have hth16:H16 th=some (.lst (rooms.map V.int)):=x16.toT.up h15 nL;have hc16:H16 c=some (.lst (rooms.map V.int)):=x16.toT.up (xb15.toT.up hcb nL) nL;refine⟨_,.tup h16,_,wL _,ifN rfl ?_⟩;refine⟨_,.inl h16,rfl,ifN rfl ?_⟩;refine⟨D,D,D1',D2',D3,D4,D5,ifN (by rw[cX rfl];rfl) ?_⟩
  refine⟨flD (rooms.map V.int),flD (rooms.map V.int),cj (.inl hth16) (cw _),cj (.inl hc16) (cw _),eJ (nv _ _),rfl,by rw[dU];decide,ifN (by rw[cX rfl];rfl) ?_⟩
  show oq _ [some (.ref a),some (.ref p),some (.int n),some (.ref s),some (.ref m),some (.ref g),some (.ref f),some (.ref x),some (.int (ai ns 24)),some (.ref t5),some (.ref c),some (.ref td),some (.ref th),some (.ref t),v14] H16
  refine⟨_,.inl h16,_,rfl,_,.inl h16l,bZ (xs:=vs) (fun j σ H17=>∃ v14:Option V,σ=[some (.ref a),some (.ref p),some (.int n),some (.ref s),some (.ref m),some (.ref g),some (.ref f),some (.ref x),some (.int (ai ns 24)),some (.ref t5),some (.ref c),some (.ref td),some (.ref th),some (.ref t),v14] ∧
    aI T T2 H15 H17/\TabAt (bJ aG) lwQ T H17/\TabAt (dv aT) lvQ T2 H17/\H17 t=some (.tup [.str w0,.ref l])/\H17 l=some (.lst vs)/\∀ v∈vs,Elt H15 H17 l (100+j) v)
   ⟨_,rfl,x16,tb16,t216,h16,h16l,helt⟩ (fun j σ H17 _ hp=>?_) ?_ ?_⟩
  ·obtain⟨_,_,_,_,_,_,h,_⟩:=hp;exact .inl h
  ·rintro j v σ H17 hv ⟨u14,rfl,x17,tb17,t217,g1,g2,g3⟩;have hjl:j<vs.length:=(DI.mp hv).1;rcases g3 v (Dw hv) with⟨z,rfl⟩|⟨b,ys,rfl,b1,b2,b3,b4⟩
   ·refine⟨_,.str z,_,Bz _,ifN rfl ?_⟩;exact⟨_,rfl,x17,tb17,t217,g1,g2,fun v hv=>(g3 v hv).imp id fun⟨b,ys,h1,h2,h3,h4,h5⟩=>⟨b,ys,h1,h2,h3,h4,by lia⟩⟩
   ·refine⟨_,.lst b3,_,zN _,?_⟩;show if true=true then _ else _
    rw[if_pos rfl];refine⟨_,.inl b3,_,b3,z0 (by lia),fun H18 h18 b18=>?_⟩
    refine⟨_,rfl,x17.but b2 b18,TabAt.but tb17 b3 (fun _ z=>nomatch z) (fun _ _ z=>nomatch z) b18,TabAt.but t217 b3 (fun _ z=>nomatch z) (fun _ _ z=>nomatch z) b18,b18.up (bo g1 b3 fun z=>nomatch z) g1,b18.up b1.symm g2,fun v hv=>?_⟩
    rcases g3 v hv with h|⟨b',ys',h1,h2,h3,h4,h5⟩
    ·exact .inl h
    ·by_cases hb':b'=b
     ·subst hb';refine .inr ⟨b',_,h1,h2,h3,h18,?_⟩;rw[Dl,D7];lia
     ·exact .inr ⟨b',ys',h1,h2,h3,b18.up hb' h4,by lia⟩
  rintro σ H17 ⟨u14,rfl,x17,tb17,t217,g1,g2,g3⟩;refine⟨_,.inl g1,_,rfl,_,.inl g2,_,g2,z0 (by lia),fun H18 h18 b18=>?_⟩
  have x18:aI T T2 H15 H18:=x17.but hln b18;have tb18:=TabAt.but tb17 g2 (fun _ z=>nomatch z) (fun _ _ z=>nomatch z) b18
  have t218:=TabAt.but t217 g2 (fun _ z=>nomatch z) (fun _ _ z=>nomatch z) b18
  have xb18:aI T T2 Hb H18:=xb15.trans x18;refine⟨x,th,mOf n st ps sg fl,rooms,rfl,gB matb xb18.toT,hmv,.inl (x18.toT.up h15 nL),hrl,n8,hro,hMst,hMmv,tb18,t218,fun t2 H19 B2 hrun2 hokB2 hndB2 hend2=>?_⟩
  obtain⟨x19,tb19,t219,_,_⟩:=id hend2;have xb19:aI T T2 Hb H19:=xb18.trans x19;refine⟨p,c,s,m,g,f,n,st,ps,sg,fl,rooms,rfl,lab.n6 xb19.toT,.inl (xb19.toT.up hcb nL),hrl,n8,by lia,ok.st,ok.mv,by lia,hsg5,fun td2 H20 htd2 x20 hdue2=>?_⟩
  obtain⟨D',E1,E2,E3,E4,E5⟩:=rh (K:=K) (J:=H20) hend2 (hdue2 B2 hrun2) (fun b u h _=>x20.up h) (fun b u h _=>h)
  refine⟨D',D',E1,E2,E3,E4,E5,ifN (by rw[cX rfl];rfl) ?_⟩
  exact⟨_,_,_,_,_,rfl,xb19.trans (aI.ext x20),tb19.ext x20,t219.ext x20⟩
end
end K
end
section
namespace SB
open PySem
theorem us1{Q:List Value->Prop}(h:∀ a,Q [a]):∀ us:List Value,us.length=1->Q us:=fun us hl=>by
 rcases us with _|⟨a,us⟩
 ·cases hl
 ·rw[EC.mp (Nat.succ.inj hl)];exact h a
theorem us2{Q:List Value->Prop}(h:∀ a b,Q [a,b]):∀ us:List Value,us.length=2->Q us:=fun us hl=>by
 rcases us with _|⟨a,us⟩
 ·cases hl
 ·exact us1 (Q:=fun l=>Q (a::l)) (h a) us (Nat.succ.inj hl)
theorem us3{Q:List Value->Prop}(h:∀ a b c,Q [a,b,c]):∀ us:List Value,us.length=3->Q us:=fun us hl=>by
 rcases us with _|⟨a,us⟩
 ·cases hl
 ·exact us2 (Q:=fun l=>Q (a::l)) (h a) us (Nat.succ.inj hl)
theorem us4{Q:List Value->Prop}(h:∀ a b c d,Q [a,b,c,d]):∀ us:List Value,us.length=4->Q us:=fun us hl=>by
 rcases us with _|⟨a,us⟩
 ·cases hl
 ·exact us3 (Q:=fun l=>Q (a::l)) (h a) us (Nat.succ.inj hl)
theorem us5{Q:List Value->Prop}(h:∀ a b c d e,Q [a,b,c,d,e]):∀ us:List Value,us.length=5->Q us:=fun us hl=>by
 rcases us with _|⟨a,us⟩
 ·cases hl
 ·exact us4 (Q:=fun l=>Q (a::l)) (h a) us (Nat.succ.inj hl)
theorem us6{Q:List Value->Prop}(h:∀ a b c d e f,Q [a,b,c,d,e,f]):∀ us:List Value,us.length=6->Q us:=fun us hl=>by
 rcases us with _|⟨a,us⟩
 ·cases hl
 ·exact us5 (Q:=fun l=>Q (a::l)) (h a) us (Nat.succ.inj hl)
end SB
end
section
namespace SB
open PySem PySem.Spec PyProof.Rows L2
open PySem.W (CodeHd tabObj)
theorem w9{K:PySem.W.Frag}{mb:Str->Option Value}{k:Nat}{fa:Addr}{Ts:List (Addr×Addr)}{sp:Sp}{s₁:Shared}{ns:List Int}(KX:K.In s₁.heap)(hns:s₁.heap.Ns mainGlobals mg)(hb:s₁.heap.Ns builtinsNs mb)(hbb:∀ x:Str,x≠"__name__"->mb x=bootBuiltins x) (hlim:s₁.heap.NoLimit) (hg:s₁.gens=#[]) (ha:s₁.heap.get? a=some { cls:=.type "list",data:=.seq vs.toArray }) (hi:IntsAre vs ns) (hl:ns.length<=sizeLine) (hr:aA k callerA) (nl:noL K=true) (nt:PySem.W.noTabs K=true) (L:∀ p∈Ts,cK mg s₁.heap p.1 p.2) (hT:∀ p∈Ts,s₁.heap.get? p.2=some (tabObj #[])) (F:∀ base:Heap,K.In base->base.Ns mainGlobals mg->(∀ p∈Ts,cK mg base p.1 p.2)->ar P w K mg base CX0 k fa fd [x] sp) (hbind:∀(s:Shared) (u:Value),BindsTo s fd ⟨[u],[]⟩ [(x,u)]) (hsp:∀ H:Hp,RdL H a (ns.map V.int)->(∀ p∈Ts,H p.2=some (.tbl #[]))->sp [.ref a] H (fun v _=>v=.bl true) fun _ _ _=>False) :
  codeAny (model P w) callerA (.call (.ref fa) ⟨[.ref a],[]⟩) (fun r s'=>r=.ok (.ret (.bool true))/\OldK s₁.heap s'.heap/\s'.os=s₁.os/\AllBare s'.gens) s₁:=by
 have rv:=oK hi;have haT:∀ p∈Ts,a≠p.2:=fun p hp z=>by have:=hT p hp;rw[<-z,ha]at this;cases this
 have hKa:K.lookup a=none:=by
  cases hk:K.lookup a with
  | none=>rfl
  | some o=>
   have e:=KX a o hk;rw[ha]at e;cases e
   have h2:=EW.mp nl _ (PySem.W.mem_of_lookupK hk);exact absurd (show false=true from h2) DQ
 have hKT:∀ p∈Ts,K.lookup p.2=none:=fun p hp=>by
  cases hk:K.lookup p.2 with
  | none=>rfl
  | some o=>
   have e:=KX p.2 o hk;rw[hT p hp]at e;cases e
   have h2:=EW.mp nt _ (PySem.W.mem_of_lookupK hk);exact absurd (show false=true from h2) DQ
 obtain⟨H,hH⟩:∃ H:Hp,H=fun b=>if b∈Ts.map (·.2) then some (.tbl #[]) else if b=a then some (.frz { cls:=.type "list",data:=.seq vs.toArray } (.lst (ns.map V.int))) else none:=⟨_,rfl⟩
 have HT:∀ p∈Ts,H p.2=some (.tbl #[]):=fun p hp=>by rw[hH];exact if_pos (DU hp)
 have anT:a∉Ts.map (·.2):=fun z=>by
  obtain⟨p,hp,e⟩:=Dg.mp z;exact haT p hp e.symm
 have Ha:H a=some (.frz { cls:=.type "list",data:=.seq vs.toArray } (.lst (ns.map V.int))):=by
  rw[hH]
  show(if a∈Ts.map (·.2) then _ else _)=_
  rw[if_neg anT,if_pos rfl]
 have Hn:∀ b,(∀ p∈Ts,b≠p.2)->b≠a->H b=none:=fun b h1 h2=>by
  rw[hH]
  show(if b∈Ts.map (·.2) then _ else _)=_
  rw[if_neg (fun z=>by obtain⟨p,hp,e⟩:=Dg.mp z;exact h1 p hp e.symm),if_neg h2]
 have inv:∀ b u,H b=some u->(∃ p∈Ts,b=p.2)\/b=a:=fun b u e=>by
  by_cases h1:b∈Ts.map (·.2)
  ·obtain⟨p,hp,e⟩:=Dg.mp h1;exact .inl ⟨p,hp,e.symm⟩
  ·by_cases h2:b=a
   ·exact .inr h2
   ·rw[Hn b (fun p hp z=>h1 (z▸DU hp)) h2]at e;cases e
 have free:∀{b:Addr} {o:Obj},s₁.heap.get? b=some o->o.cls≠.type "list"->o.cls≠.none->H b=none:=fun {b o} e h1 h2=>by
  refine Hn b (fun p hp z=>?_) fun z=>?_
  ·rw[z,hT p hp]at e;cases e;exact h2 rfl
  ·rw[z,ha]at e;cases e;exact h1 rfl
 have base_of:∀{b:Addr} {o:Obj},s₁.heap.get? b=some o->H b=none->(de s₁.heap H).get? b=some o:=fun e n=>qG e n
 have nsK:∀{b:Addr} {m:Str->Option Value},s₁.heap.Ns b m->(de s₁.heap H).Ns b m:=fun {b m} ⟨o,es,ep,e,d,r⟩=>⟨o,es,ep,base_of e (Hn b (fun p hp z=>by rw[z,hT p hp]at e;cases e;cases d) fun z=>by rw[z,ha]at e;cases e;cases d),d,r⟩
 have hKb:K.In (de s₁.heap H):=fun b o e=>base_of (KX b o e) (Hn b (fun p hp z=>by rw[z,hKT p hp]at e;cases e) fun z=>by rw[z,hKa]at e;cases e)
 have hM:Mod K mg (de s₁.heap H):=⟨hKb,nsK hns,⟨mb,nsK hb,hbb⟩,let ⟨mc,h1,h2⟩:=hlim;⟨mc,nsK h1,h2⟩⟩
 have hL:∀ p∈Ts,cK mg (de s₁.heap H) p.1 p.2:=fun p hp=>by
  obtain⟨⟨o,vs,file,tf,flags,tg,inF,text,tt,e1,r1,r2⟩,bm,ob,b1,b2,b3,b4,b5,b6⟩:=L p hp;refine⟨⟨o,vs,file,tf,flags,tg,inF,text,tt,base_of e1 (free e1 ?_ ?_),r1,r2⟩,bm,ob,b1,b2,b3,base_of b4 (free b4 ?_ ?_),b5,b6⟩
  ·rw[r1];decide
  ·rw[r1];exact fun z=>nomatch z
  ·rw[b5];decide
  ·rw[b5];exact fun z=>nomatch z
 have hok:HOk P w H s₁.heap:=fun b u e=>by
  rcases inv b u e with⟨p,hp,rfl⟩|rfl
  ·rw[HT p hp]at e;cases e;exact hT p hp
  ·rw[Ha]at e;cases e
   exact⟨ha,by rw[Dd];exact hl,vs,_,rv,ha⟩
 have e0:dF P w K mg (de s₁.heap H) callerA [] s₁ H:=⟨rfl,hM,fun b o e=>oo e,Nat.le_of_eq (qU _ _),trivial,fun b hb=>absurd (show b∈([]:List Addr) from hb) (by simp),hok,.of_eq hg⟩
 refine codeAny_mono ((F _ hKb (nsK hns) hL).run callerA [] s₁ H ⟨[.ref a],[]⟩ [.ref a] [.ref a] _ _ hr e0 (hbind s₁ (.ref a)) (.cons rfl .nil) (hsp H (.inr ⟨_,Ha⟩) HT)) fun r s' h=>?_
 cases r with
 | error e=>exact False.elim h
 | ok fl=>
  cases fl with
  | next=>exact False.elim h
  | brk=>exact False.elim h
  | cont=>exact False.elim h
  | ret u=>
   obtain⟨v,H',os,bare,un,hok',r',q⟩:=h;have q':v=.bl true:=q;subst q';obtain rfl:u=Value.bool true:=r';refine⟨rfl,⟨fun b o e=>?_,fun b o e=>un.there b o e (by simp)⟩,os,bare⟩
   cases q:H b with
   | none=>exact .inl (un.keep b o e q (by intro z;exact absurd (show b∈([]:List Addr) from z) (by simp)) (by simp))
   | some u=>
    rcases inv b u q with⟨p,hp,rfl⟩|rfl
    ·obtain⟨more,hm⟩:=un.tbls p.2 _ (HT p hp);have e2:s'.heap.get? p.2=some { cls:=.none,data:=.fields (#[]++more) }:=hok' p.2 _ hm;rw[hT p hp]at e;cases e
     exact .inr (.inl ⟨((L p hp).hd.tab (hT p hp)).isCodeTable,rfl,#[],more,rfl,e2⟩)
    ·have z2:=un.frzs b _ _ Ha;obtain⟨e2,_⟩:=hok' b _ z2;rw[ha]at e;cases e
     exact .inl e2
theorem zJ{l:PySem.W.OpenLaw}{k:Nat}{q:Program}{loose:List Str}{XP:(Str->Option Value)->Heap->Prop}{YP:World->Heap->Prop}{d:DefRec}{K:Params->PySem.W.Frag}{sp:Sp}{ys:List (Str×Addr×Addr)}(hn:l.most=some n)(hn2:n<=sizeLine)(hdf:d.params.defaults=[])(hr:aA k callerA)(hY:∀(w:World)(h:Heap),YP w h->(K w.params).In h)(nl:∀ w:World,noL (K w.params)=true)(nt:∀ w:World,PySem.W.noTabs (K w.params)=true)(hrec:∀ y∈ys,∃ dT,(recsOf q).find? (fun e=>e.name==y.1)=some dT)(htab:∀ w:World,∀ y∈ys,PySem.W.tabIn (K w.params) y.1=some y.2)(F:∀(w:World)(mg:Str->Option Value)(fa:Addr)(h:Heap),(K w.params).In h->h.Ns mainGlobals mg->mg d.name=some (.ref fa) →
   ∃ fd:FuncData,(∀(s:Shared) (u:Value),BindsTo s fd ⟨[u],[]⟩ [(x,u)]) ∧
    ∀ base:Heap,(K w.params).In base->base.Ns mainGlobals mg->(∀ p∈ys.map (·.2),cK mg base p.1 p.2)->ar l.prog w (K w.params) mg base CX0 k fa fd [x] sp) (hsp:∀(H:Hp) (a:Addr) (ns:List Int),ns.length<=n->RdL H a (ns.map V.int)->(∀ p∈ys.map (·.2),H p.2=some (.tbl #[]))->sp [.ref a] H (fun v _=>v=.bl true) fun _ _ _=>False) :
  PySem.W.WalkO q loose XP YP l.row.toRowW d [] (fun f vs=>PySem.call f vs):=by
 refine Att.AJ hn hdf fun w s₀ s₁ mg mb fa o pm cd doc a vs ns G Y ho hd hcd hmg hobj hints hlen hg=>?_
 have KX:=hY w _ Y;obtain⟨fd,hb,hF⟩:=F w mg fa _ KX G.T.g hmg;obtain⟨bm,ob,b1,b2,b3,b4,b5,b6⟩:=G.T.bmain;have two:∀ p∈ys.map (·.2),CodeHd s₁.heap p.1 p.2/\s₁.heap.get? p.2=some (tabObj #[]):=fun p hp=>by
  obtain⟨y,hy,rfl⟩:=Dg.mp hp;obtain⟨dT,hd'⟩:=hrec y hy;exact PySem.W.tab_of G.T KX hd' (htab w y hy)
 refine w9 KX G.T.g G.T.b G.T.builtins G.T.nolimit hg hobj hints (Ea hlen hn2) hr (nl w) (nt w) (fun p hp=>⟨(two p hp).1,bm,ob,b1,b2,fun z=>?_,b3,b4,b5,b6⟩) (fun p hp=>(two p hp).2) hF hb fun H hO hS=>hsp H a ns hlen hO hS
 obtain⟨o',es,ep,e,hd',_⟩:=G.T.g;rw[<-z,b3]at e;cases e
 rw[b6]at hd';cases hd'
end SB
end
section
set_option maxHeartbeats 1000000
namespace K
open PySem PySem.Spec PyProof.Rows L2 SB
structure kX (K:PySem.W.Frag)(mg:Str->Option Value)(C c1 T1 c2 T2:Addr):Prop where
 t0:Txt K mg
 tm:qp K mg
 tc:dk K mg C
 tl:fQ K mg
 tj:qH mg
 tn:mY mg
 za:mg "all" = none
 tab1:PySem.W.tabIn K "with_unseen" = some (c1,T1)
 tab2:PySem.W.tabIn K "secret" = some (c2,T2)
 mgC:mg "Machine" = some (.ref C)
 mkC:PySem.W.makesIn K C=true
 kc:PySem.W.keepIn K (.ref C)=true
 d0:Has K mg "is_word" gn
 d1:Has K mg "need_at_most" jM
 d2:Has K mg "need_room" jI
 d3:Has K mg "need_word" jO
 d4:Has K mg "need_machine" jZ
 d5:Has K mg "reach" gH
 d6:Has K mg "way_to" iL
 d7:Has K mg "with_unseen" aG
 d8:Has K mg "signs_from" sSF
 d9:Has K mg "first_sets" sFS
 d10:Has K mg "secret" aT
 d11:Has K mg "_law_cell" ju
 d12:Has K mg "_law_words" iV
 d13:Has K mg "_law_machine" ff
 d14:Has K mg "_law_unseen" sUn
 d15:Has K mg "_law_next" sNx
 d16:Has K mg "_law_due" gx
 m0:cH K C "__init__" "Machine.__init__" iK
 m1:cH K C "starts" "Machine.starts" iW
 m2:cH K C "moves" "Machine.moves" jv
 m3:cH K C "sign_of" "Machine.sign_of" jT
section
variable {P:Program}{w:World}{K:PySem.W.Frag}{mg:Str->Option Value}{base:Heap}
theorem pQ{st:Stmt}{k:Nat}{sp:Sp}(H:Has K mg x st)(ok:∀ f fd,Fun K x x st f fd->mg x=some (.ref f)->ar P w K mg base CX0 k f fd ps sp)(hb:∀(kV doc pm:Value)(an:Option Addr)(cdv ct:Value)(us:List Value),us.length=ps.length->bindArgs (PySem.W.fnOf x x (cO st) (cq st) (aq st) .none kV doc pm an cdv ct) ⟨us,[]⟩=pure (ps.zip us)):Known P w K mg base k x ps sp:=by
 obtain⟨f,fd,F,m⟩:=H;exact⟨f,fd,ok f fd F m,m,F.kp,F.binds hb⟩
theorem n5{st:Stmt}(kb:K.In base)(nb:base.Ns mainGlobals mg)(tab:PySem.W.tabIn K x=some (c,T))(M:mg x=some (.ref f))(F:Fun K x x st f fd):fd.code=.ref c:=by
 obtain⟨oc,od,kV,doc,pm,an,cdv,ct,osl,e,lk,hcd⟩:=F.ex;exact PySem.W.law_code kb nb tab M (kb _ _ lk) rfl
theorem C1{c1 T1 c2:Addr}(T:kX K mg C c1 T1 c2 T2)(F:Fun K "law" "law" fe f fd) (nT:T1≠T2) (kb:K.In base) (nb:base.Ns mainGlobals mg) (LB1:cK mg base c1 T1) (LB2:cK mg base c2 T2):ar P w K mg base CX0 8 f fd ["_law_script"] (kA T1 T2):=by
 have f_is_word:Known P w K mg base 1 "is_word" ["text"] (nK):=T.d0.known (fun f fd F=>CA F T.t0) (fun _ _ _ _ _ _=>us1 fun _=>rfl)
 have f_need_at_most:Known P w K mg base 1 "need_at_most" ["number","most"] (lI):=T.d1.known (fun f fd F=>uN F) (fun _ _ _ _ _ _=>us2 fun _ _=>rfl)
 have f_need_room:Known P w K mg base 1 "need_room" ["size","room"] (i5):=T.d2.known (fun f fd F=>AN F) (fun _ _ _ _ _ _=>us2 fun _ _=>rfl)
 have f_need_word:Known P w K mg base 2 "need_word" ["text"] (mq):=T.d3.known (fun f fd F=>ur F f_is_word) (fun _ _ _ _ _ _=>us1 fun _=>rfl)
 have f_need_machine:Known P w K mg base 3 "need_machine" ["size","starts","moves","signs","faults"] (lu):=T.d4.known (fun f fd F=>vS F T.tm f_need_at_most f_need_room f_need_word) (fun _ _ _ _ _ _=>us5 fun _ _ _ _ _=>rfl)
 have c_Machine:jJ P w K mg base 4 "Machine" C gL (lH C):=T.m0.xD T.mgC T.mkC T.kc (fun f fd F=>zW F T.tc f_need_machine) (fun _ _ _ _ _ _=>us6 fun _ _ _ _ _ _=>rfl)
 have m_starts:∀ base':Heap,c9 P w K mg base' 1 C "starts" ["self"] (mP C):=fun base'=>T.m1.known (fun f fd F=>Aw F T.tc) (fun _ _ _ _ _ _=>us1 fun _=>rfl)
 have m_moves:∀ base':Heap,c9 P w K mg base' 1 C "moves" ["self"] (jb C):=fun base'=>T.m2.known (fun f fd F=>Ck F T.tc) (fun _ _ _ _ _ _=>us1 fun _=>rfl)
 have m_sign_of:∀ base':Heap,c9 P w K mg base' 1 C "sign_of" ["self","deed"] (iJ C):=fun base'=>T.m3.known (fun f fd F=>vd F T.tc) (fun _ _ _ _ _ _=>us2 fun _ _=>rfl)
 have f_reachI:∀ base',K.In base'->base'.Ns mainGlobals mg->Known P w K mg base' 2 "reach" ["starts","steps_from"] (mC P w K mg base' 1 "room"):=fun base' kb' nb'=>T.d5.known (fun f fd F=>uJ F T.tc.list) (fun _ _ _ _ _ _=>us2 fun _ _=>rfl)
 have f_reachP:∀ base',K.In base'->base'.Ns mainGlobals mg->Known P w K mg base' 6 "reach" ["starts","steps_from"] (nN cx P w K mg base' 5 "found"):=fun base' kb' nb'=>T.d5.known (fun f fd F=>Cm F T.tc.list) (fun _ _ _ _ _ _=>us2 fun _ _=>rfl)
 have f_with:∀ base',K.In base'->base'.Ns mainGlobals mg->(∀ b o,base.get? b=some o->base'.get? b=some o)->Known P w K mg base' 3 "with_unseen" ["machine","rooms"] (jP C T1):=fun base' kb' nb' kp=>pQ T.d7 (fun f fd F M=>uw F (n5 kb' nb' T.tab1 M F) (LB1.keeps kp) T.tc T.tj.tuple (m_moves base') (m_sign_of base') f_reachI kb' nb') (fun _ _ _ _ _ _=>us2 fun _ _=>rfl)
 have f_sf:∀ base',K.In base'->base'.Ns mainGlobals mg->(∀ b o,base.get? b=some o->base'.get? b=some o)->Known P w K mg base' 4 "signs_from" ["machine","rooms"] (iU C T1):=fun base' kb' nb' kp=>T.d8.known (fun f fd F=>uM F T.tc (m_moves base') (m_sign_of base') (f_with base' kb' nb' kp)) (fun _ _ _ _ _ _=>us2 fun _ _=>rfl)
 have f_first_sets:Known P w K mg base 4 "first_sets" ["machine"] (lW C T1):=T.d9.known (fun f fd F=>zA F T.tc (m_starts base) (f_with base kb nb fun _ _ h=>h)) (fun _ _ _ _ _ _=>us1 fun _=>rfl)
 have f_way_to:Known P w K mg base 1 "way_to" ["came_by","place"] (mn cx P w):=T.d6.known (fun f fd F=>B1 F) (fun _ _ _ _ _ _=>us2 fun _ _=>rfl)
 have f_secret:Known P w K mg base 7 "secret" ["machine","rooms"] (nP C T1 T2):=pQ T.d10 (fun f fd F M=>Cw F (n5 kb nb T.tab2 M F) LB2 T.tc T.za nT f_need_room f_first_sets f_way_to f_reachP f_sf kb nb) (fun _ _ _ _ _ _=>us2 fun _ _=>rfl)
 have f__law_cell:Known P w K mg base 1 "_law_cell" ["_law_script","_law_k"] (jl):=T.d11.known (fun f fd F=>Ca F T.tl) (fun _ _ _ _ _ _=>us2 fun _ _=>rfl)
 have f__law_words:Known P w K mg base 1 "_law_words" ["_law_cell_here","_law_many"] (nO):=T.d12.known (fun f fd F=>Bu F T.tl T.tn) (fun _ _ _ _ _ _=>us2 fun _ _=>rfl)
 have f__law_machine:Known P w K mg base 2 "_law_machine" ["_law_script","_law_most"] (nG):=T.d13.known (fun f fd F=>wy F T.tl T.tn f__law_cell f__law_words) (fun _ _ _ _ _ _=>us2 fun _ _=>rfl)
 have f__law_unseen:Known P w K mg base 1 "_law_unseen" ["_law_machine_here","_law_rooms"] (iN):=T.d14.known (fun f fd F=>By F T.tc.list T.tc.sorted) (fun _ _ _ _ _ _=>us2 fun _ _=>rfl)
 have f__law_next:Known P w K mg base 2 "_law_next" ["_law_machine_here","_law_rooms","_law_sign"] (ky):=T.d15.known (fun f fd F=>CM F f__law_unseen) (fun _ _ _ _ _ _=>us3 fun _ _ _=>rfl)
 have f__law_due:Known P w K mg base 3 "_law_due" ["_law_machine_here","_law_rooms"] (lZ):=T.d16.known (fun f fd F=>yK F T.tl T.tc.list T.tc.sorted T.tc.set f__law_unseen f__law_next) (fun _ _ _ _ _ _=>us2 fun _ _=>rfl)
 exact yr F T.tc T.tl T.tj f__law_cell f__law_machine c_Machine f__law_due f_secret
end
theorem iG{K:PySem.W.Frag}(X:K.In h)(G:h.Ns mainGlobals mg)(a:PySem.W.nsIn K mainGlobals x=some (some u)):mg x=some u:=PySem.W.mg_of X G a
theorem dG{K:PySem.W.Frag}(X:K.In h)(G:h.Ns mainGlobals mg)(a:PySem.W.nsIn K mainGlobals x=some none):mg x=none:=PySem.W.mg_none_of X G a
theorem yf{K:PySem.W.Frag}{c1 T1 c2:Addr}{t0 t1 t2 t3:Tok}(X:K.In h)(G:h.Ns mainGlobals mg)(zlen:PySem.W.nsIn K mainGlobals "len" = some none) (zall:PySem.W.nsIn K mainGlobals "all" = some none) (zrange:PySem.W.nsIn K mainGlobals "range" = some none) (zsorted:PySem.W.nsIn K mainGlobals "sorted" = some none) (zset:PySem.W.nsIn K mainGlobals "set" = some none) (zdict:PySem.W.nsIn K mainGlobals "dict" = some none) (zlist:PySem.W.nsIn K mainGlobals "list" = some none) (zisinstance:PySem.W.nsIn K mainGlobals "isinstance" = some none) (zint:PySem.W.nsIn K mainGlobals "int" = some none) (ztuple:PySem.W.nsIn K mainGlobals "tuple" = some none) (kLETTERS:PySem.W.nsIn K mainGlobals "LETTERS" = some (some (.str "abcdefghijklmnopqrstuvwxyz" t0))) (kMOST_LETTERS:PySem.W.nsIn K mainGlobals "MOST_LETTERS" = some (some (.int 8 t1))) (kMOST_ROOMS:PySem.W.nsIn K mainGlobals "MOST_ROOMS" = some (some (.int 8 t2))) (kMOST_MOVES:PySem.W.nsIn K mainGlobals "MOST_MOVES" = some (some (.int 24 t3))) (aC:PySem.W.nsIn K mainGlobals "Machine" = some (some (.ref C))) (pg:PySem.W.plainGet K C Str.empty=true) (hd:PySem.W.hasDictIn K C=true) (po:PySem.W.plainOver K C=true) (sa:PySem.W.findIn K (.ref C) "__setattr__" = some (some (.builtin "object.__setattr__"))) (mk:PySem.W.makesIn K C=true) (kc:PySem.W.keepIn K (.ref C)=true) (f1:PySem.W.findIn K (.ref C) "size" = some none) (f2:PySem.W.findIn K (.ref C) "start_rooms" = some none) (f3:PySem.W.findIn K (.ref C) "sorted_moves" = some none) (f4:PySem.W.findIn K (.ref C) "sign_by_deed" = some none) (f5:PySem.W.findIn K (.ref C) "fault_deeds" = some none) (tb1:PySem.W.tabIn K "with_unseen" = some (c1,T1)) (tb2:PySem.W.tabIn K "secret" = some (c2,T2)) (d0:Has K mg "is_word" gn) (d1:Has K mg "need_at_most" jM) (d2:Has K mg "need_room" jI) (d3:Has K mg "need_word" jO) (d4:Has K mg "need_machine" jZ) (d5:Has K mg "reach" gH) (d6:Has K mg "way_to" iL) (d7:Has K mg "with_unseen" aG) (d8:Has K mg "signs_from" sSF) (d9:Has K mg "first_sets" sFS) (d10:Has K mg "secret" aT) (d11:Has K mg "_law_cell" ju) (d12:Has K mg "_law_words" iV) (d13:Has K mg "_law_machine" ff) (d14:Has K mg "_law_unseen" sUn) (d15:Has K mg "_law_next" sNx) (d16:Has K mg "_law_due" gx) (m0:cH K C "__init__" "Machine.__init__" iK) (m1:cH K C "starts" "Machine.starts" iW) (m2:cH K C "moves" "Machine.moves" jv) (m3:cH K C "sign_of" "Machine.sign_of" jT) (dL:Has K mg "law" fe):(∃ C,kX K mg C c1 T1 c2 T2)/\Has K mg "law" fe:=by
 have zl:=dG X G zlen;have zr:=dG X G zrange;have zli:=dG X G zlist;have za:=dG X G zall;exact⟨⟨C,⟨zl,za,⟨_,iG X G kLETTERS⟩,⟨_,iG X G kMOST_LETTERS⟩⟩,⟨zl,⟨_,iG X G kMOST_ROOMS⟩,⟨_,iG X G kMOST_MOVES⟩⟩,⟨⟨pg,hd,po,sa⟩,f1,f2,f3,f4,f5,dG X G zsorted,dG X G zset,dG X G zdict,zli⟩,⟨zl,zr⟩,⟨dG X G zisinstance,zli,dG X G ztuple⟩,⟨dG X G zint⟩,za,tb1,tb2,iG X G aC,mk,kc,d0,d1,d2,d3,d4,d5,d6,d7,d8,d9,d10,d11,d12,d13,d14,d15,d16,m0,m1,m2,m3⟩,dL⟩
theorem walk{l:PySem.W.OpenLaw}{q:Program}{loose:List Str}{XP:(Str->Option Value)->Heap->Prop}{YP:World->Heap->Prop}{d:DefRec}{K:Params->PySem.W.Frag}{c1 T1 c2:Addr}(nT:T1≠T2)(hn:l.most=some 63)(hdf:d.params.defaults=[])(hname:d.name = "law") (hY:∀(w:World) (h:Heap),YP w h->(K w.params).In h) (nl:∀ w:World,noL (K w.params)=true) (nt:∀ w:World,PySem.W.noTabs (K w.params)=true) (hrec1:((recsOf q).find? (fun e:DefRec=>e.name==("with_unseen":Str))).isSome=true) (hrec2:((recsOf q).find? (fun e:DefRec=>e.name==("secret":Str))).isSome=true) (htab1:∀ w:World,PySem.W.tabIn (K w.params) "with_unseen" = some (c1,T1)) (htab2:∀ w:World,PySem.W.tabIn (K w.params) "secret" = some (c2,T2)) (F:∀(w:World) (mg:Str->Option Value) (h:Heap),(K w.params).In h->h.Ns mainGlobals mg->(∃ C,kX (K w.params) mg C c1 T1 c2 T2)/\Has (K w.params) mg "law" fe) :
  PySem.W.WalkO q loose XP YP l.row.toRowW d [] (fun f vs=>PySem.call f vs):=by
 obtain⟨d1,hrec1⟩:=Option.isSome_iff_exists.mp hrec1;obtain⟨d2,hrec2⟩:=Option.isSome_iff_exists.mp hrec2;refine zJ (n:=63) (k:=8) (x:="_law_script") (sp:=kA T1 T2) (ys:=[("with_unseen",c1,T1),("secret",c2,T2)]) hn (by decide) hdf ⟨rfl,by decide,by decide⟩ hY nl nt (fun y hy=>?_) (fun w y hy=>?_) (fun w mg fa h KX G hmg=>?_) fun H a ns hl hS hT=>⟨a,ns,rfl,hS,hl,.inl (hT (c1,T1) (Dm ..)),.inl (hT (c2,T2) (Dr _ (Dm ..))),fun _=>rfl⟩
 ·rcases DG.mp hy with rfl|hy
  ·exact⟨d1,hrec1⟩
  ·rw[Dj]at hy;subst hy;exact⟨d2,hrec2⟩
 ·rcases DG.mp hy with rfl|hy
  ·exact htab1 w
  ·rw[Dj]at hy;subst hy;exact htab2 w
 obtain⟨⟨C,T⟩,f,fd,FF,mf⟩:=F w mg h KX G;rw[hname,mf]at hmg;cases hmg
 refine⟨fd,fun s u=>?_,fun base kb nb LB=>C1 T FF nT kb nb (LB (c1,T1) (Dm ..)) (LB (c2,T2) (Dr _ (Dm ..)))⟩
 obtain⟨oc,od,kV,doc,pm,an,cdv,ct,osl,rfl,lk,hcd⟩:=FF.ex;exact .of_eq rfl
end K
open PySem PySem.W PyProof.Rows SB
noncomputable def SB.view:Program:={ PySem.Challenge.pw_sightbook_k31_secrets with main:={ PySem.Challenge.pw_sightbook_k31_secrets.main with body:=[0,2,3,4,5,7,8,9,10,11,12,13,14,15,16,18,19,21,22,23,24,26,27,28,29,30,31,32].filterMap fun i=>PySem.Challenge.pw_sightbook_k31_secrets.main.body[i]? } }
local macro_rules
 | `(tactic| o_head $H)=>`(tactic| refine holds_open (q:=SB.view) (loose:=[]) (Xt:=fun s=>xlAt SB.view [] s&&recOk (RowW.records (OpenRow.toRowW (OpenLaw.row PySem.Challenge.rw_sightbook_k31_secrets))) s) (XP:=XL SB.view []) (Yf:=Hook.obs $H) (Ya:=Hook.val $H) (YP:=Hook.says $H) (N:=4082) ?hl (Hook.of $H) (Hook.keeps $H) (fun s e=>xl_of s (Bool.and_eq_true_iff.mp e).1) XL.keeps (by rfl) (by rfl) (by rfl) (fun s e=>recFacts_of (Bool.and_eq_true_iff.mp e).2) (by rfl) (by first|assumption|decide +kernel) (by decide +kernel) ⟨rfl,rfl,rfl,rfl,rfl,by decide +kernel⟩ ?hw ?hc)
set_option maxRecDepth 100000 in
set_option maxHeartbeats 0 in
theorem PySem.Challenge.cw_sightbook_k31_secrets_holds : PySem.Challenge.rw_sightbook_k31_secrets.Holds := by
 w_on;o_law;k_head;(case hl=>(intro w;unfold openEnds fencedOpening topFrom;rw[Fast.te14082659384304107361,Fast.te10274390034422433532,Fast.te14289696077712309145,Fast.te14364793385576792824,Fast.te1435165496053646825,Fast.te4187177175401517315];kernel_rfl));(case hw=>w_witness2)
 k_fill
 refine K.walk (l:=PySem.Challenge.rw_sightbook_k31_secrets) (c1:=205) (T1:=203) (c2:=222) (T2:=220) (by decide) rfl rfl rfl (fun w h Y=>PySem.W.km_in_of Y) ?hnol ?hnt ?hrec1 ?hrec2 ?htab1 ?htab2 ?F
 case hnol=>
  intro w
  kernel_rfl
 case hnt=>
  intro w
  kernel_rfl
 case hrec1=>kernel_rfl
 case hrec2=>kernel_rfl
 case htab1=>
  intro w
  kernel_rfl
 case htab2=>
  intro w
  kernel_rfl
 case F=>
  intro w mg h KX G;refine' K.yf KX G ?zlen ?zall ?zrange ?zsorted ?zset ?zdict ?zlist ?zisinstance ?zint ?ztuple ?kLETTERS ?kMOST_LETTERS ?kMOST_ROOMS ?kMOST_MOVES ?aC ?pg ?hd ?po ?sa ?mk ?kc ?f1 ?f2 ?f3 ?f4 ?f5 ?tb1 ?tb2 (bP KX G ?a0 ?l0 ?b0 ?q0) (bP KX G ?a1 ?l1 ?b1 ?q1) (bP KX G ?a2 ?l2 ?b2 ?q2) (bP KX G ?a3 ?l3 ?b3 ?q3) (bP KX G ?a4 ?l4 ?b4 ?q4) (bP KX G ?a5 ?l5 ?b5 ?q5) (bP KX G ?a6 ?l6 ?b6 ?q6) (bP KX G ?a7 ?l7 ?b7 ?q7) (bP KX G ?a8 ?l8 ?b8 ?q8) (bP KX G ?a9 ?l9 ?b9 ?q9) (bP KX G ?a10 ?l10 ?b10 ?q10) (bP KX G ?a11 ?l11 ?b11 ?q11) (bP KX G ?a12 ?l12 ?b12 ?q12) (bP KX G ?a13 ?l13 ?b13 ?q13) (bP KX G ?a14 ?l14 ?b14 ?q14) (bP KX G ?a15 ?l15 ?b15 ?q15) (bP KX G ?a16 ?l16 ?b16 ?q16) (iP ?ma0 ?mi0 ?ml0 ?mb0 ?mq0) (iP ?ma1 ?mi1 ?ml1 ?mb1 ?mq1) (iP ?ma2 ?mi2 ?ml2 ?mb2 ?mq2) (iP ?ma3 ?mi3 ?ml3 ?mb3 ?mq3) (bP KX G ?aL ?lL ?bL ?qL)
  (case zlen=>k_is)
  (case zall=>k_is)
  (case zrange=>k_is)
  (case zsorted=>k_is)
  (case zset=>k_is)
  (case zdict=>k_is)
  (case zlist=>k_is)
  (case zisinstance=>k_is)
  (case zint=>k_is)
  (case ztuple=>k_is)
  (case kLETTERS=>k_is)
  (case kMOST_LETTERS=>k_is)
  (case kMOST_ROOMS=>k_is)
  (case kMOST_MOVES=>k_is)
  (case aC=>k_is)
  (case pg=>k_is)
  (case hd=>k_is)
  (case po=>k_is)
  (case sa=>k_is)
  (case mk=>k_is)
  (case kc=>k_is)
  (case f1=>k_is)
  (case f2=>k_is)
  (case f3=>k_is)
  (case f4=>k_is)
  (case f5=>k_is)
  (case tb1=>kernel_rfl)
  (case tb2=>kernel_rfl)
  (case a0=>k_is);(case l0=>k_is);(case b0=>k_is);(case q0=>k_is)
  (case a1=>k_is);(case l1=>k_is);(case b1=>k_is);(case q1=>k_is)
  (case a2=>k_is);(case l2=>k_is);(case b2=>k_is);(case q2=>k_is)
  (case a3=>k_is);(case l3=>k_is);(case b3=>k_is);(case q3=>k_is)
  (case a4=>k_is);(case l4=>k_is);(case b4=>k_is);(case q4=>k_is)
  (case a5=>k_is);(case l5=>k_is);(case b5=>k_is);(case q5=>k_is)
  (case a6=>k_is);(case l6=>k_is);(case b6=>k_is);(case q6=>k_is)
  (case a7=>k_is);(case l7=>k_is);(case b7=>k_is);(case q7=>k_is)
  (case a8=>k_is);(case l8=>k_is);(case b8=>k_is);(case q8=>k_is)
  (case a9=>k_is);(case l9=>k_is);(case b9=>k_is);(case q9=>k_is)
  (case a10=>k_is);(case l10=>k_is);(case b10=>k_is);(case q10=>k_is)
  (case a11=>k_is);(case l11=>k_is);(case b11=>k_is);(case q11=>k_is)
  (case a12=>k_is);(case l12=>k_is);(case b12=>k_is);(case q12=>k_is)
  (case a13=>k_is);(case l13=>k_is);(case b13=>k_is);(case q13=>k_is)
  (case a14=>k_is);(case l14=>k_is);(case b14=>k_is);(case q14=>k_is)
  (case a15=>k_is);(case l15=>k_is);(case b15=>k_is);(case q15=>k_is)
  (case a16=>k_is);(case l16=>k_is);(case b16=>k_is);(case q16=>k_is)
  (case ma0=>k_is);(case mi0=>k_is);(case ml0=>k_is);(case mb0=>k_is);(case mq0=>k_is)
  (case ma1=>k_is);(case mi1=>k_is);(case ml1=>k_is);(case mb1=>k_is);(case mq1=>k_is)
  (case ma2=>k_is);(case mi2=>k_is);(case ml2=>k_is);(case mb2=>k_is);(case mq2=>k_is)
  (case ma3=>k_is);(case mi3=>k_is);(case ml3=>k_is);(case mb3=>k_is);(case mq3=>k_is)
  (case aL=>k_is);(case lL=>k_is);(case bL=>k_is);(case qL=>k_is)
#print axioms PySem.Challenge.cw_sightbook_k31_secrets_holds
end
