import PyProof.Rows.All
import Wide.All
import OpenK.AllK
import Wide.FinOn
import Lean
import PyProof.EqAt
import PyProof.EqKinds
import PyProof.TupleCall
import KE.KTryMore
import PyProof.NsDelKeeps
import PyProof.EnumStmt
import KE.KRevIter
import PyProof.ListNew
import PyProof.Rows.SortRuns
import KE.KIntText
import PyProof.ListRange
import PyProof.Rows.Range3
import PyProof.Rows.TupDisplay
import KE.KSortTup
import PyProof.DictWalks
import PyProof.DictTruth
import KE.KSortKey
import KE.KLam
import PySem.Challenge.RW_sowring_k28_barred_refused
set_option linter.all false
set_option linter.defProp false
open List renaming getD_eq_getElem?_getD->Cb,length_map->Pb,mem_append->Nc,getElem?_eq_getElem->Yc,mem_of_getElem?->Zd,mem_cons->Vd,getElem?_eq_some_iff->Cd,getElem?_map->Dd,map_cons->Ed,mem_map->Nd,map_map->Sd,mem_append_right->Td,size_toArray->Ve,mem_append_left->Zf,append_assoc->Qf,getElem?_append_right->Lg,all_eq_true->Ah,length_take->Ch,mem_range->Dh,pairwise_append->Eh,getElem?_append_left->Lh,getElem?_eq_none->Bi,length_cons->Ci,mem_singleton->Di,take_append_drop->Oi,mem_cons_of_mem->Jj,getElem?_of_mem->Ej,getElem?_take->Fj,length_append->Gj,getElem?_drop->Rj,getElem?_set_self->Sj,getElem?_set_ne->Tk,map_congr_left->Xk,take_of_length_le->Yk,drop_eq_getElem_cons->Tl,mem_cons_self->Wl,ext_getElem?->Vn,lookup_cons->Qn,mem_filter->An,mem_of_mem_drop->Bn,mem_of_mem_take->Cn,map_append->Po,getElem?_range->Rq,append_nil->Rs,extract_eq_take_drop->Ss,getElem?_eq_none_iff->Ts,length_drop->Ws,nil_append->Xs,nodup_cons->Ys,pairwise_map->Zt,sum_cons->Jt,any_cons->Ou,cons_append->Pu,contains_iff_mem->Ru,drop_zero->Su,length_set->Tu,drop_eq_nil_of_le->Ez,find?_cons->Fz,getElem?_zip_eq_some->Hz,getElem_mem->Iz,length_nil->Kz,length_zip->Lz,pairwise_cons->Mz,perm_append_comm->Nz,getElem?_replicate->R5,length_filter_le->S5,map_id->T5,map_inj_right->W5,map_nil->X5,reverse_cons->Y5,drop_drop->SC,drop_of_length_le->TC,exists_cons_of_ne_nil->WC,find?_eq_none->XC,getElem?_cons_zero->YC,getElem?_take_of_lt->ZD,getElem_map->JD,getLastD_concat->VD,length_replicate->UD,mem_map_of_mem->QD,nodup_iff_pairwise_ne->AD,pairwise_iff_getElem->BD,range_succ->CD,singleton_append->DD,take_length->ED,zip_cons_cons->FD,map_const'->ZN,filterMap_cons->JN,getElem?_cons_succ->VN,getElem?_mapIdx->UN,length_range->QN,map_reverse->BN,mem_filterMap->CN,mem_or_eq_of_mem_set->DN,mem_reverse->EN,ne_nil_of_mem->GN,of_mem_zip->HN,set_append_right->IN,take_append_of_le_length->KN,take_sublist->LN,getElem?_replicate_of_lt->Zbj
open Nat renaming le_refl->Db,le_trans->Se,ne_of_lt->Jf,lt_of_lt_of_le->Mg,zero_le->Ng,lt_irrefl->Zl,zero_add->Jl,lt_of_le_of_lt->Sq,le_of_lt->Vt,le_succ->Wu,ne_of_gt->Oz,le_of_eq->Z6,not_lt->J6,sub_self->V6,lt_succ_of_lt->GD,lt_succ_self->HD,min_le_left->ID,pow_le_pow_left->MN,pow_le_pow_right->NN,pow_lt_pow_right->ON
open Int renaming toNat_natCast->Kg,emod_eq_of_lt->Pk,toNat_of_nonneg->Sk,emod_lt_of_pos->Nq,emod_nonneg->Oq,le_refl->Pq,zero_add->P5,add_emod_right->RC
open Array renaming length_toList->Oe,getElem?_toList->Ai,toList_map->Dz,toList_append->M5,toList_extract->N5,toList_inj->O5,getElem?_eq_none->NC,toList_push->OC,append_assoc->WM,getElem?_eq_getElem->XM,perm_iff_toList_perm->YM,toList_setIfInBounds->Zbi
open Option renaming toList->Pz,getD_some->U6,map_some->Q6,bind_some->LD,isSome_iff_exists->PN,isSome_map->RN,map_eq_some_iff->SN
open PySem renaming Addr->Ja,Value->Va,Shared->Ga,wpAny_bind->Ia,model->Na,wpAny->Ra,wpAny_pure->Ib,Stmt->Kb,World->Jc,Program->Bc,sizeLine->Cc,starEach->Tc,Around->Pd,wpAny_mono->Vf,mainGlobals->Tg,backTo->Fh,bootBuiltins->Gh,compareOp->Hj,sysModules->Ij,wpAny_holding->Tj,FuncData->Fk,relabel->En,wpAny_rule->Fn,binaryOp->Tq,wpAny_truthy_bool->Wq,codeAmong->Ut,sliceBounds->Xu,wpAny_Call_Name_kw->Yu,wpAny_passesOwn->Zv,assignEach->Rz,closureFor->Sz,foldedSetIterable->Tz,lookup_relabel_local->Xz,plainId_quiet->Yz,wpAny_attempt->Z0,wpAny_call->J0,wpAny_letGo->V0,wpAny_newList->U0,wpAny_updateSeq->Q0,behindInMarks->A6,wpAny_call_entry->B6,wpAny_execs_nil->C6,wpAny_newObj_type->D6,codeAny_builtin->MD,letOwnedTupleGo->ND,tupleKind_room_in1->OD,wpAny_fieldsOf->PD,wpAny_typeNameOfWhole_keyiter->RD,wpAny_typeNameOf_keyiter->SD,wpAny_assign_Name->TN,wpAny_dictEntries->WN,wpAny_isOneOf_keyiter->YN
open PyProof.Rows renaming Keyed->Aa,arrOf->Oa,SortSt->Sa,wpS_bind->Vb,wpS_pure->Bb,pendingOf->Qc,kindOf->Ic,seqObj->Fd,setArr->Cf,elem'->Sg,wpS_forRange->Fi,SortKind->Pi,failedOf->Vj,wpS_mono->Wj,wpS_get->Yl,setPending->Ro,wpS_modify->So,listUpdate_at->Wz,reverseSlice'->L5
open PySem.W renaming Frag->ZlR
noncomputable def Qa:=@if_neg
noncomputable def Da:=@if_pos
noncomputable def Eb:=@absurd
noncomputable def Fb:=@decide_eq_false
noncomputable def Hb:=@decide_eq_true
noncomputable def Ef:=@congrArg
noncomputable def Ei:=@of_decide_eq_true
noncomputable def Xl:=@dif_pos
abbrev LI0:=List Int
abbrev LI4:=Array Aa
abbrev LI3:=List Va
abbrev LI2:=List Ja
abbrev LI1:=List LI0
set_option Elab.async false
set_option genSizeOf false
set_option genSizeOfSpec false
set_option maxRecDepth 100000
namespace L2
open PySem PySem.Spec PyProof.Rows
noncomputable abbrev Sb:=Sum Int Str
noncomputable def Nw:Sb->Va->Bool
 |.inl k,v=>Value.isInt k v
 |.inr x,v=>Value.isStrOf x v
noncomputable def ZgW(w:Jc):Sb->Int
 |.inl k=>hashInt k
 |.inr x=>hashStr w x
theorem Pp:∀{k:Sb}{v:Va},Nw k v=true->(∃i t,k=Sum.inl i/\v=Value.int i t)\/(∃x t,k=Sum.inr x/\v=Value.str x t)
 |.inl i,v,h=>by
  obtain⟨t,e⟩:=Value.isInt_shape (k:=i) (v:=v) h;exact .inl ⟨i,t,rfl,e⟩
 |.inr x,v,h=>by
  obtain⟨t,e⟩:=Value.isStrOf_shape (x:=x) (v:=v) h;exact .inr ⟨x,t,rfl,e⟩
theorem ZgX(i:Int)(t:Tok):Nw (.inl i) (.int i t)=true:=by simp[Nw,Value.isInt]
theorem ZgY(x:Str)(t:Tok):Nw (.inr x) (.str x t)=true:=by simp[Nw,Value.isStrOf]
theorem Zha(a b:Int):decide ((Sum.inl a:Sb)=Sum.inl b)=(a==b):=by
 by_cases e:a=b
 ·subst e;simp
 ·have h:¬(Sum.inl a:Sb)=Sum.inl b:=fun q=>e (Sum.inl.inj q)
  rw[Fb h];exact(beq_eq_false_iff_ne.mpr e).symm
theorem Zhe(a b:Str):decide ((Sum.inr a:Sb)=Sum.inr b)=decide (a=b):=by
 by_cases e:a=b
 ·subst e;simp
 ·have h:¬(Sum.inr a:Sb)=Sum.inr b:=fun q=>e (Sum.inr.inj q)
  rw[Fb h,Fb e]
theorem Zhb(a:Int)(b:Str):decide ((Sum.inl a:Sb)=Sum.inr b)=false:=Fb (fun q=>nomatch q)
theorem Zhd(a:Str)(b:Int):decide ((Sum.inr a:Sb)=Sum.inl b)=false:=Fb (fun q=>nomatch q)
noncomputable def Uk(prog:Bc)(w:Jc):PySem.KeyKind prog w Sb where
 is:=Nw
 hash:=ZgW w
 inj:=fun v a b ha hb=>by
  rcases Pp ha with ⟨i,t,rfl,rfl⟩|⟨x,t,rfl,rfl⟩
  ·rcases Pp hb with ⟨j,u,rfl,e⟩|⟨y,u,rfl,e⟩
   ·injection e with e1 _;rw[e1]
   ·exact nomatch e
  ·rcases Pp hb with ⟨j,u,rfl,e⟩|⟨y,u,rfl,e⟩
   ·exact nomatch e
   ·injection e with e1 _;rw[e1]
 byValue:=fun k v h=>by
  rcases Pp h with ⟨i,t,rfl,rfl⟩|⟨x,t,rfl,rfl⟩<;>rfl
 pyHash:=fun hv h=>by
  rcases Pp hv with ⟨i,t,rfl,rfl⟩|⟨x,t,rfl,rfl⟩
  ·exact wpAny_pyHash_int h
  ·exact wpAny_pyHash_str h
 eqBool:=fun hu hv h=>by
  rcases Pp hu with ⟨i,t,rfl,rfl⟩|⟨x,t,rfl,rfl⟩
  ·rcases Pp hv with ⟨j,u,rfl,rfl⟩|⟨y,u,rfl,rfl⟩
   ·rw[Zha] at h;exact wpAny_eqBool_int h
   ·rw[Zhb] at h;exact SeqAt.EqAt.int_str i t y u _ _ _ _ h
  ·rcases Pp hv with ⟨j,u,rfl,rfl⟩|⟨y,u,rfl,rfl⟩
   ·rw[Zhd] at h;exact SeqAt.EqAt.str_int x t j u _ _ _ _ h
   ·rw[Zhe] at h;exact wpAny_eqBool_str h
 «strs»:=fun k x t v h=>by
  rcases Pp h with ⟨i,u,rfl,e⟩|⟨y,u,rfl,e⟩
  ·exact nomatch e
  ·injection e with e1 _
   subst e1;cases v<;>rfl
theorem Zib(prog:Bc)(w:Jc)(i:Int)(t:Tok):(Uk prog w).is (.inl i) (.int i t)=true:=ZgX i t
theorem Zic(prog:Bc)(w:Jc)(x:Str)(t:Tok):(Uk prog w).is (.inr x) (.str x t)=true:=ZgY x t
inductive V where
 |non|bl (b:Bool)|int (i:Int)|str (x:Str)|byt (b:Array UInt8)|flt (b:UInt64)|ref (a:Ja)|ty (n:String)
 deriving DecidableEq
noncomputable def Ob:V->Va->Prop
 |.non,u=>u=Value.none
 |.bl b,u=>u=Value.bool b
 |.int i,u=>∃t,u=Value.int i t
 |.str x,u=>∃t,u=Value.str x t
 |.byt b,u=>∃t,u=Value.bytes b t
 |.flt b,u=>∃t,u=Value.float b t
 |.ref a,u=>u=Value.ref a
 |.ty n,u=>u=Value.type n
noncomputable abbrev Ab:List V->LI3->Prop:=Paired Ob
theorem Ab.length(r:Ab xs us): xs.length=us.length:=Paired.length r
theorem Ab.get:∀{xs:List V}{us:LI3}{i:Nat}{x:V},Ab xs us->xs[i]?=some x->∃u,us[i]?=some u/\Ob x u
 |_,_,_,_,.nil,e=>by simp at e
 |_,_,0,_,.cons r _,e=>by simp at e;subst e;exact⟨_,rfl,r⟩
 |_,_,i+1,x,.cons _ t,e=>by
  obtain⟨u,h1,h2⟩:=Ab.get (i:=i) (x:=x) t (by simpa using e);exact⟨u,by simpa using h1,h2⟩
theorem Ab.set(r:Ob x u): ∀{xs:List V}{us:LI3} (i:Nat),Ab xs us->Ab (xs.set i x) (us.set i u)
 |_,_,_,.nil=>.nil
 |_,_,0,.cons _ t=>.cons r t
 |_,_,i+1,.cons q t=>.cons q (Ab.set r i t)
theorem Ab.append:∀{xs ys:List V}{us ws:LI3},Ab xs us->Ab ys ws->Ab (xs++ys) (us++ws)
 |_,_,_,_,.nil,s=>s
 |_,_,_,_,.cons r t,s=>.cons r (Ab.append t s)
theorem Ab.take:∀{xs:List V}{us:LI3} (n:Nat),Ab xs us->Ab (xs.take n) (us.take n)
 |_,_,0,_=>.nil
 |_,_,_+1,.nil=>.nil
 |_,_,n+1,.cons r t=>.cons r (Ab.take n t)
theorem Ab.drop:∀{xs:List V}{us:LI3} (n:Nat),Ab xs us->Ab (xs.drop n) (us.drop n)
 |_,_,0,r=>r
 |_,_,_+1,.nil=>.nil
 |_,_,n+1,.cons _ t=>Ab.drop n t
noncomputable def Ln:Option V->Option Va->Prop
 |some v,some u=>Ob v u
 |none,none=>True
 |_,_=>False
def KV{κ:Type}:List (κ×V)->List (κ×Va)->Prop:=Paired fun(p:κ×V) (q:κ×Va)=>p.1=q.1/\Ob p.2 q.2
noncomputable def kV:Sb->V
 |.inl i=>.int i
 |.inr x=>.str x
inductive HO where
  |lst (xs:List V)
  |tup (xs:List V)
  |dK (Ub:List (Sb×V))|dT (Ub:List (List Sb×V))
  |set (S:Int->Bool) (n:Nat)
  |ins (C dx:Ja) (fs:List (Str×V))
  |own (x:Ja)
  |xd (fs:List (Str×V))
  |met (f x:Ja)
  |rng (lo hi:Int)
  |frz (o:Obj) (u:HO)
  |tbl (ps:Array Va) (q:Str)
  |ext (φ:Heap->Prop)
noncomputable abbrev Hp:=Ja->Option HO
noncomputable def ZbM:HO->Prop
 |.tup _=>True
 |.frz _ (.own _)=>True
 |_=>False
noncomputable abbrev TF:={ u:HO // ZbM u }
def XD(q:Str)(o:Obj):Prop:=∃vs t,o.data=.fields vs/\vs[1]?=some (.str q t)
noncomputable def upd(H:Hp)(a:Ja)(o:HO):Hp:=fun b=>if b=a then some o else H b
theorem Uf: upd H a o a=some o:=by unfold upd;rw[Da rfl]
theorem Rb(h:b≠a): upd H a o b=H b:=by unfold upd;rw[Qa h]
theorem QJ{H:Hp}{a b:Ja}{o u:HO}(h:H a=some o)(h':H b=some u)(d:o≠u):a≠b:=by
 intro e;subst e;rw[h] at h';exact d (Option.some.inj h')
theorem Qg{H:Hp}{a b:Ja}{o:HO}(h:H a=some o)(h':H b=none):a≠b:=by
 intro e;subst e;rw[h] at h';cases h'
section
variable (P:Bc) (w:Jc)
noncomputable def Wf(H:Hp)(h:Heap)(a:Ja):HO->Prop
 |.lst xs=>xs.length<=Cc/\∃(its:LI3) (n:Nat),Ab xs its/\h.get? a=some { cls:=.type "list",data:=.seq its.toArray n }
 |.tup xs=>xs.length<=Cc/\∃its:LI3,Ab xs its/\IsTup h a its.toArray
 |.dK Ub=>Ub.length<=Cc/\(a==Ij)=false/\∃vs,KV Ub vs/\h.DictOf (Uk P w) a vs
 |.dT Ub=>Ub.length<=Cc/\(a==Ij)=false/\∃xs:List (List Sb×Ja×Va),
   Paired (fun(p:List Sb×V) (q:List Sb×Ja×Va)=>p.1=q.1/\H q.2.1=some (.tup (p.1.map kV))/\Ob p.2 q.2.2) Ub xs /\
   ∃o es ep,h.get? a=some o/\o.ExactDict/\o.data=.dict es ep/\es.toList=xs.map (entryOfKey (tupleKind (Uk P w)))/\(xs.map (·.1)).Nodup
 |.set S n=>h.SetOf (intKind P w) a S n
 |.ins C dx fs=>H dx=some (.own a)/\fs.length<=1000/\dx≠a/\h.get? a=some (PySem.W.instObj C dx) /\
   ∃mA,h.Ns1 dx mA/\(∀f,Ln (fs.lookup f) (mA f))/\PySem.Within mA (fs.map (·.1))
 |.own _=>∃o,h.get? a=some o
 |.xd fs=>∃mA,h.Ns1 a mA/\∀f,Ln (fs.lookup f) (mA f)
 |.rng lo hi=>∃t u v,h.get? a=some { cls:=.type "range",data:=.fields #[.int lo t,.int hi u,.int 1 v] }
 |.frz o u=>h.get? a=some o/\Wf H h a u
 |.tbl ps q=>∃more:Array Va,h.get? a=some { cls:=.none,data:=.fields (ps++more) }/\TriplesOk (ps++more).toList/\∀pos c',Ut pos (ps++more).toList=some c'->∃c o,c'=.ref c/\H c=some (.frz o (.own c))/\XD q o
 |.met f x=>h.get? a=some (PySem.W.methodObj (.ref f) (.ref x))
 |.ext φ=>φ h/\(∃o,h.get? a=some o)/\∀h1 h2:Heap,φ h1->(∀o,h1.get? a=some o->h2.get? a=some o)->φ h2
def He(H:Hp)(h:Heap):Prop:=∀a o,H a=some o->Wf P w H h a o
end
section
variable {P:Bc}{w:Jc}{H H':Hp}{h h':Heap}{a:Ja}{o:HO}
theorem Wf.lt(x:Wf P w H h a o):a<h.objs.size:=by
 cases o with
 |lst xs=>obtain⟨_,_,_,_,e⟩:=x;exact Heap.lt_size e
 |tup xs=>obtain⟨_,_,_,p⟩:=x;exact p.lt
 |dK Ub=>obtain⟨_,_,_,_,o,_,_,e,_⟩:=x;exact Heap.lt_size e
 |dT Ub=>obtain⟨_,_,_,_,o,_,_,e,_⟩:=x;exact Heap.lt_size e
 |set S n=>obtain⟨o,_,_,_,e,_⟩:=x;exact Heap.lt_size e
 |ins C dx fs=>obtain⟨_,_,_,e,_⟩:=x;exact Heap.lt_size e
 |own y=>obtain⟨_,e⟩:=x;exact Heap.lt_size e
 |xd fs=>obtain⟨_,⟨_,_,_,e,_⟩,_⟩:=x;exact Heap.lt_size e
 |rng lo hi=>obtain⟨_,_,_,e⟩:=x;exact Heap.lt_size e
 |frz ob u=>obtain⟨e,_⟩:=x;exact Heap.lt_size e
 |tbl ps q=>obtain⟨_,e,_⟩:=x;exact Heap.lt_size e
 |met f y=>exact Heap.lt_size (show h.get? a=some _ from x)
 |ext φ=>obtain⟨_,⟨_,e⟩,_⟩:=x;exact Heap.lt_size e
theorem Paired.mapP: ∀{l₁:List α}{l₂:List β},Paired F l₁ l₂->(∀a b,F a b->G a b)->Paired G l₁ l₂
 |_,_,.nil,_=>.nil
 |_,_,.cons r t,f=>.cons (f _ _ r) (Paired.mapP t f)
theorem Wf.stay(x:Wf P w H h a o)(k:∀b u,(b=a\/H b=some (.own a))->h.get? b=some u->h'.get? b=some u)(ho:∀b,H b=some (.own a)->H' b=some (.own a))(ht:∀b (xs:TF),H b=some xs.1->H' b=some xs.1):Wf P w H' h' a o:=by
 induction o with
 |lst xs=>obtain⟨z,its,n,r,e⟩:=x;exact⟨z,its,n,r,k _ _ (.inl rfl) e⟩
 |tup xs=>obtain⟨z,its,r,ob,e,c⟩:=x;exact⟨z,its,r,ob,k _ _ (.inl rfl) e,c⟩
 |dK Ub=>obtain⟨z,y,vs,r,ob,es,ep,e,c⟩:=x;exact⟨z,y,vs,r,ob,es,ep,k _ _ (.inl rfl) e,c⟩
 |dT Ub =>
  obtain⟨z,y,xs,r,ob,es,ep,e,c⟩:=x;exact⟨z,y,xs,Paired.mapP r fun p q z=>⟨z.1,ht _ ⟨.tup _,trivial⟩ z.2.1,z.2.2⟩,ob,es,ep,k _ _ (.inl rfl) e,c⟩
 |set S n=>obtain⟨ob,es,ep,t,e,c⟩:=x;exact⟨ob,es,ep,t,k _ _ (.inl rfl) e,c⟩
 |ins C dx fs =>
  obtain⟨d,z,ne,e,mA,⟨od,es,ep,e2,c⟩,r⟩:=x;exact⟨ho _ d,z,ne,k _ _ (.inl rfl) e,mA,⟨od,es,ep,k _ _ (.inr d) e2,c⟩,r⟩
 |own y=>obtain⟨ob,e⟩:=x;exact⟨ob,k _ _ (.inl rfl) e⟩
 |xd fs=>obtain⟨mA,⟨od,es,ep,e,c⟩,r⟩:=x;exact⟨mA,⟨od,es,ep,k _ _ (.inl rfl) e,c⟩,r⟩
 |rng lo hi=>obtain⟨t,u,v,e⟩:=x;exact⟨t,u,v,k _ _ (.inl rfl) e⟩
 |frz ob u ih=>obtain⟨e,q⟩:=x;exact⟨k _ _ (.inl rfl) e,ih q⟩
 |tbl ps q =>
  obtain⟨more,e,t,cs⟩:=x;refine⟨more,k a _ (.inl rfl) e,t,fun pos c' h1=>?_⟩;obtain⟨c,o2,e1,e2,e3⟩:=cs pos c' h1;exact⟨c,o2,e1,ht _ ⟨.frz _ (.own _),trivial⟩ e2,e3⟩
 |met f y =>
  have e:h.get? a=some (PySem.W.methodObj (.ref f) (.ref y)):=x;show h'.get? a=some (PySem.W.methodObj (.ref f) (.ref y));exact k a _ (.inl rfl) e
 |ext φ=>obtain⟨p,⟨o,e⟩,st⟩:=x;exact⟨st _ _ p fun o q=>k _ _ (.inl rfl) q,⟨o,k _ _ (.inl rfl) e⟩,st⟩
theorem He.lt(x:He P w H h)(e:H a=some o):a<h.objs.size:=(x a o e).lt
theorem He.fresh(x:He P w H h)(e:h.objs.size<=a):H a=none:=by
 cases q:H a with
 |none=>rfl
 |some u=>exact Eb (Mg (x.lt q) e) (Zl _)
theorem He.kept(x:He P w H h)(k:∀b u,h.get? b=some u->h'.get? b=some u):He P w H h':=fun a o e =>
 (x a o e).stay (fun b u _ q=>k b u q) (fun _ q=>q) fun _ _ q=>q
theorem He.laid(x:He P w H h)(k:∀b u,h.get? b=some u->h'.get? b=some u)(hp:h.objs.size<=a)(new:Wf P w (upd H a o) h' a o):He P w (upd H a o) h':=fun b u e=>by
 have hn:=x.fresh hp;by_cases hb:b=a
 ·subst hb;rw[Uf] at e;cases e;exact new
 ·rw[Rb hb] at e
  exact(x b u e).stay (fun c v _ q=>k c v q) (fun c q=>by rw[Rb (Qg q hn)];exact q) fun c xs q=>by rw[Rb (Qg q hn)];exact q
end
def Rd(H:Hp)(a:Ja)(u:HO):Prop:=H a=some u\/∃o,H a=some (.frz o u)
theorem Rd.ok(r:Rd H a u)(x:He P w H h): Wf P w H h a u:=by
 rcases r with r|⟨o,r⟩
 ·exact x a u r
 ·obtain⟨_,q⟩:=x a _ r
  exact q
noncomputable def Y0:Option HO->Prop
 |some (.lst _)=>True
 |some (.dK _)=>True
 |some (.dT _)=>True
 |some (.set _ _)=>True
 |some (.ins _ _ _)=>True
 |some (.ext _)=>True
 |_=>False
section
variable {P:Bc}{w:Jc}{H:Hp}{h h':Heap}{x e:Ja}{o':HO}
theorem He.write(ok:He P w H h)(mu:Y0 (H x))(he:e=x\/H e=some (.own x))(k:∀b u,b≠e->h.get? b=some u->h'.get? b=some u)(heo:∃u,h'.get? e=some u)(new:Wf P w (upd H x o') h' x o'):He P w (upd H x o') h':=fun b u q=>by
 have nown:∀c y,H c=some (.own y)->c≠x:=fun c y r z=>by subst z;rw[r] at mu;exact mu
 have ntup:∀c (xs:TF),H c=some xs.1->c≠x:=fun c xs r z=>by
  subst z;rw[r] at mu;obtain⟨u,hu⟩:=xs;cases u<;>first|exact mu.elim|exact hu.elim
 by_cases hb:b=x
 ·subst hb;rw[Uf] at q;cases q;exact new
 ·rw[Rb hb] at q
  by_cases hbe:b=e
  ·have q':H b=some (.own x):=by
    rcases he with z|z
    ·exact Eb (hbe.trans z) hb
    ·rw[hbe];exact z
   rw[q] at q';cases q';obtain⟨v,hv⟩:=heo;exact⟨v,by rw[hbe];exact hv⟩
  ·refine(ok b u q).stay (fun c v hc r=>k c v ?_ r) (fun c r=>by rw[Rb (nown c b r)];exact r) fun c xs r=>by rw[Rb (ntup c xs r)];exact r
   rcases hc with rfl|hc
   ·exact hbe
   ·rintro rfl
    rcases he with z|z
    ·exact nown c b hc z
    ·rw[hc] at z;cases z;exact hb rfl
end
structure Un(fs ex:LI2)(H H':Hp)(h h':Heap):Prop where
 keep:∀b o,h.get? b=some o->H b=none->b ∉ fs->b ∉ ex->h'.get? b=some o
 slot:∀b o,h.get? b=some o->H b=none->b∈fs->b ∉ ex->∃sl,h'.get? b=some { o with slots:=sl }
 free:∀b o,h.get? b=some o->H b=none->b ∉ ex->H' b=none
 there:∀b o,h.get? b=some o->b ∉ ex->∃o',h'.get? b=some o'
 tups:∀b xs,H b=some (.tup xs)->H' b=some (.tup xs)
 frzs:∀b o u,H b=some (.frz o u)->H' b=some (.frz o u)
 tbls:∀b ps q,H b=some (.tbl ps q)->H' b=some (.tbl ps q)
section
variable {fs ex:LI2}{H H1:Hp}{h h1 h':Heap}{a x e:Ja}{o:HO}
theorem Un.any(u:Un fs ex H H1 h h1)(q:h.get? b=some ob)(n:H b=none)(hx:b ∉ ex): ∃sl,h1.get? b=some { ob with slots:=sl }:=by
 by_cases hb:b∈fs
 ·exact u.slot b ob q n hb hx
 ·exact⟨ob.slots,u.keep b ob q n hb hx⟩
theorem Un.kept(k:∀b u,h.get? b=some u->h'.get? b=some u):Un fs ex H H h h':=
 ⟨fun b ob q _ _ _=>k b ob q,fun b ob q _ _ _=>⟨ob.slots,k b ob q⟩,fun _ _ _ n _=>n,fun b ob q _=>⟨ob,k b ob q⟩,fun _ _ q=>q,fun _ _ _ q=>q,fun _ _ _ q=>q⟩
theorem Un.refl:Un fs ex H H h h:=Un.kept fun _ _ q=>q
theorem Un.laid(k:∀b u,h.get? b=some u->h'.get? b=some u)(hp:h.objs.size<=a)(hn:H a=none):Un fs ex H (upd H a o) h h' where
 keep:=fun b u q _ _ _=>k b u q
 slot:=fun b u q _ _ _=>⟨u.slots,k b u q⟩
 free:=fun b u q n _=>by rw[Rb (Jf (Mg (Heap.lt_size q) hp))];exact n
 there:=fun b u q _=>⟨u,k b u q⟩
 tups:=fun b xs q=>by rw[Rb (Qg q hn)];exact q
 frzs:=fun b u xs q=>by rw[Rb (Qg q hn)];exact q
 tbls:=fun b ps u q=>by rw[Rb (Qg q hn)];exact q
theorem Un.write(mu:Y0 (H x))(he:e=x\/H e=some (.own x))(k:∀b u,b≠e->h.get? b=some u->h'.get? b=some u)(heo:∃u,h'.get? e=some u):Un fs ex H (upd H x o) h h':=by
 have hx:∀b,H b=none->b≠x:=fun b n z=>by subst z;rw[n] at mu;exact mu
 have hb:∀b,H b=none->b≠e:=fun b n z=>by
  subst z;rcases he with r|r
  ·exact hx b n r
  ·rw[n] at r;cases r
 have hm:∀b u,H b=some u->¬Y0 (some u)->b≠x:=fun b u q nm z=>by subst z;rw[q] at mu;exact nm mu
 refine⟨fun b u q n _ _=>k b u (hb b n) q,fun b u q n _ _=>⟨u.slots,k b u (hb b n) q⟩,fun b u q n _=>by rw[Rb (hx b n)];exact n,fun b u q _=>?_,
  fun b xs q=>by rw[Rb (hm b _ q fun z=>z)];exact q,fun b u xs q=>by rw[Rb (hm b _ q fun z=>z)];exact q,fun b ps u q=>by rw[Rb (hm b _ q fun z=>z)];exact q⟩
 by_cases hbe:b=e
 ·subst hbe;exact heo
 ·exact⟨u,k b u hbe q⟩
end
noncomputable def Jz(h:Heap)(H:Hp):LI2:=(List.range h.objs.size).filter fun a=>(H a).isSome
noncomputable def Mp(h:Heap)(H:Hp):Heap:=PySem.W.hideAll h (Jz h H)
theorem Zg2(h:Heap)(H:Hp):(Mp h H).objs.size=h.objs.size:=PySem.W.hideAll_size _ _
theorem Zg1(e:h.get? b=some o)(n:H b=none): (Mp h H).get? b=some o:=
 PySem.W.hideAll_get _ e fun hm=>by
  have q:(H b).isSome=true:=(An.mp hm).2;rw[n] at q;simp at q
theorem Ziy(e:(Mp h H).get? b=some o): h.get? b=some o/\H b=none:=by
 have e':h.get? b=some o:=PySem.W.of_hideAll (Jz h H) e;refine⟨e', ?_⟩;cases q:H b with
 |none=>rfl
 |some x =>
  have hm:b∈Jz h H:=An.mpr ⟨Dh.mpr (Heap.lt_size e'),by simp[q]⟩;have z:(Mp h H).get? b=none:=PySem.W.hideAll_none (Jz h H) hm;rw[z] at e;cases e
noncomputable def ZbX(g h:Heap)(L:Ja):List (Ja×Obj):=(List.range h.objs.size).filterMap fun a=>if a=L\/(g.get? a).isSome=true then none else (h.get? a).map fun o=>(a,o)
noncomputable def Nl(g h:Heap)(L d:Ja):List (Ja×Obj):=(ZbX g h L).filter fun p=>decide (p.1≠d)
def TD(mg:Str->Option Va)(h:Heap):Prop:=∃bm o,mg "__builtins__"=some (.ref bm)/\bm≠builtinsNs/\h.get? bm=some o/\o.cls=.type "module"/\o.dict=some builtinsNs/\o.data=.plain
structure Mod(K:ZlR)(mg:Str->Option Va)(base:Heap):Prop where
 kin:K.In base
 glob:base.Ns Tg mg
 blt:∃mb,base.Ns builtinsNs mb/\∀x:Str,x ≠ "__name__"->mb x=Gh x
 nolimit:base.NoLimit
 bmod:TD mg base
structure Cx where
 prog:Bc
 w:Jc
 K:ZlR
 mg:Str->Option Va
 base:Heap
 A:Pd
 N:List Str
 s₀:Ga
 H₀:Hp
 env:Env
 outer:List Env
 stack:List Env
 ex:LI2
 fn:Str->Bool
 calm:Bool
 pn:List (Ja×Obj)
 xe:Va->Ga->Prop
noncomputable def Pe(l:List Env):LI2:=l.filterMap (·.frame)
noncomputable abbrev Cx.fs(X:Cx):LI2:=Pe X.outer
def V1(sc:Scope)(x:Str):Prop:=sc.names.lookup x=some .local\/sc.names.lookup x=some .cell\/sc.names.lookup x=some .free
def Mt(sc:Scope)(x:Str):Prop:=sc.names.lookup x=some .local\/sc.names.lookup x=some .cell
def RO(env:Env)(h:Heap)(m:Str->Option Va)(x:Str)(u:Va):Prop:=
 (env.kindOf x=some .local/\m x=some u)\/((env.kindOf x=some .cell\/env.kindOf x=some .free)/\∃c,env.cells.lookup x=some c/\h.IsCell c (some u))
noncomputable def Uj(K:ZlR)(f:Ja):Option (Ja×Ja):=match K.lookup f with
 |some ⟨_,_,.func fd,_⟩=>if fd.name = "ends_first" then (match fd.code with
   |.ref c=>(match K.lookup c with
    |some ⟨_,_,.fields vs,_⟩=>(match (vs[11]?:Option Va) with
     |some (.ref P)=>if PySem.W.codeHdIn K c P=true then some (c,P) else none
     |_=>none)
    |_=>none)
   |_=>none) else none
 |_=>none
def UP(K:ZlR)(H:Hp):Prop:=∀f c P,Uj K f=some (c,P)->H P=some (.tbl #[] "ends_first.<locals>.<lambda>")
structure Cx.Ok(X:Cx):Prop where
 mod:Mod X.K X.mg X.base
 kind:X.env.scope.kind=.function
 glob:X.env.globals=Tg
 blt:X.env.builtins=builtinsNs
 above:X.s₀.heap.objs.size<=X.env.locals
 inj:∀x y c,X.env.cells.lookup x=some c->X.env.cells.lookup y=some c->x=y
 has:∀x,(X.env.kindOf x=some .cell\/X.env.kindOf x=some .free)->∃c,X.env.cells.lookup x=some c
 cab:∀x c,X.fn x=true->X.env.cells.lookup x=some c->X.s₀.heap.objs.size<=c
 hd:X.calm=true->X.A.handled=none
 frames:X.A.frames=some X.stack
 stk:X.stack=X.outer\/(X.stack=X.env::X.outer/\X.env.frame=some X.env.locals)
 exf:∀b∈X.ex,b≠X.env.locals/\∀x c,X.env.cells.lookup x=some c->c≠b
 bs:∀b o,X.base.get? b=some o->X.s₀.heap.get? b=some o/\X.H₀ b=none
 bsz:X.base.objs.size<=X.s₀.heap.objs.size
 noex:∀b o,X.base.get? b=some o->b ∉ X.ex
 exfs:∀b∈X.ex,b ∉ X.fs
 funs:X.s₀.heap.FunFrames X.base X.outer
 frf:∀b∈X.fs,X.H₀ b=none
 tab:UP X.K X.H₀
structure Ca(X:Cx)(Za:List (Ja×Obj))(σ:List (Option V))(H:Hp)(s:Ga):Prop where
 ok:X.Ok
 os:s.os=X.s₀.os
 bare:AllBare s.gens
 base:Un X.fs X.ex X.H₀ H X.s₀.heap s.heap
 loc:∃m,s.heap.Ns X.env.locals m/\∀(i:Nat) (x:Str) (v:V),X.N[i]?=some x->σ[i]?=some (some v)->V1 X.env.scope x->∃u,Ob v u/\RO X.env s.heap m x u
 cell:∀x c,X.env.cells.lookup x=some c->∃v,s.heap.IsCell c v
 free:H X.env.locals=none
 freeC:∀x c,X.env.cells.lookup x=some c->H c=none
 pin:∀p∈X.pn++Za,s.heap.get? p.1=some p.2/\H p.1=none/\p.1≠X.env.locals/\p.1 ∉ X.fs/\∀v,p.2.data≠.cell v
 hok:He X.prog X.w H s.heap
 len:σ.length=X.N.length
section
variable {X:Cx}{Za:List (Ja×Obj)}{σ:List (Option V)}{H H':Hp}{s:Ga}{h':Heap}
theorem Cx.Ok.nofr(ok:X.Ok)(e:X.base.get? b=some o): b ∉ X.fs:=fun hb=>by
 have:=(ok.funs.mem hb).1;rw[e] at this;cases this
theorem Ca.bs(I:Ca X Za σ H s):∀b o,X.base.get? b=some o->s.heap.get? b=some o/\H b=none:=fun b o e =>
 ⟨I.base.keep b o (I.ok.bs b o e).1 (I.ok.bs b o e).2 (I.ok.nofr e) (I.ok.noex b o e),I.base.free b o (I.ok.bs b o e).1 (I.ok.bs b o e).2 (I.ok.noex b o e)⟩
theorem Ca.bk(I:Ca X Za σ H s):∀b o,X.base.get? b=some o->s.heap.get? b=some o:=fun b o e=>(I.bs b o e).1
theorem Ca.mod(I:Ca X Za σ H s):Mod X.K X.mg X.base:=I.ok.mod
theorem Ca.kIn(I:Ca X Za σ H s):X.K.In s.heap:=I.ok.mod.kin.keeps I.bk
theorem Ca.nolimit(I:Ca X Za σ H s):s.heap.NoLimit:=I.ok.mod.nolimit.keeps I.bk
theorem Ca.lt(I:Ca X Za σ H s):X.env.locals<s.heap.objs.size:=let ⟨_,hn,_⟩:=I.loc;hn.lt
theorem Ca.sz(I:Ca X Za σ H s):X.s₀.heap.objs.size<=s.heap.objs.size:=Se I.ok.above (Vt I.lt)
theorem Ca.nofs(I:Ca X Za σ H s)(h:s.heap.objs.size<=a): a ∉ X.fs:=fun hb=>by
 obtain⟨_,o,ho,_⟩:=I.ok.funs.mem hb;exact Eb (Mg (Heap.lt_size ho) (Se I.sz h)) (Zl _)
theorem Ca.cne(I:Ca X Za σ H s):∀x c,X.env.cells.lookup x=some c->c≠X.env.locals:=fun x c e z=>by
 obtain⟨v,o,ho,hd⟩:=I.cell x c e;obtain⟨m,⟨o',es,ep,ho',hd',_⟩,_⟩:=I.loc;rw[z,ho'] at ho;cases ho;rw[hd'] at hd;cases hd
theorem Ca.funs(I:Ca X Za σ H s):s.heap.FunFrames X.base X.outer:=by
 have all:∀(l:List Env),(∀b∈Pe l,b∈X.fs)->X.s₀.heap.FunFrames X.base l->s.heap.FunFrames X.base l:=by
  intro l
  induction l with
  |nil=>intro _ _;trivial
  |cons env r ih =>
   intro hs hl;obtain⟨hk,⟨L,o,hf,hn,ho,hd⟩,hr⟩:=hl;have hL:L∈X.fs:=hs L (by unfold Pe;rw[JN,hf];exact Wl);obtain⟨sl,e⟩:=I.base.slot L o ho (I.ok.frf L hL) hL fun z=>I.ok.exfs L z hL;exact⟨hk,⟨L,_,hf,hn,e,hd⟩,ih (fun b hb=>hs b (by unfold Pe;rw[JN,hf];exact Jj _ hb)) hr⟩
 exact all X.outer (fun _ hb=>hb) I.ok.funs
theorem Ca.stack(I:Ca X Za σ H s):s.heap.FunFrames X.base X.stack:=by
 rcases I.ok.stk with e|⟨e,hf⟩
 ·rw[e];exact I.funs
 ·rw[e]
  obtain⟨m,hn,_⟩:=I.loc;refine .cons (by rw[I.ok.kind];decide) hf hn ?_ I.funs;exact Heap.get?_none_of_le (Se I.ok.bsz I.ok.above)
theorem Ca.stkSub(I:Ca X Za σ H s):∀b∈Pe X.stack,b∈X.env.locals::X.fs:=fun b hb=>by
 rcases I.ok.stk with e|⟨e,hf⟩
 ·rw[e] at hb;exact Jj _ hb
 ·rw[e] at hb
  unfold Pe at hb;rw[JN,hf] at hb;exact hb
theorem Ca.stkFree(I:Ca X Za σ H s):∀b∈Pe X.stack,H b=none:=fun b hb=>by
 rcases Vd.mp (I.stkSub b hb) with e|hb
 ·rw[e];exact I.free
 ·obtain⟨_,o,ho,_⟩:=I.ok.funs.mem hb
  exact I.base.free b o ho (I.ok.frf b hb) fun z=>I.ok.exfs b z hb
theorem Ca.step{g':Array GenState}{t':Nat}{d':Drawn}{ch:LI2}(I:Ca X Za σ H s)(hch:∀b∈ch,(b∈X.ex\/X.s₀.heap.objs.size<=b)/\b≠X.env.locals/\(∀x c,X.env.cells.lookup x=some c->c≠b)/\∀p∈X.pn++Za,p.1≠b)(keep:∀b o,b≠X.env.locals->b ∉ X.fs->b ∉ ch->s.heap.get? b=some o->H b=none->h'.get? b=some o)(slot:∀b o,b≠X.env.locals->b∈X.fs->b ∉ ch->s.heap.get? b=some o->H b=none->∃sl,h'.get? b=some { o with slots:=sl })(free:∀b o,b ∉ ch->s.heap.get? b=some o->H b=none->H' b=none)(there:∀b o,b ∉ ch->s.heap.get? b=some o->∃o',h'.get? b=some o')(tups:∀b xs,H b=some (.tup xs)->H' b=some (.tup xs))(frzs:∀b o u,H b=some (.frz o u)->H' b=some (.frz o u))(tbls:∀b ps q,H b=some (.tbl ps q)->H' b=some (.tbl ps q))(ns:∀m,s.heap.Ns X.env.locals m->h'.Ns X.env.locals m)(hok:He X.prog X.w H' h')(hg:AllBare g') :
  Ca X Za σ H' { s with heap:=h',gens:=g',drawn:=d',toks:=t' }:=by
 have neL:∀b o,X.s₀.heap.get? b=some o->b≠X.env.locals:=fun b o e=>Jf (Mg (Heap.lt_size e) I.ok.above);have neC:∀b o,X.s₀.heap.get? b=some o->b ∉ X.ex->b ∉ ch:=fun b o e hx hb=>by
  rcases (hch b hb).1 with z|z
  ·exact hx z
  ·exact Eb (Mg (Heap.lt_size e) z) (Zl _)
 have cellK:∀x c,X.env.cells.lookup x=some c->∀v,s.heap.IsCell c v->h'.IsCell c v:=fun x c e v ⟨o,ho,hd⟩=>by
  have nch:c ∉ ch:=fun z=>(hch c z).2.2.1 x c e rfl;by_cases hc:c∈X.fs
  ·obtain⟨sl,q⟩:=slot c o (I.cne x c e) hc nch ho (I.freeC x c e)
   exact⟨_,q,hd⟩
  ·exact⟨o,keep c o (I.cne x c e) hc nch ho (I.freeC x c e),hd⟩
 refine⟨I.ok,I.os,hg,⟨fun b o e n hb hx=>?_,fun b o e n hb hx=>?_,fun b o e n hx=>?_,fun b o e hx=>?_,fun b xs e=>tups b xs (I.base.tups b xs e),fun b o xs e=>frzs b o xs (I.base.frzs b o xs e),fun b ps u e=>tbls b ps u (I.base.tbls b ps u e)⟩, ?_,fun x c e=>?_, ?_,fun x c e=>?_,fun p hp=>?_,hok,I.len⟩
 ·exact keep b o (neL b o e) hb (neC b o e hx) (I.base.keep b o e n hb hx) (I.base.free b o e n hx)
 ·obtain⟨sl,e1⟩:=I.base.slot b o e n hb hx
  obtain⟨sl',e2⟩:=slot b _ (neL b o e) hb (neC b o e hx) e1 (I.base.free b o e n hx);exact⟨sl',e2⟩
 ·obtain⟨o',e1⟩:=I.base.there b o e hx
  exact free b o' (neC b o e hx) e1 (I.base.free b o e n hx)
 ·obtain⟨o',e1⟩:=I.base.there b o e hx
  exact there b o' (neC b o e hx) e1
 ·obtain⟨m,hn,hl⟩:=I.loc
  refine⟨m,ns m hn,fun i x v e1 e2 e3=>?_⟩;obtain⟨u,r,l⟩:=hl i x v e1 e2 e3;refine⟨u,r, ?_⟩;rcases l with l|⟨k,c,e,z⟩
  ·exact .inl l
  ·exact .inr ⟨k,c,e,cellK x c e _ z⟩
 ·obtain⟨v,z⟩:=I.cell x c e
  exact⟨v,cellK x c e v z⟩
 ·obtain⟨m,⟨o,_,_,ho,_⟩,_⟩:=I.loc
  exact free _ o (fun z=>(hch _ z).2.1 rfl) ho I.free
 ·obtain⟨v,o,ho,hd⟩:=I.cell x c e
  exact free c o (fun z=>(hch c z).2.2.1 x c e rfl) ho (I.freeC x c e)
 ·obtain⟨e,n,ne,nf,d⟩:=I.pin p hp
  have nch:p.1 ∉ ch:=fun z=>(hch p.1 z).2.2.2 p hp rfl;exact⟨keep p.1 p.2 ne nf nch e n,free p.1 p.2 nch e n,ne,nf,d⟩
theorem Ca.un{t':Nat}(I:Ca X Za σ H s)(u:Un X.fs [] H H' s.heap h')(hok:He X.prog X.w H' h'):Ca X Za σ H' { s with heap:=h',toks:=t' }:=by
 obtain⟨m,⟨o,es,ep,ho,r⟩,_⟩:=id I.loc;obtain⟨sl,hL⟩:=u.any ho I.free (by simp);exact I.step (g':=s.gens) (d':=s.drawn) (ch:=[]) (fun _ z=>nomatch z) (fun b o _ hb _ e n=>u.keep b o e n hb (by simp)) (fun b o _ hb _ e n=>u.slot b o e n hb (by simp)) (fun b o _ e n=>u.free b o e n (by simp)) (fun b o _ e=>u.there b o e (by simp)) u.tups u.frzs u.tbls (fun m' hm=>by
  obtain⟨o',es',ep',ho',r'⟩:=hm;rw[ho] at ho';cases ho';exact⟨_,es',ep',hL,r'⟩) hok I.bare
theorem Ca.call{g':Array GenState}{t':Nat}{d':Drawn}{ch:LI2}(I:Ca X Za σ H s)(u:Un (Pe X.stack) ch H H' s.heap h')(hok:He X.prog X.w H' h')(hg:AllBare g')(hch:∀b∈ch,(b∈X.ex\/X.s₀.heap.objs.size<=b)/\b≠X.env.locals/\(∀x c,X.env.cells.lookup x=some c->c≠b)/\∀p∈X.pn++Za,p.1≠b) :
  Ca X Za σ H' { s with heap:=h',gens:=g',drawn:=d',toks:=t' }:=by
 obtain⟨m,⟨o,es,ep,ho,r⟩,_⟩:=id I.loc;obtain⟨sl,hL⟩:=u.any ho I.free fun z=>(hch _ z).2.1 rfl;exact I.step (ch:=ch) hch (fun b o hL hb hc e n=>u.keep b o e n (fun z=>(Vd.mp (I.stkSub b z)).elim hL hb) hc) (fun b o _ _ hc e n=>u.any e n hc) (fun b o hc e n=>u.free b o e n hc) (fun b o hc e=>u.there b o e hc) u.tups u.frzs u.tbls (fun m' hm=>by
  obtain⟨o',es',ep',ho',r'⟩:=hm;rw[ho] at ho';cases ho';exact⟨_,es',ep',hL,r'⟩) hok hg
theorem Ca.turned{t':Nat}{it:Ja}(I:Ca X Za σ H s)(k:∀b o,b≠it->s.heap.get? b=some o->h'.get? b=some o)(hn:H it=none)(hL:it≠X.env.locals)(h1:it∈X.ex\/X.s₀.heap.objs.size<=it)(h2:∀x c,X.env.cells.lookup x=some c->c≠it)(h3:∀p∈X.pn++Za,p.1≠it):Ca X Za σ H { s with heap:=h',toks:=t' }:=by
 have nit:∀b u,H b=some u->b≠it:=fun b u e z=>by rw[z,hn] at e;cases e
 refine I.step (g':=s.gens) (d':=s.drawn) (ch:=[it]) (fun b hb=>?_) (fun b o _ _ hc e _=>k b o (fun z=>hc (by simp[z])) e) (fun b o _ _ hc e _=>⟨o.slots,k b o (fun z=>hc (by simp[z])) e⟩) (fun _ _ _ _ n=>n)
  (fun b o hc e=>⟨o,k b o (fun z=>hc (by simp[z])) e⟩) (fun _ _ e=>e) (fun _ _ _ e=>e) (fun b ps u e=>e) (fun m hm=>?_) (fun b u e=>?_) I.bare
 ·have e:b=it:=by simpa using hb
  subst e;exact⟨h1,hL,h2,h3⟩
 ·obtain⟨o,es,ep,ho,r⟩:=hm
  exact⟨o,es,ep,k _ o (Ne.symm hL) ho,r⟩
 ·refine(I.hok b u e).stay (fun c v hc q=>k c v ?_ q) (fun _ q=>q) fun _ _ q=>q
  rcases hc with z|z
  ·rw[z];exact nit b u e
  ·exact nit c _ z
theorem Ca.tok(I:Ca X Za σ H s)(t:Nat):Ca X Za σ H { s with toks:=t }:=I.un (h':=s.heap) (t':=t) Un.refl I.hok
theorem Ca.kept(I:Ca X Za σ H s)(k:∀b u,s.heap.get? b=some u->h'.get? b=some u): Ca X Za σ H { s with heap:=h',toks:=t' }:=I.un (Un.kept k) (I.hok.kept k)
theorem Ca.laid(I:Ca X Za σ H s)(k:∀b u,s.heap.get? b=some u->h'.get? b=some u)(hp:s.heap.objs.size<=a)(new:Wf X.prog X.w (upd H a o) h' a o):
  Ca X Za σ (upd H a o) { s with heap:=h',toks:=t' }:=I.un (Un.laid k hp (I.hok.fresh hp)) (I.hok.laid k hp new)
theorem Ca.write(I:Ca X Za σ H s)(mu:Y0 (H x))(he:e=x\/H e=some (.own x))(k:∀b u,b≠e->s.heap.get? b=some u->h'.get? b=some u)(heo:∃u,h'.get? e=some u)(new:Wf X.prog X.w (upd H x o) h' x o): Ca X Za σ (upd H x o) { s with heap:=h',toks:=t' }:=I.un (Un.write mu he k heo) (I.hok.write mu he k heo new)
theorem Ca.pins_of(I:Ca X Za σ H s)(h:∀p∈pins',s.heap.get? p.1=some p.2/\H p.1=none/\p.1≠X.env.locals/\p.1 ∉ X.fs/\∀v,p.2.data≠.cell v): Ca X pins' σ H s:=
 ⟨I.ok,I.os,I.bare,I.base,I.loc,I.cell,I.free,I.freeC,fun p hp=>(Nc.mp hp).elim (fun z=>I.pin p (Zf _ z)) (h p),I.hok,I.len⟩
theorem CJ{N:List Str}(hN:N.Nodup){i j:Nat}{x:Str}(a:N[i]?=some x)(b:N[j]?=some x):i=j:=by
 obtain⟨h1,e1⟩:=Cd.mp a;obtain⟨h2,e2⟩:=Cd.mp b;exact(List.getElem_inj hN).mp (e1.trans e2.symm)
theorem Zad{M:Model}{A:Pd}{E:Va->Ga->Prop}{i:Nat}{x:Str}{v:V}{u:Va}{Q:Unit->Ga->Prop}(I:Ca X Za σ H s)(hN:X.N.Nodup)(hi:X.N[i]?=some x)(hx:Mt X.env.scope x)(r:Ob v u)(h:∀s',Ca X Za (σ.set i (some v)) H s'->(∃a,Heap.SameBut a s.heap s'.heap/\(a=X.env.locals\/X.env.cells.lookup x=some a))->Q () s')(hf:X.fn x=true\/X.env.scope.names.lookup x=some .local):Ra M A (storeName X.env x u) Q E s:=by
 obtain⟨m,hn,hl⟩:=id I.loc;have hcls:(X.env.scope.kind==.class || (X.env.scope.kind==.module&&X.env.locals != X.env.globals))=false:=by rw[I.ok.kind];rfl
 have hiσ:i<σ.length:=by rw[I.len];exact(Cd.mp hi).1
 have cne:=I.cne;have tracked:∀{a:Ja}{h':Heap},(∃o,s.heap.get? a=some o/\H a=none)->Heap.SameBut a s.heap h'->He X.prog X.w H h':=fun {a h'} ha hs b ob e=>by
  obtain⟨_,_,hfree⟩:=ha;refine(I.hok b ob e).stay (fun c w' hc q=>(hs.2 c ?_).trans q) (fun _ q=>q) fun _ _ q=>q;rintro rfl;rcases hc with rfl|hc
  ·rw[hfree] at e;cases e
  ·rw[hfree] at hc;cases hc
 rcases hx with hk|hk
 ·refine wpAny_storeName_local hk hn (fun h' hn' hs=>?_) hcls
  obtain⟨oL,_,_,hoL,_⟩:=id hn;refine h _ ⟨I.ok,I.os,I.bare,⟨fun b o e n hb hx=>?_,fun b o e n hb hx=>?_,I.base.free,fun b o e hx=>?_,I.base.tups,I.base.frzs,I.base.tbls⟩,⟨_,hn',fun j y v' e1 e2 e3=>?_⟩,fun y c e=>?_,I.free,I.freeC,fun p hp=>?_,tracked ⟨oL,hoL,I.free⟩ hs,by simpa using I.len⟩ ⟨_,hs,.inl rfl⟩
  ·exact(hs.2 b (Jf (Mg (Heap.lt_size e) I.ok.above))).trans (I.base.keep b o e n hb hx)
  ·obtain⟨sl,e1⟩:=I.base.slot b o e n hb hx
   exact⟨sl,(hs.2 b (Jf (Mg (Heap.lt_size e) I.ok.above))).trans e1⟩
  ·obtain⟨o',e1⟩:=I.base.there b o e hx
   exact⟨o',(hs.2 b (Jf (Mg (Heap.lt_size e) I.ok.above))).trans e1⟩
  ·by_cases hj:j=i
   ·subst hj
    rw[hi] at e1;cases e1;rw[Sj hiσ] at e2;cases e2;exact⟨u,r,.inl ⟨hk,by simp⟩⟩
   ·rw[Tk (Ne.symm hj)] at e2
    obtain⟨u',r',q⟩:=hl j y v' e1 e2 e3;refine⟨u',r', ?_⟩;rcases q with ⟨k,e⟩|⟨k,c,e,z⟩
    ·refine .inl ⟨k, ?_⟩
     have:y≠x:=fun e=>hj (CJ hN e1 (e▸hi));simp[this,e]
    ·exact .inr ⟨k,c,e,z.sameBut hs (cne y c e)⟩
  ·obtain⟨w',z⟩:=I.cell y c e
   exact⟨w',z.sameBut hs (cne y c e)⟩
  ·obtain⟨e,n,ne,nf,d⟩:=I.pin p hp
   exact⟨(hs.2 p.1 ne).trans e,n,ne,nf,d⟩
 ·have hfn:X.fn x=true:=by
   rcases hf with z|z
   ·exact z
   ·rw[z] at hk;cases hk
  obtain⟨c,hc⟩:=I.ok.has x (.inl hk);obtain⟨w',z⟩:=I.cell x c hc;refine wpAny_storeName_cell I.ok.kind hk hc z (fun h' hc' hs=>?_);obtain⟨oc,hoc,hocd⟩:=id z;refine h { s with heap:=h' } ⟨I.ok,I.os,I.bare,⟨fun b o e n hb hx=>?_,fun b o e n hb hx=>?_,I.base.free,fun b o e hx=>?_,I.base.tups,I.base.frzs,I.base.tbls⟩,⟨m,hn.sameBut hs (Ne.symm (cne x c hc)),fun j y v' e1 e2 e3=>?_⟩,fun y c' e=>?_,I.free,I.freeC,fun p hp=>?_,tracked ⟨oc,hoc,I.freeC x c hc⟩ hs,by simpa using I.len⟩ ⟨c,hs,.inr hc⟩
  ·exact(hs.2 b (Jf (Mg (Heap.lt_size e) (I.ok.cab x c hfn hc)))).trans (I.base.keep b o e n hb hx)
  ·obtain⟨sl,e1⟩:=I.base.slot b o e n hb hx
   exact⟨sl,(hs.2 b (Jf (Mg (Heap.lt_size e) (I.ok.cab x c hfn hc)))).trans e1⟩
  ·obtain⟨o',e1⟩:=I.base.there b o e hx
   exact⟨o',(hs.2 b (Jf (Mg (Heap.lt_size e) (I.ok.cab x c hfn hc)))).trans e1⟩
  ·by_cases hj:j=i
   ·subst hj
    rw[hi] at e1;cases e1;rw[Sj hiσ] at e2;cases e2;exact⟨u,r,.inr ⟨.inl hk,c,hc,hc'⟩⟩
   ·rw[Tk (Ne.symm hj)] at e2
    obtain⟨u',r',q⟩:=hl j y v' e1 e2 e3;refine⟨u',r', ?_⟩;rcases q with q|⟨k,c',e,z'⟩
    ·exact .inl q
    ·refine .inr ⟨k,c',e,z'.sameBut hs ?_⟩
     rintro rfl;exact hj (CJ hN e1 (I.ok.inj _ _ _ e hc▸hi))
  ·by_cases hcc:c'=c
   ·subst hcc;exact⟨_,hc'⟩
   ·obtain⟨w2,z2⟩:=I.cell y c' e
    exact⟨w2,z2.sameBut hs hcc⟩
  ·obtain⟨e,n,ne,nf,d⟩:=I.pin p hp
   refine⟨(hs.2 p.1 ?_).trans e,n,ne,nf,d⟩;intro q;rw[q,hoc] at e;have q':oc=p.2:=Option.some.inj e;exact d w' (by rw[<- q'];exact hocd)
theorem P4(I:Ca X Za σ H s)(hN:X.N.Nodup)(hi:X.N[i]?=some x)(hx:Mt X.env.scope x)(r:Ob v u)(h:∀s',Ca X Za (σ.set i (some v)) H s'->Q () s')(hf:X.fn x=true\/X.env.scope.names.lookup x=some .local): Ra M A (storeName X.env x u) Q E s:=
 Zad I hN hi hx r (fun s' I' _=>h s' I') hf
theorem Ca.call'(I:Ca X Za σ H s)(ho:s'.os=s.os)(u:Un (Pe X.stack) ch H H' s.heap s'.heap)(hok:He X.prog X.w H' s'.heap)(hg:AllBare s'.gens)(hch:∀b∈ch,(b∈X.ex\/X.s₀.heap.objs.size<=b)/\b≠X.env.locals/\(∀x c,X.env.cells.lookup x=some c->c≠b)/\∀p∈X.pn++Za,p.1≠b): Ca X Za σ H' s':=by
 obtain⟨h',g',d',t',o'⟩:=s';have e:o'=s.os:=ho;subst e;exact I.call (g':=g') (t':=t') (d':=d') u hok hg hch
end
noncomputable abbrev XK:=Va->Option Ja->Hp->Prop
noncomputable abbrev St:=List (Option V)
noncomputable abbrev VK:=V->Hp->Prop
noncomputable abbrev TE:=St->Hp->VK->Prop
noncomputable abbrev TT:=St->Hp->(Bool->Hp->Prop)->Prop
noncomputable abbrev TA:=St->Hp->(List V->Hp->Prop)->Prop
structure Jm where
 nx:St->Hp->Prop
 rt:VK
 bk:St->Hp->Prop:=fun _ _=>False
 ct:St->Hp->Prop:=fun _ _=>False
noncomputable abbrev TS:=Jm->St->Hp->Prop
def EP(X:Cx)(Za:List (Ja×Obj))(σ:St)(Q:VK)(u:Va)(s':Ga):Prop:=∃v H',Ca X Za σ H' s'/\Ob v u/\Q v H'
def TP(X:Cx)(Za:List (Ja×Obj))(σ:St)(Q:Bool->Hp->Prop)(b:Bool)(s':Ga):Prop:=∃H',Ca X Za σ H' s'/\Q b H'
def AP(X:Cx)(Za:List (Ja×Obj))(σ:St)(Q:List V->Hp->Prop)(us:LI3)(s':Ga):Prop:=∃vs H',Ca X Za σ H' s'/\Ab vs us/\Q vs H'
def SP(X:Cx)(Za:List (Ja×Obj))(D:Jm)(f:Flow)(s':Ga):Prop:=
 match f with
 |.next=>∃σ' H',Ca X Za σ' H' s'/\D.nx σ' H'
 |.brk=>∃σ' H',Ca X Za σ' H' s'/\D.bk σ' H'
 |.cont=>∃σ' H',Ca X Za σ' H' s'/\D.ct σ' H'
 |.ret u=>∃v σ' H',Ca X Za σ' H' s'/\Ob v u/\D.rt v H'
def PE(X:Cx)(e:Expr)(t:TE):Prop:=
 ∀(Za:List (Ja×Obj)) (s:Ga) (σ:St) (H:Hp) (Q:VK),Ca X Za σ H s->t σ H Q->Ra (Na X.prog X.w) X.A (eval e X.env) (EP X Za σ Q) X.xe s
def PT(X:Cx)(e:Expr)(t:TT):Prop:=
 ∀(Za:List (Ja×Obj)) (s:Ga) (σ:St) (H:Hp) (Q:Bool->Hp->Prop),Ca X Za σ H s->t σ H Q->Ra (Na X.prog X.w) X.A (isTrue e X.env (eval e X.env)) (TP X Za σ Q) X.xe s
def PW(X:Cx)(e:Expr)(t:TT):Prop:=
 ∀(whole:Sem Va) (Za:List (Ja×Obj)) (s:Ga) (σ:St) (H:Hp) (Q:Bool->Hp->Prop),Ca X Za σ H s->t σ H Q->Ra (Na X.prog X.w) X.A (isTrue e X.env whole) (TP X Za σ Q) X.xe s
theorem PW.pt(h:PW X e t): PT X e t:=h _
def PA(X:Cx)(es:List Expr)(t:TA):Prop:=
 ∀(pos:Pos) (Za:List (Ja×Obj)) (s:Ga) (σ:St) (H:Hp) (Q:List V->Hp->Prop),Ca X Za σ H s->t σ H Q->Ra (Na X.prog X.w) X.A (spliced (Fh pos (Tc es X.env))) (AP X Za σ Q) X.xe s
def PS(X:Cx)(st:Kb)(t:TS):Prop:=
 ∀(Za:List (Ja×Obj)) (s:Ga) (σ:St) (H:Hp) (D:Jm),Ca X Za σ H s->t D σ H->Ra (Na X.prog X.w) X.A (exec st X.env) (SP X Za D) X.xe s
def Wg(X:Cx)(st:List Kb)(t:TS):Prop:=
 ∀(Za:List (Ja×Obj)) (s:Ga) (σ:St) (H:Hp) (D:Jm),Ca X Za σ H s->t D σ H->Ra (Na X.prog X.w) X.A (execs st X.env) (SP X Za D) X.xe s
theorem Qb(h:Ra M A t Q E s)(hQ:∀a s,Q a s->Q' a s): Ra M A t Q' E s:=Vf h hQ fun _ _ x=>x
section
variable {X:Cx}
noncomputable def Bg(i:Nat):TE:=fun σ H Q=>∃v,σ[i]?=some (some v)/\Q v H
noncomputable def tC(v:V):TE:=fun _ H Q=>Q v H
theorem ZjH(hN:X.N[i]?=some x)(hv:V1 X.env.scope x)(hd:(x==("__debug__":Str))=false:=by decide)(hcd:(x==("__classdict__":Str))=false:=by decide): PE X (.Name x pos) (Bg i):=by
 intro Za s σ H Q I h;obtain⟨v,e,h⟩:=h;obtain⟨m,hn,hl⟩:=I.loc;obtain⟨u,r,l⟩:=hl i x v hN e hv;have fin:EP X Za σ Q u s:=⟨v,H,I,r,h⟩
 rcases l with ⟨hk,hm⟩|⟨hk,c,hc,hcell⟩
 ·exact wpAny_Name (wpAny_loadName_local I.ok.kind hk hn hm fin) hd
 ·rcases hk with hk|hk
  ·exact wpAny_Name (wpAny_loadName_cell I.ok.kind hk hc hcell fin) hd
  ·exact wpAny_Name (wpAny_loadName_free I.ok.kind hk hc hcell fin hcd) hd
theorem Ka{i j pos}:PE X (.Constant (.int i) j pos) (tC (.int i)):=fun _ _ _ H _ I h=>wpAny_Constant_int ⟨.int i,H,I.tok _,⟨_,rfl⟩,h⟩
theorem Wr{b j pos}:PE X (.Constant (.bool b) j pos) (tC (.bl b)):=fun _ _ _ H _ I h=>Constant_bool ⟨.bl b,H,I,rfl,h⟩
theorem I9{j pos}:PE X (.Constant .none j pos) (tC .non):=fun _ _ _ H _ I h=>Constant_none ⟨.non,H,I,rfl,h⟩
theorem Mf{x j pos}:PE X (.Constant (.str x) j pos) (tC (.str x)):=fun _ _ _ H _ I h=>Calls.Constant_str ⟨.str x,H,I.tok _,⟨_,rfl⟩,h⟩
def Gl(X:Cx)(x:Str):Prop:=X.env.kindOf x=some .globalImplicit
theorem Rw(I:Ca X Za σ H s)(hg:Gl X x)(hm:X.mg x=some u)(h:Q u s)(hd:(x==("__debug__":Str))=false:=by decide): Ra (Na X.prog X.w) X.A (eval (.Name x pos) X.env) Q E s:=
 Calls.Name_function_global I.ok.kind hg (Calls.loadGlobal_global (by rw[I.ok.glob];exact I.mod.glob.keeps I.bk) hm h) hd
theorem Lr(I:Ca X Za σ H s)(hg:Gl X x)(hm:X.mg x=none)(hv:Gh x=some u)(h:Q u s)(hn:x ≠ "__name__":=by decide)(hd:(x==("__debug__":Str))=false:=by decide): Ra (Na X.prog X.w) X.A (eval (.Name x pos) X.env) Q E s:=by
 obtain⟨mb,h1,h2⟩:=I.mod.blt;exact Calls.Name_function_global I.ok.kind hg (Calls.loadGlobal_builtin (by rw[I.ok.glob];exact I.mod.glob.keeps I.bk) hm (by rw[I.ok.blt];exact h1.keeps I.bk) ((h2 x hn).trans hv) h) hd
theorem Y3(hg:Gl X x)(hm:X.mg x=some u)(r:Ob v u)(hd:(x==("__debug__":Str))=false:=by decide): PE X (.Name x pos) (tC v):=
 fun _ _ _ H _ I h=>Rw I hg hm ⟨v,H,I,r,h⟩ hd
theorem T3(hg:Gl X x)(hm:X.mg x=none)(hv:Gh x=some u)(r:Ob v u)(hn:x ≠ "__name__":=by decide)(hd:(x==("__debug__":Str))=false:=by decide): PE X (.Name x pos) (tC v):=
 fun _ _ _ H _ I h=>Lr I hg hm hv ⟨v,H,I,r,h⟩ hn hd
variable {a b:Expr}{ta tb:TE}{pos:Pos}
def PC(X:Cx)(op:CmpOp)(a b:Expr)(t:TE):Prop:=
 ∀(Za:List (Ja×Obj)) (s:Ga) (σ:St) (H:Hp) (Q:VK),Ca X Za σ H s->t σ H Q ->
  Ra (Na X.prog X.w) X.A (eval a X.env) (fun v s₁=>Ra (Na X.prog X.w) X.A (eval b X.env) (fun u s₂=>Ra (Na X.prog X.w) X.A (Hj op v u) (EP X Za σ Q) X.xe s₂) X.xe s₁) X.xe s
noncomputable def tB(t:TE):TT:=fun σ H Q=>t σ H fun x H1=>∃c,x=.bl c/\Q c H1
theorem JY(h:PC X op a b t)(h1:A6 op b=false:=by rfl): PT X (.Compare a [op] [b] pos) (tB t):=by
 intro Za s σ H Q I hw;refine wpAny_isTrue_Compare1 (Qb (h Za s σ H _ I hw) fun v s1 h1=>Qb h1 fun u s2 h2=>Qb h2 fun c s3 ⟨x,H1,I1,r1,q1⟩=>?_) h1;obtain⟨d,rfl,q⟩:=q1;cases r1;exact Wq ⟨H1,I1,q⟩
theorem Cq(h:PE X e t)(he:∀whole,isTrue e X.env whole=(do let v <- whole;standAt e.pos;holding [v] (truthy v)):=by exact fun _=>rfl): PT X e (tB t):=by
 intro Za s σ H Q I hw;refine isTrue_plain (Qb (h Za s σ H _ I hw) fun v s1 ⟨x,H1,I1,r1,q1⟩=>?_) (he _);obtain⟨d,rfl,q⟩:=q1;cases r1;exact Wq ⟨H1,I1,q⟩
variable {tA tB':TT}{Nl:List Expr}
noncomputable def Zah(t u:TT):TT:=fun σ H Q=>t σ H fun c H1=>if c=true then u σ H1 Q else Q false H1
noncomputable def tOr(t u:TT):TT:=fun σ H Q=>t σ H fun c H1=>if c=true then Q true H1 else u σ H1 Q
noncomputable def Za1(t:TT):TT:=fun σ H Q=>t σ H fun c H1=>Q (!c) H1
theorem GK(ha:PT X a tA):PW X (.BoolOp .And [a] pos) tA:=by
 intro wh Za s σ H Q I h;refine isTrue_and (Qb (ha Za s σ H Q I h) fun c s1 e=>?_);cases c with
 |true=>exact isTrue_and_nil e
 |false=>exact e
theorem Fq(ha:PT X a tA):PW X (.BoolOp .Or [a] pos) tA:=by
 intro wh Za s σ H Q I h;refine isTrue_or (Qb (ha Za s σ H Q I h) fun c s1 e=>?_);cases c with
 |false=>exact isTrue_or_nil e
 |true=>exact e
theorem FK(ha:PT X a tA)(hb:PW X (.BoolOp .And (b::Nl) pos) tB'):PW X (.BoolOp .And (a::b::Nl) pos) (Zah tA tB'):=by
 intro wh Za s σ H Q I h;refine isTrue_and (Qb (ha Za s σ H _ I h) fun c s1 ⟨H1,I1,q1⟩=>?_);cases c with
 |true=>exact hb wh Za s1 σ H1 Q I1 q1
 |false=>exact⟨H1,I1,q1⟩
theorem Ko(ha:PT X a tA)(hb:PW X (.BoolOp .Or (b::Nl) pos) tB'):PW X (.BoolOp .Or (a::b::Nl) pos) (tOr tA tB'):=by
 intro wh Za s σ H Q I h;refine isTrue_or (Qb (ha Za s σ H _ I h) fun c s1 ⟨H1,I1,q1⟩=>?_);cases c with
 |true=>exact⟨H1,I1,q1⟩
 |false=>exact hb wh Za s1 σ H1 Q I1 q1
theorem Bq(ha:PT X a tA):PT X (.UnaryOp .Not a pos) (Za1 tA):=by
 intro Za s σ H Q I h;exact isTrue_not (ha Za s σ H (fun c H1=>Q (!c) H1) I h)
noncomputable def Zai(ta tb:TE):TE:=fun σ H Q=>ta σ H fun x H1=>∃c,x=.bl c/\if c=true then tb σ H1 Q else Q (.bl false) H1
noncomputable def Za2(ta:TE):TE:=fun σ H Q=>ta σ H fun x H1=>∃c,x=.bl c/\Q (.bl (!c)) H1
theorem Z4{op}(h:PE X a t): PE X (.BoolOp op [a] pos) t:=fun Za s σ H Q I hw=>BoolOp_one (h Za s σ H Q I hw)
theorem Ex(ha:PE X a ta)(hb:PE X (.BoolOp .And (b::Nl) pos) tb):PE X (.BoolOp .And (a::b::Nl) pos) (Zai ta tb):=by
 intro Za s σ H Q I h;refine BoolOp_and (Qb (ha Za s σ H _ I h) fun v s1 ⟨x,H1,I1,r1,q1⟩=>?_);obtain⟨c,rfl,q1⟩:=q1;cases r1;refine Wq ?_;cases c with
 |true=>exact hb Za s1 σ H1 Q I1 q1
 |false=>exact⟨.bl false,H1,I1,rfl,q1⟩
theorem ZjF(ha:PE X a ta):PE X (.UnaryOp .Not a pos) (Za2 ta):=by
 intro Za s σ H Q I h;refine UnaryOp_ (Qb (ha Za s σ H _ I h) fun v s1 ⟨x,H1,I1,r1,q1⟩=>?_);obtain⟨c,rfl,q1⟩:=q1;cases r1;exact not_of (Wq ⟨.bl (!c),H1,I1,rfl,q1⟩)
end
def Yb(K:ZlR)(H:Hp)(a:Ja)(xs:List V):Prop:=
 Rd H a (.lst xs) \/
  ∃(o:Obj) (its:Array Va) (n:Nat),K.lookup a=some o/\o.cls=.type "list"/\o.dict=none/\o.data=.seq its n/\its.size<=Cc/\Ab xs its.toList
def Af(K:ZlR)(H:Hp)(a:Ja)(xs:List V):Prop:=
 Rd H a (.tup xs) \/
  ∃(o:Obj) (its:Array Va) (n:Nat),K.lookup a=some o/\o.cls=.type "tuple"/\o.data=.seq its n/\its.size<=Cc/\Ab xs its.toList
noncomputable def ZbW:Va->Option V
 |.none=>some .non
 |.bool b=>some (.bl b)
 |.int i _=>some (.int i)
 |.str x _=>some (.str x)
 |.bytes b _=>some (.byt b)
 |.float b _=>some (.flt b)
 |.ref a=>some (.ref a)
 |.type n=>some (.ty n)
 |_=>none
theorem Ob.abs(r:Ob x u): ZbW u=some x:=by
 cases x with
 |non=>cases r;rfl
 |bl _=>cases r;rfl
 |int _=>obtain⟨t,rfl⟩:=r;rfl
 |str _=>obtain⟨t,rfl⟩:=r;rfl
 |byt _=>obtain⟨t,rfl⟩:=r;rfl
 |flt _=>obtain⟨t,rfl⟩:=r;rfl
 |ref _=>cases r;rfl
 |ty _=>cases r;rfl
theorem Ob.inj(r:Ob x u)(q:Ob y u): x=y:=Option.some.inj (r.abs.symm.trans q.abs)
theorem Ab.inj:∀{xs ys:List V}{us:LI3},Ab xs us->Ab ys us->xs=ys
 |_,_,_,.nil,.nil=>rfl
 |_,_,_,.cons r t,.cons r' t'=>by rw[r.inj r',Ab.inj t t']
section
variable {X:Cx}{Za:List (Ja×Obj)}{σ:St}{H:Hp}{s:Ga}{a:Ja}{xs ys:List V}
theorem Yb.of{K:ZlR}(h:H a=some (.lst xs)):Yb K H a xs:=.inl (.inl h)
theorem Ca.list(I:Ca X Za σ H s)(h:Yb X.K H a xs):∃its:LI3,Ab xs its/\PlainL s.heap a its.toArray/\xs.length<=Cc:=by
 rcases h with h|⟨o,its,n,hk,hc,hd,hs,hz,r⟩
 ·obtain⟨z,its,n,r,e⟩:=h.ok I.hok
  exact⟨its,r,⟨_,n,e,rfl,rfl,rfl⟩,z⟩
 ·refine⟨its.toList,r,⟨o,n,I.kIn a o hk,hc,hd,by simpa using hs⟩, ?_⟩
  have e:=r.length;simp only[Oe] at e;lia
theorem Ca.tuple(I:Ca X Za σ H s)(h:Af X.K H a xs):∃its:LI3,Ab xs its/\IsTup s.heap a its.toArray/\xs.length<=Cc:=by
 rcases h with h|⟨o,its,n,hk,hc,hs,hz,r⟩
 ·obtain⟨z,its,r,p⟩:=h.ok I.hok
  exact⟨its,r,p,z⟩
 ·refine⟨its.toList,r,⟨o,I.kIn a o hk,hc,n,by simpa using hs⟩, ?_⟩
  have e:=r.length;simp only[Oe] at e;lia
theorem Ca.list_inj(I:Ca X Za σ H s)(h:Yb X.K H a xs)(h':Yb X.K H a ys):xs=ys:=by
 obtain⟨its,r,⟨o,n,e,_,_,d⟩,_⟩:=I.list h;obtain⟨its',r',⟨o',n',e',_,_,d'⟩,_⟩:=I.list h';rw[e] at e';cases e';rw[d] at d';injection d' with d1 _;have:its=its':=by simpa using Ef Array.toList d1
 subst this;exact r.inj r'
theorem Ca.tuple_inj(I:Ca X Za σ H s)(h:Af X.K H a xs)(h':Af X.K H a ys):xs=ys:=by
 obtain⟨its,r,⟨o,e,_,n,d⟩,_⟩:=I.tuple h;obtain⟨its',r',⟨o',e',_,n',d'⟩,_⟩:=I.tuple h';rw[e] at e';cases e';rw[d] at d';injection d' with d1 _;have:its=its':=by simpa using Ef Array.toList d1
 subst this;exact r.inj r'
end
noncomputable abbrev Cx.wish(X:Cx)(E:Va->Ga->Prop):Cx:={ X with xe:=E }
noncomputable abbrev Cx.nox(X:Cx):Cx:=X.wish fun _ _=>False
theorem Cx.Ok.wish{X:Cx}(ok:X.Ok)(E:Va->Ga->Prop):(X.wish E).Ok:=
 ⟨ok.mod,ok.kind,ok.glob,ok.blt,ok.above,ok.inj,ok.has,ok.cab,ok.hd,ok.frames,ok.stk,ok.exf,ok.bs,ok.bsz,ok.noex,ok.exfs,ok.funs,ok.frf,ok.tab⟩
theorem Cx.Ok.unwish{X: Cx}(ok:(X.wish E).Ok): X.Ok:=
 ⟨ok.mod,ok.kind,ok.glob,ok.blt,ok.above,ok.inj,ok.has,ok.cab,ok.hd,ok.frames,ok.stk,ok.exf,ok.bs,ok.bsz,ok.noex,ok.exfs,ok.funs,ok.frf,ok.tab⟩
section
variable {X:Cx}{Za:List (Ja×Obj)}{σ:St}{H:Hp}{s:Ga}{E:Va->Ga->Prop}
theorem Ca.wish(I:Ca X Za σ H s)(E:Va->Ga->Prop):Ca (X.wish E) Za σ H s:=⟨I.ok.wish E,I.os,I.bare,I.base,I.loc,I.cell,I.free,I.freeC,I.pin,I.hok,I.len⟩
theorem Ca.unwish(I:Ca (X.wish E) Za σ H s):Ca X Za σ H s:=⟨I.ok.unwish,I.os,I.bare,I.base,I.loc,I.cell,I.free,I.freeC,I.pin,I.hok,I.len⟩
theorem SP.unwish(h:SP (X.wish E) Za D f s'): SP X Za D f s':=by
 cases f with
 |next=>obtain⟨σ',H',I,q⟩:=h;exact⟨σ',H',I.unwish,q⟩
 |brk=>obtain⟨σ',H',I,q⟩:=h;exact⟨σ',H',I.unwish,q⟩
 |cont=>obtain⟨σ',H',I,q⟩:=h;exact⟨σ',H',I.unwish,q⟩
 |ret u=>obtain⟨v,σ',H',I,r,q⟩:=h;exact⟨v,σ',H',I.unwish,r,q⟩
theorem Wg.nox{st:List Kb}{t:TS}(h:Wg X.nox st t):Wg X st t:=fun Za s σ H D I hw =>
 Vf (h Za s σ H D (I.wish _) hw) (fun _ _ q=>q.unwish) fun _ _ z=>False.elim z
end
section
variable {X:Cx}{st:Kb}{Nl:List Kb}{t u:TS}{e:Expr}{te:TE}{pos:Pos}
noncomputable def Zaz:TS:=fun D σ H=>D.nx σ H
noncomputable def Za6(t u:TS):TS:=fun D σ H=>t { D with nx:=u D } σ H
theorem Be:Wg X [] Zaz:=fun _ _ σ H _ I h=>C6 ⟨σ,H,I,h⟩
theorem Xa(h1:PS X st t)(h2:Wg X Nl u):Wg X (st::Nl) (Za6 t u):=by
 intro Za s σ H D I h;refine wpAny_execs_cons (Qb (h1 Za s σ H { D with nx:=u D } I h) fun f s1 q=>?_);cases f with
 |next =>
  obtain⟨σ',H',I',q⟩:=q;exact h2 Za s1 σ' H' D I' q
 |ret v=>exact q
 |brk=>exact q
 |cont=>exact q
theorem Jb(h1:PS X st t):Wg X [st] t:=by
 intro Za s σ H D I h;refine wpAny_execs_cons (Qb (h1 Za s σ H D I h) fun f s1 q=>?_);cases f with
 |next=>exact C6 q
 |ret v=>exact q
 |brk=>exact q
 |cont=>exact q
theorem Ca.quiet(I:Ca X Za σ H s): interactive X.env=false:=by simp[interactive,I.ok.kind]
noncomputable def JC(te:TE):TS:=fun D σ H=>te σ H fun _ H1=>D.nx σ H1
theorem Mi(he:PE X e te)(hs:swapsWith e none pos.line X.env=pure false:=by rfl):PS X (.Expr e pos) (JC te):=by
 intro Za s σ H D I h;exact wpAny_Expr_any (Qb (he Za s σ H _ I h) fun v s1 ⟨x,H1,I1,r1,q1⟩=>⟨σ,H1,I1,q1⟩) I.quiet hs
noncomputable def Y4(te:TE):TS:=fun D σ H=>te σ H D.rt
theorem Nb(he:PE X e te):PS X (.Return (some e) pos) (Y4 te):=by
 intro Za s σ H D I h;exact wpAny_Return_some (Qb (he Za s σ H _ I h) fun v s1 ⟨x,H1,I1,r1,q1⟩=>⟨x,σ,H1,I1,r1,q1⟩)
noncomputable def Zav(c:TT)(t u:TS):TS:=fun D σ H=>c σ H fun b H1=>if b=true then t D σ H1 else u D σ H1
theorem Ld(hc:PT X c tc)(ha:Wg X a t)(hb:Wg X b u): PS X (.If c a b pos) (Zav tc t u):=by
 intro Za s σ H D I h;refine wpAny_If (Qb (hc Za s σ H _ I h) fun d s1 ⟨H1,I1,q1⟩=>?_);cases d with
 |true=>exact ha Za s1 σ H1 D I1 q1
 |false=>exact hb Za s1 σ H1 D I1 q1
end
noncomputable abbrev TG:=V->St->Hp->(St->Hp->Prop)->Prop
noncomputable abbrev Ot:=List V->St->Hp->(St->Hp->Prop)->Prop
def PG(X:Cx)(target:Expr)(t:TG):Prop:=
 ∀(Za:List (Ja×Obj)) (s:Ga) (σ:St) (H:Hp) (v:V) (u:Va) (Q:St->Hp->Prop),Ca X Za σ H s->Ob v u->t v σ H Q ->
  Ra (Na X.prog X.w) X.A (assign target X.env u) (fun _ s'=>∃σ' H',Ca X Za σ' H' s'/\Q σ' H') X.xe s
def P6(X:Cx)(ts:List Expr)(t:Ot):Prop:=
 ∀(Za:List (Ja×Obj)) (s:Ga) (σ:St) (H:Hp) (vs:List V) (us:LI3) (Q:St->Hp->Prop),Ca X Za σ H s->Ab vs us->t vs σ H Q ->
  Ra (Na X.prog X.w) X.A (assignInOrder ((Rz ts X.env).map (·.2)) us) (fun _ s'=>∃σ' H',Ca X Za σ' H' s'/\Q σ' H') X.xe s
noncomputable abbrev AF:=V->V->V->Hp->(Hp->Prop)->Prop
def VF(X:Cx)(t:AF):Prop:=
 ∀(Za:List (Ja×Obj)) (s:Ga) (σ:St) (H:Hp) (o i v:V) (ov iv u:Va) (Q:Hp->Prop),Ca X Za σ H s->Ob o ov->Ob i iv->Ob v u->t o i v H Q ->
  Ra (Na X.prog X.w) X.A (setItem ov iv u) (fun _ s'=>∃H',Ca X Za σ H' s'/\Q H') X.xe s
noncomputable abbrev T6:=V->V->Hp->VK->Prop
def ZF(X:Cx)(op:Operator)(t:T6):Prop:=
 ∀(Za:List (Ja×Obj)) (s:Ga) (σ:St) (H:Hp) (x y:V) (v u:Va) (Q:VK),Ca X Za σ H s->Ob x v->Ob y u->t x y H Q ->
  Ra (Na X.prog X.w) X.A (inplaceOp op v u) (EP X Za σ Q) X.xe s
section
variable {X:Cx}{pos:Pos}
noncomputable def Ti(i:Nat):TG:=fun v σ H Q=>Q (σ.set i (some v)) H
theorem UK(hN:X.N.Nodup)(hi:X.N[i]?=some x)(hx:Mt X.env.scope x)(hf:X.fn x=true\/X.env.scope.names.lookup x=some .local:=by first|exact .inl rfl|exact .inr rfl|assumption): PG X (.Name x pos) (Ti i):=by
 intro Za s σ H v u Q I r h;exact TN (P4 I hN hi hx r (fun s' I'=>⟨_,H,I',h⟩) hf)
noncomputable def NH:Ot:=fun vs σ H Q=>vs=[]/\Q σ H
noncomputable def P7(t:TG)(u:Ot):Ot:=fun vs σ H Q=>∃v r,vs=v::r/\t v σ H fun σ' H'=>u r σ' H' Q
theorem XX:P6 X [] NH:=by
 intro Za s σ H vs us Q I r h;obtain⟨e,h⟩:=h;subst e;cases r;exact assignInOrder_nil ⟨σ,H,I,h⟩
theorem K9(h1:PG X e t)(h2:P6 X es u)(hs:(Rz (e::es) X.env).map (·.2)=assign e X.env::(Rz es X.env).map (·.2):=by rfl): P6 X (e::es) (P7 t u):=by
 intro Za s σ H vs us Q I r h;obtain⟨v,vr,e1,h⟩:=h;subst e1;cases r with
 |cons r rr =>
  rw[hs];refine assignInOrder_cons (Qb (h1 Za s σ H _ _ _ I r h) fun _ s1 ⟨σ1,H1,I1,q1⟩=>?_);exact h2 Za s1 σ1 H1 _ _ Q I1 rr q1
noncomputable def OH(K:ZlR)(n:Nat)(t:Ot):TG:=fun v σ H Q=>∃a xs,v=.ref a/\Af K H a xs/\xs.length=n/\t xs σ H Q
theorem WX(hc:X.calm=true)(h:P6 X es t)(hn:(Rz es X.env).length=n:=by rfl)(hst:(Rz es X.env).findIdx? (·.1)=none:=by rfl): PG X (.Tuple es k pos) (OH X.K n t):=by
 intro Za s σ H v u Q I r hw;obtain⟨a,xs,e1,hq,hl,hw⟩:=hw;subst e1;cases r;obtain⟨its,rv,ht,hz⟩:=I.tuple hq;refine assign_Tuple_tuple (I.ok.hd hc) ht (by simp[hn,<- hl,rv.length]) hst fun h' hx=>?_;have I1:Ca X Za σ H { s with heap:=h' }:=I.kept (t':=s.toks) fun b o e=>hx b o (Jf (Heap.lt_size e)) e;exact h Za _ σ H xs _ Q I1 (by simpa using rv) hw
noncomputable def YT(to ti:TE)(t:AF):TG:=fun v σ H Q=>to σ H fun o H1=>ti σ H1 fun i H2=>t o i v H2 fun H3=>Q σ H3
theorem Ix(ho:PE X o to)(hi:PE X i ti)(hs:VF X t)(ha:∀v,assign (.Subscript o i pos) X.env v=(do
   let ov <- holding [v] (eval o X.env)
   let iv <- holding [v,ov] (eval i X.env)
   standAt pos
   holding [v,ov,iv] (setItem ov iv v)
   release [v,ov,iv] []):=by exact fun _=>rfl): PG X (.Subscript o i pos) (YT to ti t):=by
 intro Za s σ H v u Q I r h;rw[ha];refine Ia (Tj (Qb (ho Za s σ H _ I h) fun ov s1 ⟨x,H1,I1,r1,q1⟩=>?_));refine Ia (Tj (Qb (hi Za s1 σ H1 _ I1 q1) fun iv s2 ⟨y,H2,I2,r2,q2⟩=>?_));refine Ia (wpAny_standAt (Ia (Tj (Qb (hs Za s2 σ H2 x y v ov iv u _ I2 r1 r2 r q2) fun _ s3 ⟨H3,I3,q3⟩=>?_))));exact wpAny_release ⟨σ,H3,I3,q3⟩
noncomputable def Xm(te:TE)(g:TG):TS:=fun D σ H=>te σ H fun x H1=>g x σ H1 D.nx
theorem Cu(he:PE X e te)(hg:PG X tg g)(hs:swapsWithSole [tg] e pos.line X.env=pure false:=by rfl)(hw:swappedStores [tg] e X.env=pure none:=by rfl)(h1:(Rz [tg] X.env).map (·.2)=[assign tg X.env]:=by rfl): PS X (.Assign [tg] e pos) (Xm te g):=by
 intro Za s σ H D I h;refine wpAny_Assign_stores (Qb (he Za s σ H _ I h) fun v s1 ⟨x,H1,I1,r1,q1⟩=>?_) hs hw;rw[h1];exact Qb (hg Za s1 σ H1 x v _ I1 r1 q1) fun _ s2 q=>q
theorem ZjV(hN:X.N.Nodup)(hi:X.N[i]?=some x)(hx:Mt X.env.scope x)(he:PE X e te)(hs:swapsWith e (some (.Name x pos')) pos.line X.env=pure false:=by rfl)(hf:X.fn x=true\/X.env.scope.names.lookup x=some .local:=by first|exact .inl rfl|exact .inr rfl|assumption):
  PS X (.Assign [.Name x pos'] e pos) (Xm te (Ti i)):=by
 intro Za s σ H D I h;refine wpAny_Assign_Name (Qb (he Za s σ H _ I h) fun v s1 ⟨y,H1,I1,r1,q1⟩=>?_) hs;exact P4 I1 hN hi hx r1 (fun s2 I2=>⟨_,H1,I2,q1⟩) hf
noncomputable def Zaj(i:Nat)(te:TE)(ti:T6):TS:=fun D σ H=>∃x,σ[i]?=some (some x)/\te σ H fun y H1=>ti x y H1 fun z H2=>D.nx (σ.set i (some z)) H2
theorem ZjS(hN:X.N.Nodup)(hi:X.N[i]?=some x)(hx:Mt X.env.scope x)(he:PE X e te)(ho:ZF X op ti)(hf:X.fn x=true\/X.env.scope.names.lookup x=some .local:=by first|exact .inl rfl|exact .inr rfl|assumption):
  PS X (.AugAssign (.Name x pos') op e pos) (Zaj i te ti):=by
 intro Za s σ H D I h;obtain⟨v,e1,h⟩:=h;obtain⟨m,hn,hl⟩:=I.loc;have vis:V1 X.env.scope x:=by rcases hx with k|k;exact .inl k;exact .inr (.inl k)
 obtain⟨u,r,l⟩:=hl i x v hi e1 vis;refine wpAny_AugAssign_Name ?_;have go:Ra (Na X.prog X.w) X.A (eval e X.env) (fun w s₂=>Ra (Na X.prog X.w) X.A (inplaceOp op u w) (fun r s₃=>Ra (Na X.prog X.w) X.A (storeName X.env x r) (fun _=>SP X Za D .next) X.xe s₃) X.xe s₂) X.xe s:=by
  refine Qb (he Za s σ H _ I h) fun w s1 ⟨y,H1,I1,r1,q1⟩=>?_;refine Qb (ho Za s1 σ H1 v y u w _ I1 r r1 q1) fun z s2 ⟨zv,H2,I2,r2,q2⟩=>?_;exact P4 I2 hN hi hx r2 (fun s3 I3=>⟨_,H2,I3,q2⟩) hf
 rcases l with ⟨hk,hm⟩|⟨hk,c,hc,hcell⟩
 ·exact wpAny_loadName_local I.ok.kind hk hn hm go
 ·rcases hk with hk|hk
  ·exact wpAny_loadName_cell I.ok.kind hk hc hcell go
  ·rcases hx with k|k
   ·have:X.env.scope.names.lookup x=some .free:=hk
    rw[k] at this;cases this
   ·have:X.env.scope.names.lookup x=some .free:=hk
    rw[k] at this;cases this
noncomputable def Zak(to ti te:TE)(tget:V->V->Hp->VK->Prop)(tip:T6)(tset:AF):TS:=fun D σ H=>to σ H fun o H1=>ti σ H1 fun i H2=>tget o i H2 fun x H3=>te σ H3 fun y H4=>tip x y H4 fun z H5=>tset o i z H5 fun H6=>D.nx σ H6
def YE(X:Cx)(t:V->V->Hp->VK->Prop):Prop:=
 ∀(Za:List (Ja×Obj)) (s:Ga) (σ:St) (H:Hp) (o i:V) (ov iv:Va) (Q:VK),Ca X Za σ H s->Ob o ov->Ob i iv->t o i H Q ->
  Ra (Na X.prog X.w) X.A (getItem ov iv) (EP X Za σ Q) X.xe s
theorem ZjT(ho:PE X o to)(hi:PE X i ti)(hg:YE X tget)(he:PE X e te)(hp:ZF X op tip)(hs:VF X tset)(ha:∀ov iv new,augStore i ov iv new=(do holding [new,ov,iv] (setItem ov iv new);release [new,ov,iv] [];pure .next):=by intros;rfl): PS X (.AugAssign (.Subscript o i tpos) op e pos) (Zak to ti te tget tip tset):=by
 intro Za s σ H D I h;refine wpAny_AugAssign_SubscriptAny (Qb (ho Za s σ H _ I h) fun ov s1 ⟨x1,H1,I1,r1,q1⟩=>?_) ha;refine Qb (hi Za s1 σ H1 _ I1 q1) fun iv s2 ⟨x2,H2,I2,r2,q2⟩=>?_;refine Qb (hg Za s2 σ H2 x1 x2 ov iv _ I2 r1 r2 q2) fun old s3 ⟨x3,H3,I3,r3,q3⟩=>?_;refine Qb (he Za s3 σ H3 _ I3 q3) fun v s4 ⟨x4,H4,I4,r4,q4⟩=>?_;refine Qb (hp Za s4 σ H4 x3 x4 old v _ I4 r3 r4 q4) fun new s5 ⟨x5,H5,I5,r5,q5⟩=>?_;exact Qb (hs Za s5 σ H5 x1 x2 x5 ov iv new _ I5 r1 r2 r5 q5) fun _ s6 ⟨H6,I6,q6⟩=>⟨σ,H6,I6,q6⟩
noncomputable def UI(f:Int->Int->Int):T6:=fun x y H Q=>∃i j,x=.int i/\y=.int j/\Q (.int (f i j)) H
theorem OU:ZF X .Add (UI fun i j=>i+j):=by
 intro Za s σ H x y v u Q I r1 r2 h;obtain⟨i,j,e1,e2,q⟩:=h;subst e1;subst e2;obtain⟨t,rfl⟩:=r1;obtain⟨t',rfl⟩:=r2;exact iadd_int ⟨.int _,H,I.tok _,⟨_,rfl⟩,q⟩
noncomputable def ZaB(c:TT)(tb:TS):TS:=fun D σ H=>∃W:Nat->St->Hp->Prop,(∃m,W m σ H)/\∀m σ H,W m σ H ->
 c σ H fun b H1=>if b=true then ∃N:St->Hp->Prop,(∀σ' H',N σ' H'->∃m',m'<m/\W m' σ' H')/\tb { D with nx:=N,ct:=N,bk:=D.nx } σ H1 else D.nx σ H1
theorem N9(hp:PassesOwn (Na X.prog X.w) X.A X.env X.xe)(hc:PT X c tc)(hb:Wg X body tb): PS X (.While c body [] pos) (ZaB tc tb):=by
 intro Za s σ H D I h;obtain⟨W,⟨m0,w0⟩,turn⟩:=h;refine wpAny_While (codeAny_whileLoop (fun n s'=>∃σ' H',Ca X Za σ' H' s'/\W n σ' H') ?_ m0 ⟨σ,H,I,w0⟩);rintro n s1 ⟨σ1,H1,I1,w1⟩;refine Zv hp (Qb (hc Za s1 σ1 H1 _ I1 (turn n σ1 H1 w1)) fun b s2 ⟨H2,I2,q2⟩=>?_);cases b with
 |true =>
  obtain⟨N,hN,q2⟩:=q2;rw[Da rfl];refine Zv hp (Qb (hb Za s2 σ1 H2 _ I2 q2) fun f s3 q3=>?_);cases f with
  |next =>
   obtain⟨σ3,H3,I3,n3⟩:=q3;obtain⟨m',hm,w3⟩:=hN σ3 H3 n3;exact⟨m',hm,σ3,H3,I3,w3⟩
  |cont =>
   obtain⟨σ3,H3,I3,n3⟩:=q3;obtain⟨m',hm,w3⟩:=hN σ3 H3 n3;exact⟨m',hm,σ3,H3,I3,w3⟩
  |brk=>exact q3
  |ret v=>exact q3
 |false =>
  rw[Qa Bool.false_ne_true];exact C6 ⟨σ1,H2,I2,q2⟩
end
structure It where
 go:Nat->Hp->Prop
 yld:Nat->Hp->V->Hp->Prop
 stop:Nat->Hp->Prop
def Um(X:Cx)(Za:List (Ja×Obj))(H:Hp)(b:Ja):Prop:=
 H b=none/\b≠X.env.locals/\b ∉ X.fs/\(b∈X.ex\/X.s₀.heap.objs.size<=b)/\(∀x c,X.env.cells.lookup x=some c->c≠b)/\∀p∈X.pn++Za,p.1≠b
theorem Ca.fpOk(I:Ca X Za σ H s)(hb:s.heap.objs.size<=b)(hn:H' b=none): Um X Za H' b:=by
 refine⟨hn,Oz (Mg I.lt hb),I.nofs hb,.inr (Se I.sz hb),fun x c e z=>?_,fun p hp z=>?_⟩
 ·obtain⟨v,q⟩:=I.cell x c e
  exact Eb (Mg q.lt (by rw[z];exact hb)) (Zl _)
 ·exact Eb (Mg (Heap.lt_size (I.pin p hp).1) (by rw[z];exact hb)) (Zl _)
structure Gv(P:Bc)(w:Jc)(K:ZlR)(tg:Expr)(J:It)(fp:LI2)(it:Ja)(tn:Nat->Heap->Prop):Prop where
 mem:it∈fp
 obj:∀i h,tn i h->∀b∈fp,∃o,h.get? b=some o/\∀v,o.data≠.cell v
 keep:∀i h h',tn i h->(∀b∈fp,∀o,h.get? b=some o->h'.get? b=some o)->tn i h'
 item:∀(X:Cx),X.prog=P->X.w=w->X.K=K->X.calm=true->∀(i:Nat) (Za:List (Ja×Obj)) (s:Ga) (σ:St) (H:Hp) (E:Va->Ga->Prop),Ca X Za σ H s->(∀b∈fp,Um X Za H b)->tn i s.heap->J.go i H ->
  Ra (Na P w) X.A (pyNext (.ref it)) (fun r s1=>∃u,r=some u /\
   Ra (Na P w) X.A (ND tg (.ref it) u) (fun _ s2=>∃x H',Ca X Za σ H' s2/\Ob x u/\J.yld i H x H'/\tn (i+1) s2.heap/\∀b∈fp,H' b=none) E s1) E s
 done:∀(X:Cx),X.prog=P->X.w=w->X.K=K->X.calm=true->∀(i:Nat) (Za:List (Ja×Obj)) (s:Ga) (σ:St) (H:Hp) (E:Va->Ga->Prop),Ca X Za σ H s->(∀b∈fp,Um X Za H b)->tn i s.heap->J.stop i H ->
  Ra (Na P w) X.A (pyNext (.ref it)) (fun r s1=>r=none/\Ca X Za σ H s1) E s
 self:∀(A:Pd) (i:Nat) (s:Ga) (Q:Va->Ga->Prop) (E:Va->Ga->Prop),tn i s.heap->Q (.ref it) s->Ra (Na P w) A (pyIter (.ref it)) Q E s
noncomputable abbrev TI:=St->Hp->(It->Hp->Prop)->Prop
def ZP(X:Cx)(Za:List (Ja×Obj))(σ:St)(tg:Expr)(R:It->Hp->Prop)(itv:Va)(s2:Ga):Prop:=
 ∃(it:Ja) (fp:LI2) (tn:Nat->Heap->Prop) (J:It) (H':Hp),itv=.ref it/\Ca X Za σ H' s2/\Gv X.prog X.w X.K tg J fp it tn/\tn 0 s2.heap/\(∀b∈fp,Um X Za H' b)/\R J H'
def PI(X:Cx)(tg iter:Expr)(wi:TI):Prop:=
 ∀(Za:List (Ja×Obj)) (s:Ga) (σ:St) (H:Hp) (R:It->Hp->Prop),Ca X Za σ H s->wi σ H R ->
  Ra (Na X.prog X.w) X.A (eval iter X.env) (fun v s1=>Ra (Na X.prog X.w) X.A (pyIter v) (ZP X Za σ tg R) X.xe s1) X.xe s
theorem RH(ho:s.heap.get? it=some o)(hc:o.cls=.type n)(hd:o.data=.fields vs)(hn:["enumerate", "zip", "dict_itemiterator", "dict_reverseitemiterator", "odict_iterator", "itertools.zip_longest", "itertools.pairwise"].contains n=false)(hQ:Q () s): Ra M A (ND tg (.ref it) u) Q E s:=by
 unfold ND;cases tg<;>first
  |exact Ib hQ
  |(cases u<;>first
    |exact Ib hQ
    |(refine Ia (wpAny_load ho ?_)
      rw[hc,hd];show Ra M A (if (["enumerate", "zip", "dict_itemiterator", "dict_reverseitemiterator", "odict_iterator", "itertools.zip_longest", "itertools.pairwise"].contains n&&vs[0]?==some (rawInt _))=true then _ else _) Q E s;rw[Qa (by intro h;rw[hn,Bool.false_and] at h;cases h)];exact Ib hQ))
noncomputable def KE(K:ZlR)(a:Ja):It:=
 ⟨fun i H=>∃xs x,Yb K H a xs/\xs[i]?=some x,fun i H x H'=>H'=H/\∀xs,Yb K H a xs->xs[i]?=some x,fun i H=>∃xs,Yb K H a xs/\xs.length<=i⟩
noncomputable def ME(K:ZlR)(a:Ja):It:=
 ⟨fun i H=>∃xs x,Af K H a xs/\xs[i]?=some x,fun i H x H'=>H'=H/\∀xs,Af K H a xs->xs[i]?=some x,fun i H=>∃xs,Af K H a xs/\xs.length<=i⟩
noncomputable def O0(lo:Int)(n:Nat):It:=⟨fun i _=>i<n,fun i H x H'=>H'=H/\x=.int (lo+i),fun i _=>n<=i⟩
theorem Zlf{P:Bc}{w:Jc}{K:ZlR}{tg:Expr}(a it:Ja):Gv P w K tg (KE K a) [it] it (fun i h=>h.IsListIter it a i) where
 mem:=by simp
 obj:=fun i h st b hb=>by
  have e:b=it:=by simpa using hb
  subst e;obtain⟨o,e,c,d⟩:=st;exact⟨o,e,fun v z=>by rw[d] at z;cases z⟩
 keep:=fun i h h' st k=>st.at fun o e=>k it (by simp) o e
 item:=by
  intro X hP hw hK hc i Za s σ H E I hf st hg;subst hP hw hK;obtain⟨xs,x,hq,hx⟩:=hg;obtain⟨its,rv,p,hz⟩:=I.list hq;obtain⟨u,hu,ru⟩:=rv.get hx;obtain⟨f0,f1,f2,f3,f4,f5⟩:=hf it (by simp);refine wpAny_pyNext_list_item st p.isList (x:=u) (by simpa using hu) fun h' Ba sb=>?_;have I1:Ca X Za σ H { s with heap:=h' }:=I.turned (t':=s.toks) (fun b o hb e=>(sb.2 b hb).trans e) f0 f1 f3 f4 f5;obtain⟨o,e,c,d⟩:=id Ba;exact⟨u,rfl,RH (s:={ s with heap:=h' }) e c d (by decide) ⟨x,H,I1,ru,⟨rfl,fun ys hy=>by rw[I.list_inj hy hq];exact hx⟩,Ba,fun b hb=>(hf b hb).1⟩⟩
 done:=by
  intro X hP hw hK hc i Za s σ H E I hf st hg;subst hP hw hK;obtain⟨xs,hq,hx⟩:=hg;obtain⟨its,rv,p,hz⟩:=I.list hq;obtain⟨f0,f1,f2,f3,f4,f5⟩:=hf it (by simp);have hl:=rv.length;exact wpAny_pyNext_list_end (I.ok.hd hc) st p.isList (by simp;lia) fun h' eb=>⟨rfl,I.turned (t':=s.toks) (fun b o hb e=>eb b o hb e) f0 f1 f3 f4 f5⟩
 self:=fun _ _ _ _ _ st h=>wpAny_pyIter_listiter st h
theorem Zlh{P:Bc}{w:Jc}{K:ZlR}{tg:Expr}(a it:Ja):Gv P w K tg (ME K a) [it] it (fun i h=>h.IsTupleIter it a i) where
 mem:=by simp
 obj:=fun i h st b hb=>by
  have e:b=it:=by simpa using hb
  subst e;obtain⟨o,e,c,d⟩:=st;exact⟨o,e,fun v z=>by rw[d] at z;cases z⟩
 keep:=fun i h h' st k=>st.at fun o e=>k it (by simp) o e
 item:=by
  intro X hP hw hK hc i Za s σ H E I hf st hg;subst hP hw hK;obtain⟨xs,x,hq,hx⟩:=hg;obtain⟨its,rv,p,hz⟩:=I.tuple hq;obtain⟨u,hu,ru⟩:=rv.get hx;obtain⟨f0,f1,f2,f3,f4,f5⟩:=hf it (by simp);refine wpAny_pyNext_tuple_item st (show s.heap.IsTuple a its.toArray from p) (x:=u) (by simpa using hu) fun h' Ba sb=>?_;have I1:Ca X Za σ H { s with heap:=h' }:=I.turned (t':=s.toks) (fun b o hb e=>(sb.2 b hb).trans e) f0 f1 f3 f4 f5;obtain⟨o,e,c,d⟩:=id Ba;exact⟨u,rfl,RH (s:={ s with heap:=h' }) e c d (by decide) ⟨x,H,I1,ru,⟨rfl,fun ys hy=>by rw[I.tuple_inj hy hq];exact hx⟩,Ba,fun b hb=>(hf b hb).1⟩⟩
 done:=by
  intro X hP hw hK hc i Za s σ H E I hf st hg;subst hP hw hK;obtain⟨xs,hq,hx⟩:=hg;obtain⟨its,rv,p,hz⟩:=I.tuple hq;obtain⟨f0,f1,f2,f3,f4,f5⟩:=hf it (by simp);have hl:=rv.length;exact wpAny_pyNext_tuple_end (I.ok.hd hc) st (show s.heap.IsTuple a its.toArray from p) (by simp;lia) fun h' eb=>⟨rfl,I.turned (t':=s.toks) (fun b o hb e=>eb b o hb e) f0 f1 f3 f4 f5⟩
 self:=fun _ _ _ _ _ st h=>wpAny_pyIter_tupleiter st h
theorem Zlg{P:Bc}{w:Jc}{K:ZlR}{tg:Expr}(it:Ja)(lo:Int)(n:Nat):Gv P w K tg (O0 lo n) [it] it (fun i h=>IsRangeIter h it (lo+(i:Nat)*1) ((n:Int)-(i:Nat)) 1) where
 mem:=by simp
 obj:=fun i h st b hb=>by
  have e:b=it:=by simpa using hb
  subst e;exact⟨_,st,fun v z=>by
   have z':Data.fields _=Data.cell v:=z;cases z'⟩
 keep:=fun i h h' st k=>k it (by simp) _ st
 item:=by
  intro X hP hw hK hc i Za s σ H E I hf st hg;subst hP hw hK;obtain⟨f0,f1,f2,f3,f4,f5⟩:=hf it (by simp);have W:=Walks.range (prog:=X.prog) (w:=X.w) (I.ok.hd hc) it lo 1 n;refine W.item i s _ _ hg st fun v h' tk hv Ba kk=>?_;obtain⟨t,rfl⟩:=hv;have I1:Ca X Za σ H { s with heap:=h',toks:=tk }:=I.turned (fun b o hb e=>kk b o (by simpa using hb) e) f0 f1 f3 f4 f5;refine⟨_,rfl,RH (s:={ s with heap:=h',toks:=tk }) (n := "range_iterator") Ba rfl rfl (by decide) ⟨.int (lo+i),H,I1,⟨t, ?_⟩,⟨rfl,rfl⟩,Ba,fun b hb=>(hf b hb).1⟩⟩;rw[Int.mul_one]
 done:=by
  intro X hP hw hK hc i Za s σ H E I hf st hg;subst hP hw hK;obtain⟨f0,f1,f2,f3,f4,f5⟩:=hf it (by simp);exact wpAny_pyNext_range_end (I.ok.hd hc) st (by have:n<=i:=hg;lia) fun h' eb=>⟨rfl,I.turned (t':=s.toks) (fun b o hb e=>eb b o hb e) f0 f1 f3 f4 f5⟩
 self:=fun _ _ _ _ _ st h=>wpAny_pyIter_rangeiter st h
section
variable {X:Cx}{tg:Expr}
noncomputable def X2(K:ZlR)(tl:TE):TI:=fun σ H R=>tl σ H fun x H1=>∃a,x=.ref a/\(∃xs,Yb K H1 a xs)/\R (KE K a) H1
noncomputable def ZI(K:ZlR)(tl:TE):TI:=fun σ H R=>tl σ H fun x H1=>∃a,x=.ref a/\(∃xs,Af K H1 a xs)/\R (ME K a) H1
theorem ZjL{l:Expr}{tl:TE}(hl:PE X l tl):PI X tg l (X2 X.K tl):=by
 intro Za s σ H R I h;refine Qb (hl Za s σ H _ I h) fun v s1 ⟨x,H1,I1,r1,q1⟩=>?_;obtain⟨a,e,⟨xs,hq⟩,q⟩:=q1;subst e;cases r1;obtain⟨its,rv,p,hz⟩:=I1.list hq;refine wpAny_pyIter_list p.isList ?_;refine⟨s1.heap.objs.size,[s1.heap.objs.size],_,_,H1,rfl,I1.kept (t':=s1.toks) fun b o e=>Heap.get?_push_of_some _ e,Zlf a _,⟨_,Heap.get?_push_size _ rfl,rfl,rfl⟩,fun b hb=>?_,q⟩;have e:b=s1.heap.objs.size:=by simpa using hb
 subst e;exact I1.fpOk (Db _) (I1.hok.fresh (Db _))
theorem ZjM{l:Expr}{tl:TE}(hl:PE X l tl):PI X tg l (ZI X.K tl):=by
 intro Za s σ H R I h;refine Qb (hl Za s σ H _ I h) fun v s1 ⟨x,H1,I1,r1,q1⟩=>?_;obtain⟨a,e,⟨xs,hq⟩,q⟩:=q1;subst e;cases r1;obtain⟨its,rv,p,hz⟩:=I1.tuple hq;refine wpAny_pyIter_tuple (show s1.heap.IsTuple a its.toArray from p) ?_;refine⟨s1.heap.objs.size,[s1.heap.objs.size],_,_,H1,rfl,I1.kept (t':=s1.toks) fun b o e=>Heap.get?_push_of_some _ e,Zlh a _,⟨_,Heap.get?_push_size _ rfl,rfl,rfl⟩,fun b hb=>?_,q⟩;have e:b=s1.heap.objs.size:=by simpa using hb
 subst e;exact I1.fpOk (Db _) (I1.hok.fresh (Db _))
theorem RY{lo hi: Int}(I:Ca X Za σ H s)(h1:-(2^62)<=lo)(h2:lo<2^62)(h3:-(2^62)<=hi)(h4:hi<2^62)(q:R (O0 lo (hi-lo).toNat) H): Ra (Na X.prog X.w) X.A (pyIter (.ref s.heap.objs.size)) (ZP X Za σ tg R) E { s with heap:=s.heap.push { cls:=.type "range",data:=.fields #[.int lo t,.int hi u,.int 1 v] },toks:=tk }:=by
 refine wpAny_pyIter_range (IsRange.new ..) (small_one h1 h2 h3 h4) ?_;have I1:Ca X Za σ H { s with heap:=s.heap.push { cls:=.type "range",data:=.fields #[.int lo t,.int hi u,.int 1 v] },toks:=tk }:=I.kept fun b o e=>Heap.get?_push_of_some _ e;refine⟨(s.heap.push { cls:=.type "range",data:=.fields #[.int lo t,.int hi u,.int 1 v] }).objs.size,[(s.heap.push { cls:=.type "range",data:=.fields #[.int lo t,.int hi u,.int 1 v] }).objs.size],_,_,H,rfl,
  I1.kept (t':=tk) fun b o e=>Heap.get?_push_of_some _ e,Zlg _ lo (hi-lo).toNat, ?_,fun b hb=>?_,q⟩
 ·have e1:lo+((0:Nat):Int)*1=lo:=by simp
  have e2:(((hi-lo).toNat:Nat):Int)-((0:Nat):Int)=Builtin.Range.rangeSize lo hi 1:=by rw[rangeSize_one];split<;>lia
  show IsRangeIter _ _ (lo+((0:Nat):Int)*1) ((((hi-lo).toNat:Nat):Int)-((0:Nat):Int)) 1;rw[e1,e2];exact Heap.get?_push_size _ rfl
 ·have e:b=(s.heap.push { cls:=.type "range",data:=.fields #[.int lo t,.int hi u,.int 1 v] }).objs.size:=by simpa using hb
  subst e;exact I1.fpOk (Db _) (I1.hok.fresh (Db _))
noncomputable def GU(ta:TA):TI:=fun σ H R=>ta σ H fun vs H1=>∃j:Int,vs=[.int j]/\-(2^62)<=j/\j<2^62/\R (O0 0 j.toNat) H1
noncomputable def HU(ta:TA):TI:=fun σ H R=>ta σ H fun vs H1=>∃i j:Int,vs=[.int i,.int j]/\(-(2^62)<=i/\i<2^62/\-(2^62)<=j/\j<2^62)/\R (O0 i (j-i).toNat) H1
theorem Sm(hg:Gl X "range")(hm:X.mg "range"=none)(ha:PA X [a] ta)(hs:Tc [a] X.env=[(false,eval a X.env)]:=by rfl): PI X tg (.Call (.Name "range" p) [a] [] pos) (GU ta):=by
 intro Za s σ H R I h;refine Call_ (Lr I hg hm boot_range (PyProof.Rows.callWith_type1 (Qb (ha pos Za s σ H _ I h) fun us s1 ⟨vs,H1,I1,r1,q1⟩=>?_) hs rfl));obtain⟨j,e,q1,q2,q⟩:=q1;subst e;cases r1 with
 |cons r rr =>
  cases rr;obtain⟨t,rfl⟩:=r;exact call_range_1 (RY I1 (by lia) (by lia) q1 q2 (by simpa using q))
theorem QK(hg:Gl X "range")(hm:X.mg "range"=none)(ha:PA X [a,b] ta)(hs:Tc [a,b] X.env=[(false,eval a X.env),(false,eval b X.env)]:=by rfl)(hs2:Tc [b] X.env=[(false,eval b X.env)]:=by rfl):
  PI X tg (.Call (.Name "range" p) [a,b] [] pos) (HU ta):=by
 intro Za s σ H R I h;refine Call_ (Lr I hg hm boot_range (PyProof.Rows.callWith_type1 (Qb (ha pos Za s σ H _ I h) fun us s1 ⟨vs,H1,I1,r1,q1⟩=>?_) (by rw[hs,hs2]) (by rw[hs2];rfl)));obtain⟨i,j,e,⟨q1,q2,q3,q4⟩,q⟩:=q1;subst e;cases r1 with
 |cons r rr =>
  cases rr with
  |cons r' rr =>
   cases rr;obtain⟨t,rfl⟩:=r;obtain⟨t',rfl⟩:=r';exact call_range_2 (RY I1 q1 q2 q3 q4 q)
noncomputable def ZM(wi:TI)(g:TG)(tb:TS):TS:=fun D σ H=>wi σ H fun J H1=>∃W:Nat->Nat->St->Hp->Prop,(∃m,W 0 m σ H1)/\∀i m σ H,W i m σ H ->
 (J.stop i H/\D.nx σ H)\/(J.go i H/\∃N:St->Hp->Prop,(∀σ' H',N σ' H'->∃m',m'<m/\W (i+1) m' σ' H')/\∀x H',J.yld i H x H'->g x σ H' fun σ2 H2=>tb { D with nx:=N,ct:=N,bk:=D.nx } σ2 H2)
noncomputable def L9(fp:LI2)(h:Heap):List (Ja×Obj):=fp.filterMap fun b=>(h.get? b).map fun o=>(b,o)
theorem Ww(hb:b∈fp)(e:h.get? b=some o): (b,o)∈L9 fp h:=CN.mpr ⟨b,hb,by rw[e];rfl⟩
theorem Ziz(hp:p∈L9 fp h): p.1∈fp/\h.get? p.1=some p.2:=by
 obtain⟨b,hb,e⟩:=CN.mp hp;cases q:h.get? b with
 |none=>rw[q] at e;cases e
 |some o =>
  rw[q] at e;have e':(b,o)=p:=Option.some.inj e;subst e';exact⟨hb,q⟩
theorem Ca.pinned(I:Ca X Za σ H s)(hf:∀b∈fp,Um X Za H b)(ho:∀b∈fp,∃o,s.heap.get? b=some o/\∀v,o.data≠.cell v): Ca X (Za++L9 fp s.heap) σ H s:=
 I.pins_of fun p hp=>(Nc.mp hp).elim (fun z=>I.pin p (Td _ z)) fun z=>by
  obtain⟨hb,e⟩:=Ziz z;obtain⟨f0,f1,f2,_⟩:=hf p.1 hb;obtain⟨o,e',d⟩:=ho p.1 hb;rw[e] at e';cases e';exact⟨e,f0,f1,f2,d⟩
theorem Ca.unpinned(I:Ca X (Za++pl) σ H s): Ca X Za σ H s:=I.pins_of fun p hp=>I.pin p (Td _ (Zf _ hp))
theorem ZjU(hp:PassesOwn (Na X.prog X.w) X.A X.env X.xe)(hc:X.calm=true)(hi:PI X tg iter wi)(hg:PG X tg g)(hb:Wg X body tb)(hs:∀x,Tz iter X.env x=pure x:=by exact fun _=>rfl): PS X (.For tg iter body [] pos) (ZM wi g tb):=by
 intro Za s σ H D I h;refine wpAny_For (Qb (hi Za s σ H _ I h) fun v s1 h1=>Qb h1 fun itv s2 h2=>?_) hs;obtain⟨it,fp,tn,J,H2,e,I2,T,st2,f2,W,⟨m0,w0⟩,turn⟩:=h2;subst e;have stat:∀{H':Hp},(∀b∈fp,H' b=none)->∀b∈fp,Um X Za H' b:=fun hn b hb=>⟨hn b hb,(f2 b hb).2⟩
 refine codeAny_forLoop_any (fun n s'=>∃i σ' H',Ca X Za σ' H' s'/\tn i s'.heap/\(∀b∈fp,H' b=none)/\W i n σ' H') ?_ m0 ⟨0,σ,H2,I2,st2,fun b hb=>(f2 b hb).1,w0⟩;rintro n s3 ⟨i,σ3,H3,I3,Ec,fr3,w3⟩;rcases turn i n σ3 H3 w3 with ⟨stop,qn⟩|⟨go,N,hN,step⟩
 ·refine Zv hp (Qb (T.done X rfl rfl rfl hc i Za s3 σ3 H3 X.xe I3 (stat fr3) Ec stop) fun r s4 ⟨hr,I4⟩=>?_)
  subst hr;exact C6 ⟨σ3,H3,I4,qn⟩
 ·refine Zv hp (Qb (T.item X rfl rfl rfl hc i Za s3 σ3 H3 X.xe I3 (stat fr3) Ec go) fun r s4 ⟨u,hr,h4⟩=>?_)
  subst hr;refine Zv hp (Qb h4 fun _ s5 ⟨x,H5,I5,r5,y5,st5,fr5⟩=>?_);have I5':=I5.pinned (stat fr5) (T.obj _ _ st5);refine Zv hp (Qb (hg _ s5 σ3 H5 x u _ I5' r5 (step x H5 y5)) fun _ s6 ⟨σ6,H6,I6,q6⟩=>?_);refine Zv hp (Qb (hb _ s6 σ6 H6 _ I6 q6) fun f s7 q7=>?_);have again:∀{σ7:St}{H7:Hp},Ca X (Za++L9 fp s5.heap) σ7 H7 s7->N σ7 H7->∃m,m<n/\∃i σ' H',Ca X Za σ' H' s7/\tn i s7.heap/\(∀b∈fp,H' b=none)/\W i m σ' H':=fun {σ7 H7} I7 n7=>by
   obtain⟨m',hm,w7⟩:=hN σ7 H7 n7;refine⟨m',hm,i+1,σ7,H7,I7.unpinned,T.keep _ _ _ st5 fun b hb o e=>(I7.pin (b,o) (Td _ (Td _ (Ww hb e)))).1,fun b hb=>?_,w7⟩;obtain⟨o,e,d⟩:=T.obj _ _ st5 b hb;exact(I7.pin (b,o) (Td _ (Td _ (Ww hb e)))).2.1
  cases f with
  |next=>obtain⟨σ7,H7,I7,n7⟩:=q7;exact again I7 n7
  |cont=>obtain⟨σ7,H7,I7,n7⟩:=q7;exact again I7 n7
  |brk=>obtain⟨σ7,H7,I7,q7⟩:=q7;exact⟨σ7,H7,I7.unpinned,q7⟩
  |ret v=>obtain⟨x7,σ7,H7,I7,r7,q7⟩:=q7;exact⟨x7,σ7,H7,I7.unpinned,r7,q7⟩
end
noncomputable abbrev R2:=V->V->Hp->VK->Prop
def Xf(X:Cx)(f:Va->Va->Sem Va)(r:R2):Prop:=
 ∀(Za:List (Ja×Obj)) (s:Ga) (σ:St) (H:Hp) (x y:V) (v u:Va) (Q:VK),Ca X Za σ H s->Ob x v->Ob y u->r x y H Q ->
  Ra (Na X.prog X.w) X.A (f v u) (EP X Za σ Q) X.xe s
def CF(X:Cx)(f:Va->Sem Va)(r:V->Hp->VK->Prop):Prop:=
 ∀(Za:List (Ja×Obj)) (s:Ga) (σ:St) (H:Hp) (x:V) (v:Va) (Q:VK),Ca X Za σ H s->Ob x v->r x H Q ->
  Ra (Na X.prog X.w) X.A (f v) (EP X Za σ Q) X.xe s
def Og(X:Cx)(f:Va)(r:List V->Hp->VK->Prop):Prop:=
 ∀(Za:List (Ja×Obj)) (s:Ga) (σ:St) (H:Hp) (xs:List V) (us:LI3) (Q:VK),Ca X Za σ H s->Ab xs us->r xs H Q ->
  Ra (Na X.prog X.w) X.A (call f us) (EP X Za σ Q) X.xe s
def ZbN(X:Cx)(r:V->Hp->(Bool->Hp->Prop)->Prop):Prop:=
 ∀(Za:List (Ja×Obj)) (s:Ga) (σ:St) (H:Hp) (x:V) (v:Va) (Q:Bool->Hp->Prop),Ca X Za σ H s->Ob x v->r x H Q ->
  Ra (Na X.prog X.w) X.A (truthy v) (TP X Za σ Q) X.xe s
noncomputable def Pf(r:R2)(ta tb:TE):TE:=fun σ H Q=>ta σ H fun x H1=>tb σ H1 fun y H2=>r x y H2 Q
noncomputable def BM(r:V->Hp->VK->Prop)(ta:TE):TE:=fun σ H Q=>ta σ H fun x H1=>r x H1 Q
noncomputable def rI(C:Int->Int->Prop)(g:Int->Int->V):R2:=fun x y H Q=>∃i j,x=.int i/\y=.int j/\C i j/\Q (g i j) H
noncomputable def Ih(g:Int->Int->V):R2:=fun x y H Q=>∃i j,x=.int i/\y=.int j/\Q (g i j) H
def rU(g:Int->V):V->Hp->VK->Prop:=fun x H Q=>∃i,x=.int i/\Q (g i) H
section
variable {X:Cx}{a b:Expr}{ta tb:TE}{pos:Pos}
theorem YF(ha:PE X a ta)(hb:PE X b tb){R: V->V->Hp->Prop}(I:Ca X Za σ H s)(h:ta σ H fun x H1=>tb σ H1 fun y H2=>R x y H2){Q: Va->Ga->Prop}{f: Va->Va->Sem Va}(hf:∀v u s2 x y H2,Ca X Za σ H2 s2->Ob x v->Ob y u->R x y H2->Ra (Na X.prog X.w) X.A (f v u) Q X.xe s2):
  Ra (Na X.prog X.w) X.A (eval a X.env) (fun v s₁=>Ra (Na X.prog X.w) X.A (eval b X.env) (fun u s₂=>Ra (Na X.prog X.w) X.A (f v u) Q X.xe s₂) X.xe s₁) X.xe s:=by
 refine Qb (ha Za s σ H _ I h) fun v s1 ⟨x,H1,I1,r1,q1⟩=>?_;refine Qb (hb Za s1 σ H1 _ I1 q1) fun u s2 ⟨y,H2,I2,r2,q2⟩=>?_;exact hf v u s2 x y H2 I2 r1 r2 q2
theorem Zb{op:Operator}{r:R2}(ho:Xf X (Tq op) r)(ha:PE X a ta)(hb:PE X b tb):PE X (.BinOp a op b pos) (Pf r ta tb):=by
 intro Za s σ H Q I h;exact wpAny_BinOp (YF ha hb I h fun v u s2 x y H2 I2 rx ry q=>ho Za s2 σ H2 x y v u Q I2 rx ry q)
theorem JK(ho:CF X (unaryOp op) r)(ha:PE X a ta): PE X (.UnaryOp op a pos) (BM r ta):=by
 intro Za s σ H Q I h;exact UnaryOp_ (Qb (ha Za s σ H _ I h) fun v s1 ⟨x,H1,I1,r1,q1⟩=>ho Za s1 σ H1 x v Q I1 r1 q1)
theorem N3{f:Va->Va->Sem Va}{C:Int->Int->Prop}{g:Int->Int->Int}(rule:∀(i j:Int) (t u:Tok) (s:Ga) (Q:Va->Ga->Prop) (E:Va->Ga->Prop),C i j->Q (.int (g i j) s.toks) { s with toks:=s.toks+1 }->Ra (Na X.prog X.w) X.A (f (.int i t) (.int j u)) Q E s) :
  Xf X f (rI C fun i j=>.int (g i j)):=by
 intro Za s σ H x y v u Q I rx ry h;obtain⟨i,j,rfl,rfl,hc,q⟩:=h;obtain⟨t,rfl⟩:=rx;obtain⟨t',rfl⟩:=ry;exact rule i j t t' s _ _ hc ⟨.int (g i j),H,I.tok _,⟨_,rfl⟩,q⟩
theorem RW{f:Va->Va->Sem Va}{g:Int->Int->Int}(rule:∀(i j:Int) (t u:Tok) (s:Ga) (Q:Va->Ga->Prop) (E:Va->Ga->Prop),Q (.int (g i j) s.toks) { s with toks:=s.toks+1 }->Ra (Na X.prog X.w) X.A (f (.int i t) (.int j u)) Q E s) :
  Xf X f (Ih fun i j=>.int (g i j)):=by
 intro Za s σ H x y v u Q I rx ry h;obtain⟨i,j,rfl,rfl,q⟩:=h;obtain⟨t,rfl⟩:=rx;obtain⟨t',rfl⟩:=ry;exact rule i j t t' s _ _ ⟨.int (g i j),H,I.tok _,⟨_,rfl⟩,q⟩
theorem N8{f:Va->Va->Sem Va}{g:Int->Int->Bool}(rule:∀(i j:Int) (t u:Tok) (s:Ga) (Q:Va->Ga->Prop) (E:Va->Ga->Prop),Q (.bool (g i j)) s->Ra (Na X.prog X.w) X.A (f (.int i t) (.int j u)) Q E s) :
  Xf X f (Ih fun i j=>.bl (g i j)):=by
 intro Za s σ H x y v u Q I rx ry h;obtain⟨i,j,rfl,rfl,q⟩:=h;obtain⟨t,rfl⟩:=rx;obtain⟨t',rfl⟩:=ry;exact rule i j t t' s _ _ ⟨.bl (g i j),H,I,rfl,q⟩
def Vv(i j:Int):Prop:=0<=j/\j<=1000000/\i.natAbs<2^64
theorem Zli(k:Nat):(0:Int)<=2^k:=by
 rw[two_pow_cast];exact Int.natCast_nonneg _
theorem Uh:Xf X (Tq .Add) (Ih fun i j=>.int (i+j)):=RW fun _ _ _ _ _ _ _ q=>add_int q
theorem Yp:Xf X (Tq .Sub) (Ih fun i j=>.int (i-j)):=RW fun _ _ _ _ _ _ _ q=>sub_int q
theorem Ye:Xf X (Tq .Mod) (rI (fun _ j=>0<j) fun i j=>.int (i%j)):=N3 fun i j _ _ _ _ _ hc q=>by
 have h1:(0:Int)<j:=hc;exact mod_int' (by lia) (by rw[Int.fmod_eq_emod_of_nonneg i (by lia)];exact q)
theorem Xp:Xf X (Tq .Pow) (rI Vv fun i j=>.int (i^j.toNat)):=N3 fun _ _ _ _ _ _ _ hc q=>pow_int_small hc.1 hc.2.1 hc.2.2 q
theorem Zi7:Xf X (Tq .RShift) (rI (fun _ j=>0<=j) fun i j=>.int (i/2^j.toNat)):=N3 fun i j _ _ _ _ _ hc q =>
 rshift_int hc (by rw[Int.fdiv_eq_ediv_of_nonneg i (Zli _)];exact q)
theorem unI{f:Va->Sem Va}{g:Int->Int}(rule:∀(i:Int) (t:Tok) (s:Ga) (Q:Va->Ga->Prop) (E:Va->Ga->Prop),Q (.int (g i) s.toks) { s with toks:=s.toks+1 }->Ra (Na X.prog X.w) X.A (f (.int i t)) Q E s) :
  CF X f (rU fun i=>.int (g i)):=by
 intro Za s σ H x v Q I rx h;obtain⟨i,rfl,q⟩:=h;obtain⟨t,rfl⟩:=rx;exact rule i t s _ _ ⟨.int (g i),H,I.tok _,⟨_,rfl⟩,q⟩
theorem KM:CF X (unaryOp .USub) (rU fun i=>.int (-i)):=unI fun _ _ _ _ _ q=>neg_int q
variable {c:Expr}{tc:TE}
theorem ZT(I:Ca X Za σ H s)(q:Q (.bl k) H)(e:k=k'): EP X Za σ Q (.bool k') s:=by
 subst e;exact⟨.bl k,H,I,rfl,q⟩
theorem Nr:Xf X (Hj .Lt) (Ih fun i j=>.bl (decide (i<j))):=N8 fun _ _ _ _ _ _ _ q=>lt_int q
theorem P8:Xf X (Hj .LtE) (Ih fun i j=>.bl (decide (i<=j))):=N8 fun _ _ _ _ _ _ _ q=>le_int q
theorem Yw:Xf X (Hj .Gt) (Ih fun i j=>.bl (decide (j<i))):=N8 fun _ _ _ _ _ _ _ q=>gt_int q
theorem O8:Xf X (Hj .GtE) (Ih fun i j=>.bl (decide (j<=i))):=N8 fun _ _ _ _ _ _ _ q=>ge_int q
theorem Zi5:Xf X (Hj .Is) (fun x y H Q=>y=.non/\Q (.bl (decide (x=.non))) H):=by
 intro Za s σ H x y v u Q I rx ry h;obtain⟨rfl,q⟩:=h;cases ry;refine is_none_gen (ZT I q ?_);cases x<;>first
  |(cases rx;rfl)
  |(obtain⟨t,rfl⟩:=rx;rfl)
theorem Zi6:Xf X (Hj .IsNot) (fun x y H Q=>y=.non/\Q (.bl (!decide (x=.non))) H):=by
 intro Za s σ H x y v u Q I rx ry h;obtain⟨rfl,q⟩:=h;cases ry;refine isnot_none_gen (ZT I q ?_);cases x<;>first
  |(cases rx;rfl)
  |(obtain⟨t,rfl⟩:=rx;rfl)
theorem Df(b:Expr)(h:op≠.In:=by decide)(h2:op≠.NotIn:=by decide): A6 op b=false:=by
 have e1:(op==CmpOp.In)=false:=by cases op<;>first|rfl|exact Eb rfl h
 have e2:(op==CmpOp.NotIn)=false:=by cases op<;>first|rfl|exact Eb rfl h2
 cases b<;>simp[A6,e1,e2]
theorem Fx{op:CmpOp}{r:R2}(ho:Xf X (Hj op) r)(ha:PE X a ta)(hb:PE X b tb)(hm:A6 op b=false):PE X (.Compare a [op] [b] pos) (Pf r ta tb):=by
 intro Za s σ H Q I h;exact wpAny_Compare1 (YF ha hb I h fun v u s2 x y H2 I2 rx ry q=>ho Za s2 σ H2 x y v u Q I2 rx ry q) hm
noncomputable def UM(t:TE):TT:=fun σ H Q=>t σ H fun x H'=>∃k,x=.bl k/\Q k H'
theorem Zg(ho:Xf X (Hj op) r)(ha:PE X a ta)(hb:PE X b tb)(hm:A6 op b=false): PT X (.Compare a [op] [b] pos) (UM (Pf r ta tb)):=by
 intro Za s σ H Q I h;refine wpAny_isTrue_Compare1 (Qb (ha Za s σ H _ I h) fun v s1 ⟨x,H1,I1,r1,q1⟩=>Qb (hb Za s1 σ H1 _ I1 q1) fun u s2 ⟨y,H2,I2,r2,q2⟩ =>
  Qb (ho Za s2 σ H2 x y v u _ I2 r1 r2 q2) fun c s3 ⟨z,H3,I3,r3,k,e,q3⟩=>?_) hm
 subst e;cases r3;exact Wq ⟨H3,I3,q3⟩
noncomputable def Zan(r r':R2)(ta tb tc:TE):TE:=fun σ H Q=>ta σ H fun x H1=>tb σ H1 fun y H2=>r x y H2 fun z H3=>∃k,z=.bl k /\
 (if k=true then tc σ H3 fun w' H4=>r' y w' H4 Q else Q (.bl false) H3)
theorem TX(ho:Xf X (Hj op) r)(ho':Xf X (Hj op') r')(ha:PE X a ta)(hb:PE X b tb)(hc:PE X c tc)(hm:lastMarks [op,op'] [b,c]=false:=by with_unfolding_all rfl): PE X (.Compare a [op,op'] [b,c] pos) (Zan r r' ta tb tc):=by
 intro Za s σ H Q I h;refine Compare_chain (Qb (ha Za s σ H _ I h) fun v s1 ⟨x,H1,I1,r1,q1⟩=>chain_link (Qb (hb Za s1 σ H1 _ I1 q1) fun u s2 ⟨y,H2,I2,r2,q2⟩ =>
  Qb (ho Za s2 σ H2 x y v u _ I2 r1 r2 q2) fun d s3 ⟨z,H3,I3,r3,k,e,q3⟩=>?_)) hm
 subst e;cases r3;refine Wq ?_;cases k with
 |false=>exact ite_ff ⟨.bl false,H3,I3,rfl,q3⟩
 |true=>exact ite_tt (chain_last (Qb (hc Za s3 σ H3 _ I3 q3) fun w' s4 ⟨z',H4,I4,r4,q4⟩=>ho' Za s4 σ H4 y z' u w' Q I4 r2 r4 q4))
def BF(K:ZlR)(x:V)(H:Hp)(k:Bool):Prop:=
 match x with
 |.non=>k=false
 |.bl b=>k=b
 |.int i=>k=(i != 0)
 |.str y=>y.length<=Cc/\k=((y.length:Int) != 0)
 |.byt y=>y.size<=Cc/\k=((y.size:Int) != 0)
 |.ref p=>(∃xs,Yb K H p xs/\k=!xs.isEmpty)\/(∃xs,Af K H p xs/\k=!xs.isEmpty)\/∃Ub,H p=some (.dK Ub)/\k=!Ub.isEmpty
 |_=>False
theorem ZgA(r:KV Ub vs): (!vs.isEmpty)=!Ub.isEmpty:=by
 cases r<;>rfl
theorem RU(r:Ab xs its): (!its.toArray.isEmpty)=!xs.isEmpty:=by
 cases r<;>simp
theorem Vu:(Cc:Nat)<2^63:=by rw[sizeLine_eq];decide
theorem ZkX:ZbN X (fun x H Q=>∃k,BF X.K x H k/\Q k H):=by
 intro Za s σ H x v Q I rx h;obtain⟨k,e,q⟩:=h;have hl:=Vu;have hs:Cc=16777216:=sizeLine_eq;cases x with
 |non =>
  cases rx;have e':k=false:=e;subst e';exact truthy_none ⟨H,I,q⟩
 |bl b =>
  cases rx;have e':k=b:=e;subst e';exact Wq ⟨H,I,q⟩
 |int i =>
  obtain⟨t,rfl⟩:=rx;have e':k=(i != 0):=e;subst e';exact PySem.P.truthy_int ⟨H,I,q⟩
 |str y =>
  obtain⟨t,rfl⟩:=rx;obtain⟨hy,e'⟩:y.length<=Cc/\k=((y.length:Int) != 0):=e;subst e';exact PySem.P.truthy_str (by lia) ⟨H,I.tok _,q⟩
 |byt y =>
  obtain⟨t,rfl⟩:=rx;obtain⟨hy,e'⟩:y.size<=Cc/\k=((y.size:Int) != 0):=e;subst e';exact PySem.W.truthy_bytes (by lia) ⟨H,I.tok _,q⟩
 |ref p =>
  cases rx;have e':(∃xs,Yb X.K H p xs/\k=!xs.isEmpty)\/(∃xs,Af X.K H p xs/\k=!xs.isEmpty)\/∃Ub,H p=some (.dK Ub)/\k=!Ub.isEmpty:=e;rcases e' with ⟨xs,hx,e'⟩|⟨xs,hx,e'⟩|⟨Ub,hx,e'⟩
  ·subst e'
   obtain⟨its,r,pl,hz⟩:=I.list hx;have Ge:=r.length;exact wpAny_truthy_list pl.isList (by simp only[Ve];lia) ⟨H,I.tok _,by rw[RU r];exact q⟩
  ·subst e'
   obtain⟨its,r,pl,hz⟩:=I.tuple hx;have Ge:=r.length;exact truthy_tuple pl (by simp only[Ve];lia) ⟨H,I.tok _,by rw[RU r];exact q⟩
  ·subst e'
   obtain⟨hz,hS,vs,r,m⟩:Ub.length<=Cc/\(p==Ij)=false/\∃vs,KV Ub vs/\s.heap.DictOf (Uk X.prog X.w) p vs:=I.hok p _ hx;have Ge:Ub.length=vs.length:=Paired.length r;exact wpAny_truthy_dict hS m (by lia) ⟨H,I.tok _,by rw[ZgA r];exact q⟩
 |_=>exact(show False from e).elim
theorem ZjY(ha:PE X a ta)(he:∀whole,isTrue a X.env whole=(do let v <- whole;standAt a.pos;holding [v] (truthy v))) :
  PT X a (fun σ H Q=>ta σ H fun x H'=>∃k,BF X.K x H' k/\Q k H'):=by
 intro Za s σ H Q I h;exact isTrue_plain (Qb (ha Za s σ H _ I h) fun v s1 ⟨x,H1,I1,r1,q1⟩=>ZkX Za s1 σ H1 x v Q I1 r1 q1) (he _)
theorem Zn(r:Ab [x] us): ∃u,us=[u]/\Ob x u:=by
 cases r with
 |cons r1 r2=>cases r2;exact⟨_,rfl,r1⟩
theorem NM(r:Ab [x,y] us): ∃u w',us=[u,w']/\Ob x u/\Ob y w':=by
 cases r with
 |cons r1 r2 =>
  cases r2 with
  |cons r3 r4=>cases r4;exact⟨_,_,rfl,r1,r3⟩
theorem Zd0(hc:X.calm=true):Og X (.builtin "max") (fun xs H Q=>∃i j,xs=[.int i,.int j]/\Q (.int (if j>i then j else i)) H):=by
 intro Za s σ H xs us Q I r h;obtain⟨i,j,rfl,q⟩:=h;obtain⟨u,w',rfl,⟨t,rfl⟩,⟨t',rfl⟩⟩:=NM r;refine max_two_ints (I.ok.hd hc) fun h' tk k=>⟨_,H,I.kept k, ?_,q⟩
 by_cases hj:j>i
 ·rw[Da hj,Da hj];exact⟨_,rfl⟩
 ·rw[Qa hj,Qa hj];exact⟨_,rfl⟩
end
theorem ZhA{h: Heap}(n:h.Ns1 dx mA): ∃od,h.get? dx=some od/\∀name,PySem.W.lookIn name od=some (mA name):=by
 obtain⟨o,es,ep,ho,hd,hk,_,hm⟩:=n;refine⟨o,ho,fun name=>?_⟩;have e:=hm name;unfold nsFind findBy at e;rw[<- Array.find?_toList] at e;unfold PySem.W.lookIn;rw[hd];dsimp only
 split
 ·rename_i y q
  rw[q] at e;exact Ef some e
 ·rename_i q
  rw[q] at e;have a:es.toList.any (·.refKey)=false:=by
   rw[List.any_eq_false];intro y hy;obtain⟨z,t,hkey⟩:=hk y (Array.mem_toList_iff.mp hy);simp[DictEntry.refKey,hkey]
  have a':¬es.toList.any (·.refKey)=true:=by rw[a];exact Bool.false_ne_true
  rw[Qa a'];exact Ef some e
section
end
theorem Ln.some_of(r:Ln (some v) o): ∃u,o=some u/\Ob v u:=by
 cases o with
 |none=>exact(show False from r).elim
 |some u=>exact⟨u,rfl,r⟩
section
end
structure Cls(K:ZlR)(C:Ja):Prop where
 pg:PySem.W.plainGet K C Str.empty=true
 hd:PySem.W.hasDictIn K C=true
 po:PySem.W.plainOver K C=true
 sa:PySem.W.findIn K (.ref C) "__setattr__"=some (some (.builtin "object.__setattr__"))
section
end
structure Fe(k:Nat)(A:Pd):Prop where
 hd:A.handled=none
 dp:A.depth+3*k+5<recursionLimit
 un:A.units+16*k+200<cLine
theorem Fe.mono(r:Fe k A)(h:j<=k): Fe j A:=⟨r.hd,by have:=r.dp;lia,by have:=r.un;lia⟩
theorem Fe.deeper(r:Fe (k+1) A)(env:Env): Fe k (A.deeper env):=
 ⟨r.hd,by have:=r.dp;show A.depth+1+3*k+5<_;lia,by have:=r.un;show A.units+3+16*k+200<_;lia⟩
theorem Fe.in1(r:Fe (k+1) A): Fe k A.in1:=
 ⟨r.hd,by have:=r.dp;show A.depth+3*k+5<_;lia,by have:=r.un;show A.units+1+16*k+200<_;lia⟩
theorem Fe.depth(r:Fe k A): A.depth<recursionLimit:=by have:=r.dp;lia
theorem Fe.units(r:Fe k A): A.units+64<cLine:=by have:=r.un;lia
noncomputable def Sl:TA:=fun _ H Q=>Q [] H
noncomputable def Dk(ta:TE)(tr:TA):TA:=fun σ H Q=>ta σ H fun x H1=>tr σ H1 fun xs H2=>Q (x::xs) H2
section
variable {X:Cx}{e:Expr}{es:List Expr}{te:TE}{t:TA}{pos:Pos}
theorem Fa:PA X [] Sl:=fun _ _ _ _ H Q I h=>Calls.spliced_nil ⟨[],H,I,.nil,h⟩
theorem Ua(ha:PE X e te)(hr:PA X es t)(hs:Tc (e::es) X.env=(false,eval e X.env)::Tc es X.env:=by rfl):PA X (e::es) (Dk te t):=by
 intro pos Za s σ H Q I h;rw[hs];show Ra _ _ (spliced ((false,eval e X.env)::Fh pos (Tc es X.env))) _ _ s;refine Calls.spliced_cons (Qb (ha Za s σ H _ I h) fun u s1 ⟨x,H1,I1,r1,q1⟩=>?_);exact Qb (hr pos Za s1 σ H1 _ I1 q1) fun us s2 ⟨xs,H2,I2,r2,q2⟩=>⟨x::xs,H2,I2,.cons r1 r2,q2⟩
noncomputable def QM(t:TA):TE:=fun σ H Q=>t σ H fun xs H1=>xs.length<=Cc/\∀p,H1 p=none->Q (.ref p) (upd H1 p (.tup xs))
noncomputable def JM(t:TA):TE:=fun σ H Q=>t σ H fun xs H1=>xs.length<=Cc/\∀p,H1 p=none->Q (.ref p) (upd H1 p (.lst xs))
theorem Ui{x1}(h:PA X es t):PE X (.Tuple es x1 pos) (QM t):=by
 intro Za s σ H Q I hq;refine wpAny_Tuple_spliced (Qb (h pos Za s σ H _ I hq) fun us s1 ⟨xs,H1,I1,r,z,q⟩=>⟨by rw[<- r.length];exact z, ?_⟩);have hf:H1 s1.heap.objs.size=none:=I1.hok.fresh (Db _);refine⟨.ref s1.heap.objs.size,upd H1 s1.heap.objs.size (.tup xs),I1.laid (t':=s1.toks) (fun b u e=>Heap.get?_push_of_some _ e) (Db _) ?_,rfl,q _ hf⟩;exact⟨z,us,r,⟨_,Heap.get?_push_size _ rfl,rfl,_,rfl⟩⟩
theorem Vi(h:PA X es t):PE X (.List es pos) (JM t):=by
 intro Za s σ H Q I hq;refine wpAny_List_spliced (Qb (h pos Za s σ H _ I hq) fun us s1 ⟨xs,H1,I1,r,z,q⟩=>⟨by rw[<- r.length];exact z, ?_⟩);have hf:H1 s1.heap.objs.size=none:=I1.hok.fresh (Db _);refine⟨.ref s1.heap.objs.size,upd H1 s1.heap.objs.size (.lst xs),I1.laid (t':=s1.toks) (fun b u e=>Heap.get?_push_of_some _ e) (Db _) ?_,rfl,q _ hf⟩;exact⟨z,us,0,r,Heap.get?_push_size _ rfl⟩
end
noncomputable abbrev Sp:=List V->Hp->VK->XK->Prop
noncomputable abbrev Gn:=List Env->Hp->Ga->XK->Va->Ga->Prop
structure L6(P:Bc)(w:Jc)(K:ZlR)(mg:Str->Option Va)(base:Heap)(A:Pd)(outer:List Env)(s:Ga)(H:Hp):Prop where
 frames:A.frames=some outer
 mod:Mod K mg base
 bs:∀b o,base.get? b=some o->s.heap.get? b=some o/\H b=none
 bsz:base.objs.size<=s.heap.objs.size
 funs:s.heap.FunFrames base outer
 frf:∀b∈Pe outer,H b=none
 hok:He P w H s.heap
 bare:AllBare s.gens
 tab:UP K H
def CE(outer:List Env)(P:Bc)(w:Jc)(H:Hp)(s:Ga)(Q:VK)(u:Va)(s':Ga):Prop:=
 ∃v H',s'.os=s.os/\AllBare s'.gens/\Un (Pe outer) [] H H' s.heap s'.heap/\He P w H' s'.heap/\Ob v u/\Q v H'
def CR(CX:Gn)(outer:List Env)(P:Bc)(w:Jc)(H:Hp)(s:Ga)(Q:VK)(E:XK)(r:Result)(s':Ga):Prop:=
 match r with
 |.ok (.ret u)=>CE outer P w H s Q u s'
 |.ok _=>False
 |.error e=>CX outer H s E e s'
structure Wb(P:Bc)(w:Jc)(K:ZlR)(mg:Str->Option Va)(base:Heap)(CX:Gn)(k:Nat)(f:Ja)(fd:Fk)(ps:List Str)(sp:Sp):Prop where
 len:∀vs H Q E,sp vs H Q E->vs.length=ps.length
 run:∀(A:Pd) (outer:List Env) (s:Ga) (H:Hp) (args:Args) (us:LI3) (vs:List V) (Q:VK) (E:XK),Fe k A->L6 P w K mg base A outer s H->BindsTo s fd args (ps.zip us)->Ab vs us->sp vs H Q E ->
  codeAny (Na P w) A (.call (.ref f) args) (CR CX outer P w H s Q E) s
section
variable {X:Cx}{Za:List (Ja×Obj)}{σ:St}{H:Hp}{s s':Ga}
theorem Ca.env0(I:Ca X Za σ H s):L6 X.prog X.w X.K X.mg X.base X.A X.stack s H:=
 ⟨I.ok.frames,I.ok.mod,I.bs,Se I.ok.bsz I.sz,I.stack,I.stkFree,I.hok,I.bare,fun f c P h1=>I.base.tbls _ _ _ (I.ok.tab f c P h1)⟩
theorem Ca.after(I:Ca X Za σ H s)(h:CE X.stack X.prog X.w H s Q u s'): EP X Za σ Q u s':=by
 obtain⟨v,H',os,bare,un,hok,r,q⟩:=h;obtain⟨hh,g,d,t,os'⟩:=s';obtain rfl:os'=s.os:=os;exact⟨v,H',I.call (h':=hh) (g':=g) (d':=d) (t':=t) (ch:=[]) un hok bare (fun b z=>Eb z (by simp)),r,q⟩
end
noncomputable def Zal(sp:Sp)(dvs:List V)(E:XK)(t:TA):TE:=fun σ H Q=>t σ H fun vs H1=>sp (vs++dvs) H1 Q E
def Wo(K:ZlR)(fd:Fk)(ps:List Str)(ds:LI3):Prop:=
 ∀(s:Ga) (us:LI3),K.In s.heap->(us++ds).length=ps.length->BindsTo s fd ⟨us,[]⟩ (ps.zip (us++ds))
theorem Wo.all{K:ZlR}{fd:Fk}{ps:List Str}(h:∀us:LI3,us.length=ps.length->bindArgs fd ⟨us,[]⟩=pure (ps.zip us)):Wo K fd ps []:=fun s us _ hl=>by
 rw[Rs] at hl ⊢;exact .of_eq (h us hl)
def R6(CX:Gn)(X:Cx)(E:XK):Prop:=∀(Za:List (Ja×Obj)) (σ:St) (H:Hp) (s:Ga) (e:Va) (s':Ga),Ca X Za σ H s->CX X.stack H s E e s'->X.xe e s'
section
variable {X:Cx}{CX:Gn}{k:Nat}{f:Ja}{fd:Fk}{ps:List Str}{sp:Sp}{dvs:List V}{ds:LI3}{E:XK}{x:Str}{p pos:Pos}{e:Expr}{es:List Expr}{t:TA}
theorem VL(F:Wb X.prog X.w X.K X.mg X.base CX k f fd ps sp)(hr:Fe k X.A)(hb:Wo X.K fd ps ds)(hd:Ab dvs ds)(hx:R6 CX X E)(I:Ca X Za σ H s)(r:Ab vs us)(h:sp (vs++dvs) H Q E): Ra (Na X.prog X.w) X.A (call (.ref f) us) (EP X Za σ Q) X.xe s:=by
 have r2:Ab (vs++dvs) (us++ds):=r.append hd;have hl:(us++ds).length=ps.length:=by rw[<- r2.length];exact F.len _ _ _ _ h
 refine J0 (codeAny_mono (F.run X.A X.stack s H ⟨us,[]⟩ (us++ds) (vs++dvs) Q E hr I.env0 (hb s us I.kIn hl) r2 h) fun r s' hq=>?_);cases r with
 |error e=>exact hx Za σ H s e s' I hq
 |ok fl =>
  cases fl with
  |ret u=>exact I.after hq
  |next=>exact False.elim hq
  |brk=>exact False.elim hq
  |cont=>exact False.elim hq
theorem Zj7(F:Wb X.prog X.w X.K X.mg X.base CX k f fd ps sp)(hr:Fe k X.A)(hg:Gl X x)(hm:X.mg x=some (.ref f))(hk:PySem.W.keepIn X.K (.ref f)=true)(hb:Wo X.K fd ps ds)(hd:Ab dvs ds)(hx:R6 CX X E)(ha:PA X (e::es) t)(hdb:(x==("__debug__":Str))=false:=by decide)(he:Tc (e::es) X.env=(false,eval e X.env)::Tc es X.env:=by rfl)(hpl:(Fh pos (Tc es X.env)).any (·.1)=false:=by rfl) :
  PE X (.Call (.Name x p) (e::es) [] pos) (Zal sp dvs E t):=by
 intro Za s σ H Q I h;refine Yu (Rw I hg hm ?_ hdb);refine PySem.W.callWith_K (h₀:=X.base) I.ok.mod.kin hk (Qb (ha pos Za s σ H _ I h) fun us s1 ⟨vs,H1,I1,r,q⟩=>⟨I1.kIn, ?_⟩) he hpl;exact VL F hr hb hd hx I1 r q
theorem Zj8(F:Wb X.prog X.w X.K X.mg X.base CX k f fd ps sp)(hr:Fe k X.A)(hg:Gl X x)(hm:X.mg x=some (.ref f))(hk:PySem.W.keepIn X.K (.ref f)=true)(hb:Wo X.K fd ps ds)(hd:Ab dvs ds)(hx:R6 CX X E)(hdb:(x==("__debug__":Str))=false:=by decide):PE X (.Call (.Name x p) [] [] pos) (Zal sp dvs E Sl):=by
 intro Za s σ H Q I h;refine Yu (Rw I hg hm ?_ hdb);exact PySem.W.callWith_K0 I.kIn hk (VL (us:=[]) F hr hb hd hx I .nil h)
end
structure Uc(N P:List Str)(sc:Scope):Prop where
 kind:sc.kind=.function
 co:sc.isCoroutine=false
 gen:sc.isGenerator=false
 nd:N.Nodup
 pre:N.take P.length=P
 par:∀x∈P,sc.names.lookup x=some .local\/sc.names.lookup x=some .cell
 nofree:∀y∈sc.names,y.2≠.free
theorem UQ{Ic:Str->Option NameKind}{x:Str}:∀{binds:List (Str×Va)}{m:Str->Option Va},(∀v,(x,v) ∉ binds)->bindL Ic binds m x=m x
 |[],_,_=>rfl
 |(n,v)::r,m,h=>by
  unfold bindL;rw[UQ fun w hw=>h w (Jj _ hw)]
  split
  ·have:x≠n:=by rintro rfl;exact h v Wl
   simp[this]
  ·rfl
theorem JQ{Ic:Str->Option NameKind}{x:Str}:∀{binds:List (Str×Va)}{m:Str->Option Va},(∀v,(x,v) ∉ binds)->bindC Ic binds m x=m x
 |[],_,_=>rfl
 |(n,v)::r,m,h=>by
  unfold bindC;rw[JQ fun w hw=>h w (Jj _ hw)]
  split
  ·rfl
  ·have:x≠n:=by rintro rfl;exact h v Wl
   simp[this]
theorem VQ{Ic: Str->Option NameKind}{x: Str}: ∀{P:List Str}{vs:LI3}{i:Nat}{m:Str->Option Va},P.Nodup->P[i]?=some x->vs[i]?=some v->Ic x=some .local ->
  bindL Ic (P.zip vs) m x=some v
 |[],_,_,_,_,h,_,_=>by simp at h
 |_::_,[],_,_,_,_,h,_=>by simp at h
 |p::P,w::vs,0,m,nd,h1,h2,hk=>by
  simp at h1 h2;subst h1;subst h2;show bindL Ic ((p,w)::P.zip vs) m p=_;unfold bindL;rw[UQ fun v hv=>(Ys.mp nd).1 (HN hv).1,Da hk];simp
 |p::P,w::vs,i+1,m,nd,h1,h2,hk=>by
  show bindL Ic ((p,w)::P.zip vs) m x=_;unfold bindL;exact VQ (i:=i) (Ys.mp nd).2 (by simpa using h1) (by simpa using h2) hk
theorem ZQ{Ic: Str->Option NameKind}{x: Str}: ∀{P:List Str}{vs:LI3}{i:Nat}{m:Str->Option Va},P.Nodup->P[i]?=some x->vs[i]?=some v->Ic x≠some .local ->
  bindC Ic (P.zip vs) m x=some v
 |[],_,_,_,_,h,_,_=>by simp at h
 |_::_,[],_,_,_,_,h,_=>by simp at h
 |p::P,w::vs,0,m,nd,h1,h2,hk=>by
  simp at h1 h2;subst h1;subst h2;show bindC Ic ((p,w)::P.zip vs) m p=_;unfold bindC;rw[JQ fun v hv=>(Ys.mp nd).1 (HN hv).1,Qa hk];simp
 |p::P,w::vs,i+1,m,nd,h1,h2,hk=>by
  show bindC Ic ((p,w)::P.zip vs) m x=_;unfold bindC;exact ZQ (i:=i) (Ys.mp nd).2 (by simpa using h1) (by simpa using h2) hk
noncomputable def Dj(N:List Str)(vs:List V):St:=vs.map some++List.replicate (N.length-vs.length) none
noncomputable def Gi(CX:Gn)(P:Bc)(w:Jc)(K:ZlR)(mg:Str->Option Va)(base:Heap)(N:List Str)(qual:Str)(scope:Scope)(f:Ja)(cd:Va)(A:Pd)(outer:List Env)(s:Ga)(H:Hp)(E:XK):Cx where
 prog:=P
 w:=w
 K:=K
 mg:=mg
 base:=base
 A:=A.deeper (envOfC qual scope s.heap.objs.size f cd)
 N:=N
 s₀:=s
 H₀:=H
 env:=envOfC qual scope s.heap.objs.size f cd
 outer:=outer
 stack:=envOfC qual scope s.heap.objs.size f cd::outer
 ex:=[]
 calm:=true
 fn:=fun _=>true
 pn:=[]
 xe:=fun e s'=>Ra (Na P w) (A.deeper (envOfC qual scope s.heap.objs.size f cd)) (leaving (envOfC qual scope s.heap.objs.size f cd) e) (fun _ s''=>CX outer H s E e s'') (fun e' s''=>CX outer H s E e' s'') s'
theorem JR{sc: Scope}(h:sc.names.lookup x=some .cell): ∃c,(cellsFrom n sc.names []).lookup x=some c:=by
 have q:=PySem.W.cellsFrom_some sc.names n [] (.inl h);exact PN.mp q
theorem Zg9{CX:Gn}{P:Bc}{w:Jc}{K:ZlR}{mg:Str->Option Va}{base:Heap}{N ps:List Str}{qual:Str}{scope:Scope}{f:Ja}{cd:Va}{A:Pd}{outer:List Env}{s s1:Ga}{H:Hp}{E:XK}{us:LI3}{vs:List V}(S:Uc N ps scope)(hd:A.handled=none)(e0:L6 P w K mg base A outer s H)(hl:vs.length=ps.length)(r:Ab vs us)(x:InCallC s s.heap.objs.size (bindL (envOfC qual scope s.heap.objs.size f cd).kindOf (ps.zip us) fun _=>none) (cellsFrom (s.heap.objs.size+1) scope.names []) (bindC (envOfC qual scope s.heap.objs.size f cd).kindOf (ps.zip us) fun _=>none) s1) :
  Ca (Gi CX P w K mg base N qual scope f cd A outer s H E) [] (Dj N vs) H s1:=by
 have hpl:ps.length<=N.length:=by have:=Ef List.length S.pre;rw[Ch] at this;lia
 obtain⟨h1,tk,rfl,hk⟩:=x.done;have noA:∀b:Ja,b ∉ (Gi CX P w K mg base N qual scope f cd A outer s H E).ex:=fun b z=>Eb (show b∈([]:LI2) from z) (by simp);refine⟨⟨e0.mod,S.kind,rfl,rfl,Db _,fun y z c h1 h2=>?_,fun y hy=>?_,fun y c _ h=>?_,fun _=>hd,Around.frames_deeper e0.frames,.inr ⟨rfl,rfl⟩,fun b z=>Eb z (noA b),e0.bs,e0.bsz,fun b _ _=>noA b,fun b z=>Eb z (noA b),e0.funs,e0.frf,e0.tab⟩,
  rfl,e0.bare,Un.kept hk,⟨_,x.toInCall.ns,fun i y v h1 h2 h3=>?_⟩,fun y c h=>⟨_,x.cell y c h⟩,e0.hok.fresh (Db _),fun y c h=>?_,fun p hp=>Eb (show p∈([]:List (Ja×Obj)) from hp) (by simp),e0.hok.kept hk, ?_⟩
 ·exact name_of_addr x.apart (PySem.mem_of_lookup h1) (PySem.mem_of_lookup h2)
 ·have hy:scope.names.lookup y=some .cell\/scope.names.lookup y=some .free:=hy
  rcases hy with hy|hy
  ·exact JR hy
  ·exact Eb rfl (S.nofree _ (PySem.mem_of_lookup hy))
 ·exact Vt (x.above y c (PySem.mem_of_lookup h))
 ·have hi:i<vs.length:=by
   unfold Dj at h2;by_cases hi:i<vs.length
   ·exact hi
   ·rw[Lg (by simpa using hi)] at h2
    rw[R5] at h2
    split at h2<;>cases h2
  have ha:vs[i]?=some v:=by
   unfold Dj at h2;rw[Lh (by simpa using hi),Dd] at h2;cases e:vs[i]? with
   |none=>rw[e] at h2;cases h2
   |some a=>rw[e] at h2;cases h2;rfl
  obtain⟨u,hu,rv⟩:=r.get ha;have hp:ps[i]?=some y:=by
   rw[<- S.pre,ZD (by lia)];exact h1
  have ndP:ps.Nodup:=by rw[<- S.pre];exact S.nd.sublist (LN _ _)
  refine⟨u,rv, ?_⟩;rcases S.par y (Zd hp) with k|k
  ·exact .inl ⟨k,VQ ndP hp hu k⟩
  ·obtain⟨c,e⟩:=JR (n:=s.heap.objs.size+1) k
   refine .inr ⟨.inl k,c,e, ?_⟩;have q:=x.cell y c e;rw[ZQ ndP hp hu (by show scope.names.lookup y≠_;rw[k];decide)] at q;exact q
 ·exact e0.hok.fresh (Vt (x.above y c (PySem.mem_of_lookup h)))
 ·unfold Dj
  show _=N.length;rw[Gj,Pb,UD];lia
theorem HH{CX:Gn}{P:Bc}{w:Jc}{K:ZlR}{mg:Str->Option Va}{base:Heap}{k:Nat}{f:Ja}{name qual:Str}{params:Arguments}{body:List Kb}{scope:Scope}{dV kV doc pm Lb ct oc:Va}{an od:Option Ja}{osl:Array (Option Va)}{N ps:List Str}{sp:Sp}(lk:K.lookup f=some ⟨oc,od,.func (PySem.W.fnOf name qual params body scope dV kV doc pm an Lb ct),osl⟩)(hcd:PySem.W.codeIn K Lb qual=true)(S:Uc N ps scope)(len:∀vs H Q E,sp vs H Q E->vs.length=ps.length)(hbody:∀(A:Pd) (outer:List Env) (s:Ga) (H:Hp) (vs:List V) (Q:VK) (E:XK),Fe k (A.deeper (envOfC qual scope s.heap.objs.size f Lb))->sp vs H Q E ->
   ∃t,Wg (Gi CX P w K mg base N qual scope f Lb A outer s H E) body t/\t { nx:=fun _ H'=>Q .non H',rt:=Q } (Dj N vs) H) :
  Wb P w K mg base CX (k+1) f (PySem.W.fnOf name qual params body scope dV kV doc pm an Lb ct) ps sp:=by
 refine⟨len,fun A outer s H args us vs Q E hr e0 hb r hsp=>?_⟩;have hl:=len _ _ _ _ hsp;have KX:K.In s.heap:=e0.mod.kin.keeps fun b o e=>(e0.bs b o e).1;have lim:s.heap.NoLimit:=e0.mod.nolimit.keeps fun b o e=>(e0.bs b o e).1;have hkind:∀y∈ps.zip us,scope.names.lookup y.1=some .local\/(scope.names.lookup y.1=some .cell/\((cellsFrom (s.heap.objs.size+1) scope.names []).lookup y.1).isSome=true):=fun⟨n,v⟩ hy=>by
  rcases S.par n (HN hy).1 with q|q
  ·exact .inl q
  ·exact .inr ⟨q,PySem.W.cellsFrom_some _ _ _ (.inl q)⟩
 refine codeAny_call_function hr.depth (KX _ _ lk) rfl S.co S.gen rfl (PySem.W.codeRec_of KX hcd) (hb _ _ _ _ ?_);refine wpAny_newFunctionEnv_cells S.kind hkind fun env he s1 x=>?_;subst he;refine⟨lim.keeps x.toInCall.keep,codeAny_func ?_⟩;obtain⟨t,ht,hq⟩:=hbody A outer s H vs Q E (hr.deeper _) hsp;have I:Ca (Gi CX P w K mg base N qual scope f Lb A outer s H E) [] (Dj N vs) H s1:=Zg9 S hr.hd e0 hl r x;refine Vf (ht [] s1 (Dj N vs) H _ I hq) (fun fl s' hs=>?_) fun e s' hs=>hs;have fin:∀{σ':St}{H':Hp}{v:V}{u:Va},Ca (Gi CX P w K mg base N qual scope f Lb A outer s H E) [] σ' H' s'->Ob v u->Q v H'->CE outer P w H s Q u s':=
  fun {σ' H' v u} J rv q=>⟨v,H',J.os,J.bare,J.base,J.hok,rv,q⟩
 cases fl with
 |ret u =>
  obtain⟨v,σ',H',J,rv,q⟩:=hs;exact fin J rv q
 |next =>
  obtain⟨σ',H',J,q⟩:=hs;exact fin (v:=V.non) (u:=Value.none) J rfl q
 |brk =>
  obtain⟨_,_,_,q⟩:=hs;exact False.elim q
 |cont =>
  obtain⟨_,_,_,q⟩:=hs;exact False.elim q
section
variable {X:Cx}{x:Str}{p pos:Pos}{e:Expr}{es:List Expr}{t:TA}{id T:String}{r:List V->Hp->VK->Prop}
noncomputable def Zj(r:List V->Hp->VK->Prop)(t:TA):TE:=fun σ H Q=>t σ H fun vs H1=>r vs H1 Q
theorem Lf(hc:Og X (.builtin id) r)(hg:Gl X x)(hm:X.mg x=none)(hv:Gh x=some (.builtin id))(ha:PA X (e::es) t)(hn:x ≠ "__name__":=by decide)(hdb:(x==("__debug__":Str))=false:=by decide)(he:Tc (e::es) X.env=(false,eval e X.env)::Tc es X.env:=by rfl)(hpl:(Fh pos (Tc es X.env)).any (·.1)=false:=by rfl):PE X (.Call (.Name x p) (e::es) [] pos) (Zj r t):=by
 intro Za s σ H Q I h;refine Yu (Lr I hg hm hv ?_ hn hdb);exact PyProof.Rows.callWith_builtin1 (Qb (ha pos Za s σ H _ I h) fun us s1 ⟨vs,H1,I1,r1,q1⟩=>hc Za s1 σ H1 vs us Q I1 r1 q1) he hpl
theorem Ak(hc:Og X (.type T) r)(hg:Gl X x)(hm:X.mg x=none)(hv:Gh x=some (.type T))(ha:PA X (e::es) t)(hn:x ≠ "__name__":=by decide)(hdb:(x==("__debug__":Str))=false:=by decide)(he:Tc (e::es) X.env=(false,eval e X.env)::Tc es X.env:=by rfl)(hpl:(Fh pos (Tc es X.env)).any (·.1)=false:=by rfl):PE X (.Call (.Name x p) (e::es) [] pos) (Zj r t):=by
 intro Za s σ H Q I h;refine Yu (Lr I hg hm hv ?_ hn hdb);exact PyProof.Rows.callWith_type1 (Qb (ha pos Za s σ H _ I h) fun us s1 ⟨vs,H1,I1,r1,q1⟩=>hc Za s1 σ H1 vs us Q I1 r1 q1) he hpl
end
end L2
namespace HT
open PySem PyProof.Rows
noncomputable def Zc:LI0->LI0->Bool
 |[],[]=>false
 |[],_::_=>true
 |_::_,[]=>false
 |x::xs,y::ys=>if x=y then Zc xs ys else decide (x<y)
theorem B3(x y:Int)(xs ys:LI0):Zc (x::xs) (y::ys)=if x=y then Zc xs ys else decide (x<y):=rfl
section
open PySem.SeqAt
open PySem.AutoSeq1 (wpAny_loadPart')
open PySem.MeetsSeq PySem.MeetsSeq2 PySem.MeetsSeq3
end
section
noncomputable def Gg(n d:Nat):Option Int->Nat
 |none=>d
 |some v=>if v<0 then (v+(n:Int)).toNat else min v.toNat n
end
end HT
namespace L2
open PySem PySem.Spec PyProof.Rows
noncomputable abbrev TO:=St->Hp->(Option Int->Hp->Prop)->Prop
def PO(X:Cx)(e:Option Expr)(t:TO):Prop:=
 ∀(Za:List (Ja×Obj)) (s:Ga) (σ:St) (H:Hp) (Q:Option Int->Hp->Prop),Ca X Za σ H s->t σ H Q ->
  Ra (Na X.prog X.w) X.A (evalPart e X.env) (fun u s'=>∃o H',Ca X Za σ H' s'/\IsPart u o/\Q o H') X.xe s
noncomputable def Za0:TO:=fun _ H Q=>Q none H
noncomputable def Za4(t:TE):TO:=fun σ H Q=>t σ H fun x H1=>∃i,x=.int i/\Q (some i) H1
theorem VI: ∀{us:LI3},Ab (ns.map V.int) us->IntsAre us ns:=by
 induction ns with
 |nil=>intro us r;rw[X5] at r;cases r;exact .nil
 |cons n ns ih =>
  intro us r;rw[Ed] at r;cases r with
  |cons r1 r2 =>
   obtain⟨t,e⟩:=r1;subst e;exact .cons n t (ih r2)
section
variable {X:Cx}{e:Expr}{te:TE}{lo hi:Option Expr}{tl th:TO}{pos p2:Pos}
theorem Ny:PO X none Za0:=by
 intro Za s σ H Q I h;rw[evalPart_none];exact Ib ⟨none,H,I,.none,h⟩
theorem Oy(h:PE X e te):PO X (some e) (Za4 te):=by
 intro Za s σ H Q I hw;rw[evalPart_some];refine Qb (h Za s σ H _ I hw) fun u s1 ⟨x,H1,I1,r1,q1⟩=>?_;obtain⟨i,rfl,q⟩:=q1;obtain⟨t,rfl⟩:=r1;exact⟨some i,H1,I1,.int i t,q⟩
def QF(X:Cx)(r:V->Option Int->Option Int->Hp->VK->Prop):Prop:=
 ∀(Za:List (Ja×Obj)) (s:Ga) (σ:St) (H:Hp) (x:V) (v vl vu:Va) (lo hi:Option Int) (sl:Ja) (Q:VK),Ca X Za σ H s->Ob x v->s.heap.IsSliceOf sl vl vu .none->IsPart vl lo->IsPart vu hi->r x lo hi H Q ->
  ∃T id,typeLookup (.type T) "__getitem__"=pure (some (.builtin id))/\s.TypeIs v T/\Ra (Na X.prog X.w) X.A (getItem v (.ref sl)) (EP X Za σ Q) X.xe s
noncomputable def tSl(r:V->Option Int->Option Int->Hp->VK->Prop)(te:TE)(tl th:TO):TE:=fun σ H Q=>te σ H fun x H1=>tl σ H1 fun l H2=>th σ H2 fun u H3=>r x l u H3 Q
theorem Hx(hr:QF X r)(he:PE X e te)(hl:PO X lo tl)(hu:PO X hi th): PE X (.Subscript e (.Slice lo hi none p2) pos) (tSl r te tl th):=by
 intro Za s σ H Q I h;refine Subscript_ (Qb (he Za s σ H _ I h) fun v s1 ⟨x,H1,I1,r1,q1⟩=>?_);refine wpAny_Slice (Qb (hl Za s1 σ H1 _ I1 q1) fun vl s2 ⟨l,H2,I2,pl,q2⟩=>Qb (hu Za s2 σ H2 _ I2 q2) fun vu s3 ⟨u,H3,I3,pu,q3⟩=>?_);rw[evalPart_none];refine Ib ?_;have I4:Ca X Za σ H3 { s3 with heap:=s3.heap.push { cls:=.type "slice",data:=.fields #[vl,vu,.none] } }:=I3.kept (t':=s3.toks) fun b ob q=>Heap.get?_push_of_some _ q;obtain⟨T,id,hT,ht,hg⟩:=hr Za { s3 with heap:=s3.heap.push { cls:=.type "slice",data:=.fields #[vl,vu,.none] } } σ H3 x v vl vu l u s3.heap.objs.size Q I4 r1 (Heap.IsSliceOf.new ..) pl pu q3;show Ra (Na X.prog X.w) X.A (subscriptTail e (.Slice lo hi none p2) v (.ref s3.heap.objs.size)) (EP X Za σ Q) X.xe { s3 with heap:=s3.heap.push { cls:=.type "slice",data:=.fields #[vl,vu,.none] } };exact tail_any (ops:=[.ref s3.heap.objs.size,v]) ht hT hg (by with_unfolding_all rfl)
noncomputable def Nv(xs:List V)(lo hi:Option Int):List V:=(xs.drop (HT.Gg xs.length 0 lo)).take (HT.Gg xs.length xs.length hi-HT.Gg xs.length 0 lo)
theorem ZdG(xs:List V)(lo hi:Option Int):(Nv xs lo hi).length<=xs.length:=by
 unfold Nv;rw[Ch,Ws];lia
end
noncomputable def Jk(n:Nat)(i:Int):Option Nat:=if 0<=i then (if i<n then some i.toNat else none) else if -(n:Int)<=i then some (i+n).toNat else none
noncomputable def Dg{α:Type}(xs:List α)(i:Int):Option α:=(Jk xs.length i).bind fun j=>xs[j]?
theorem ZV{i: Int}(h:Jk n i=some j): seqIndex? i n=some j/\j<n/\-(n:Int)<=i/\i<n:=by
 unfold Jk at h;by_cases h0:0<=i
 ·rw[Da h0] at h
  by_cases h1:i<n
  ·rw[Da h1] at h
   have e:i.toNat=j:=Option.some.inj h;exact⟨by rw[seqIndex_of h0 h1,e],by lia,by lia,h1⟩
  ·rw[Qa h1] at h;cases h
 ·rw[Qa h0] at h
  by_cases h1:-(n:Int)<=i
  ·rw[Da h1] at h
   have e:(i+n).toNat=j:=Option.some.inj h;exact⟨by rw[seqIndex_neg (by lia) h1,e],by lia,h1,by lia⟩
  ·rw[Qa h1] at h;cases h
theorem J7{i: Int}(h:Dg xs i=some v): ∃j,seqIndex? i xs.length=some j/\xs[j]?=some v/\j<xs.length/\-(xs.length:Int)<=i/\i<xs.length:=by
 unfold Dg at h;cases e:Jk xs.length i with
 |none=>rw[e] at h;cases h
 |some j =>
  rw[e] at h;obtain⟨h1,h2,h3,h4⟩:=ZV e;exact⟨j,h1,h,h2,h3,h4⟩
def JP(b:Expr):Prop:=∀o i,subscripted b false o i=operate [o,i] (getItem o i)
def Kn(X:Cx)(r:R2):Prop:=
 ∀(value slice:Expr) (Za:List (Ja×Obj)) (s:Ga) (σ:St) (H:Hp) (x y:V) (v u:Va) (Q:VK),Ca X Za σ H s->Ob x v->Ob y u->r x y H Q ->
  subscripted slice false v u=operate [v,u] (getItem v u)->Ra (Na X.prog X.w) X.A (subscriptTail value slice v u) (EP X Za σ Q) X.xe s
def O6(X:Cx)(id:String)(r:V->List V->Hp->VK->Prop):Prop:=
 ∀(Za:List (Ja×Obj)) (s:Ga) (σ:St) (H:Hp) (x:V) (xs:List V) (v:Va) (us:LI3) (Q:VK),Ca X Za σ H s->Ob x v->Ab xs us->r x xs H Q ->
  Ra (Na X.prog X.w) X.A (call (.builtin id) (v::us)) (EP X Za σ Q) X.xe s
section
variable {X:Cx}{a b:Expr}{ta tb:TE}{pos:Pos}
theorem Kn.or(h:Kn X r)(h':Kn X r'): Kn X (fun x y H Q=>r x y H Q\/r' x y H Q):=by
 intro value slice Za s σ H x y v u Q I rx ry q hs;rcases q with q|q
 ·exact h value slice Za s σ H x y v u Q I rx ry q hs
 ·exact h' value slice Za s σ H x y v u Q I rx ry q hs
theorem ZjD(hr:Kn X r)(ha:PE X a ta)(hb:PE X b tb)(hs:JP b): PE X (.Subscript a b pos) (Pf r ta tb):=by
 intro Za s σ H Q I h;exact Subscript_ (YF ha hb I h fun v u s2 x y H2 I2 rx ry q=>hr a b Za s2 σ H2 x y v u Q I2 rx ry q (hs _ _))
noncomputable def B4(K:ZlR):R2:=fun x y H Q=>∃p xs i v,x=.ref p/\y=.int i/\Yb K H p xs/\Dg xs i=some v/\Q v H
noncomputable def KY(K:ZlR):R2:=fun x y H Q=>∃p xs i v,x=.ref p/\y=.int i/\Af K H p xs/\Dg xs i=some v/\Q v H
noncomputable def IY:R2:=fun x y H Q=>∃z i c,x=.str z/\y=.int i/\z.length<=Cc/\Dg z.cps.toList i=some c/\Q (.str ⟨#[c]⟩) H
theorem ZgH:Kn X (B4 X.K):=by
 intro value slice Za s σ H x y v u Q I rx ry h hs;obtain⟨p,xs,i,z,rfl,rfl,hq,he,q⟩:=h;cases rx;obtain⟨t,rfl⟩:=ry;obtain⟨its,r,pl,hz⟩:=I.list hq;obtain⟨j,h1,h2,h3,h4,h5⟩:=J7 he;obtain⟨w,ew,rw'⟩:=r.get h2;have hl:=r.length;have hn:=Vu;have fin:EP X Za σ Q w s:=⟨z,H,I,rw',q⟩
 by_cases h0:0<=i
 ·have hj:i.toNat=j:=by
   rw[seqIndex_of h0 h5] at h1;exact Option.some.inj h1
  exact item_listR pl.isList h0 (by lia) (by rw[hj];simpa using ew) fin hs
 ·have hj:(i+(its.toArray.size:Int)).toNat=j:=by
   rw[seqIndex_neg (by lia) h4] at h1;rw[Ve,<- hl];exact Option.some.inj h1
  exact subscriptTail_builtinR (x:=w) pl.isList.typeIs slot_list_getitem.lookup
   (wpAny_getItem_list_neg (Q:=fun r s'=>r=w/\EP X Za σ Q r s') pl.isList (by lia) (by rw[Ve]<;>lia) (by lia) (by rw[hj];simpa using ew) ⟨rfl,fin⟩) hs
theorem ZgL:Kn X (KY X.K):=by
 intro value slice Za s σ H x y v u Q I rx ry h hs;obtain⟨p,xs,i,z,rfl,rfl,hq,he,q⟩:=h;cases rx;obtain⟨t,rfl⟩:=ry;obtain⟨its,r,pl,hz⟩:=I.tuple hq;obtain⟨j,h1,h2,h3,h4,h5⟩:=J7 he;obtain⟨w,ew,rw'⟩:=r.get h2;have hl:=r.length;have hn:=Vu;have fin:EP X Za σ Q w s:=⟨z,H,I,rw',q⟩
 exact subscriptTail_builtinR (x:=w) pl.typeIs slot_tuple_getitem.lookup
  (getItem_tuple (j:=j) (Q:=fun r s'=>r=w/\EP X Za σ Q r s') pl (by lia) (by lia) (by rw[Ve,<- hl];exact h1) (by simpa using ew) ⟨rfl,fin⟩) hs
theorem ZgK:Kn X IY:=by
 intro value slice Za s σ H x y v u Q I rx ry h hs;obtain⟨z,i,c,rfl,rfl,hz,he,q⟩:=h;obtain⟨t,rfl⟩:=rx;obtain⟨t',rfl⟩:=ry;obtain⟨j,h1,h2,h3,h4,h5⟩:=J7 he;have hl:z.cps.toList.length=z.length:=by simp[Str.length]
 rw[hl] at h1 h4 h5;have hn:=Vu;exact tail_any (typeIs_str s z t) slot_str_getitem.lookup (getItem_str (c:=c) (by
  have e1:decide (i < -(2^63:Int))=false:=Fb (by lia);have e2:decide (i ≥ 2^63)=false:=Fb (by lia);rw[e1,e2,Bool.or_false]) (by rw[h1];simpa using h2) ⟨.str ⟨#[c]⟩,H,I.tok _,⟨_,rfl⟩,q⟩) hs
noncomputable def Ry(K:ZlR):R2:=fun x y H Q=>B4 K x y H Q\/KY K x y H Q\/IY x y H Q
theorem ZgI:Kn X (Ry X.K):=ZgH.or (ZgL.or ZgK)
theorem ZhV(its:LI3)(n j:Nat)(u:Va):Obj.mapSeq (·.setIfInBounds j u) { cls:=.type "list",data:=.seq its.toArray n }={ cls:=.type "list",data:=.seq (its.set j u).toArray n }:=by
 simp[Obj.mapSeq]
theorem Ca.lst(I:Ca X Za σ H s)(h:H p=some (.lst xs)):
  ∃(its:LI3) (n:Nat),Ab xs its/\s.heap.get? p=some { cls:=.type "list",data:=.seq its.toArray n }/\xs.length<=Cc:=by
 obtain⟨z,its,n,r,e⟩:=I.hok p _ h;exact⟨its,n,r,e,z⟩
theorem Ca.lstUpd{s: Ga}{ys: List V}{its its': LI3}(I:Ca X Za σ H s)(h:H p=some (.lst xs))(ho:s.heap.get? p=some { cls:=.type "list",data:=.seq its.toArray n })(hf:f { cls:=.type "list",data:=.seq its.toArray n }={ cls:=.type "list",data:=.seq its'.toArray n' })(r:Ab ys its')(hz:ys.length<=Cc)(t:Nat):
  Ca X Za σ (upd H p (.lst ys)) { s with heap:=s.heap.update p f,toks:=t }:=by
 have e:(s.heap.update p f).get? p=some { cls:=.type "list",data:=.seq its'.toArray n' }:=by
  rw[Heap.get?_update_self f ho (by rw[hf]<;>rfl),hf]
 refine I.write (x:=p) (e:=p) (by rw[h];trivial) (.inl rfl) (fun b u hb q=>(Heap.get?_update_other _ _ (Ne.symm hb)).trans q) ⟨_,e⟩ ?_;exact⟨hz,its',n',r,e⟩
def IK:V->V->V->Hp->(Hp->Prop)->Prop:=fun o i v H Q=>∃p xs k j,o=.ref p/\i=.int k/\H p=some (.lst xs)/\Jk xs.length k=some j/\Q (upd H p (.lst (xs.set j v)))
theorem Fu:VF X IK:=by
 intro Za s σ H o i v ov iv u Q I ro ri rv h;obtain⟨p,xs,k,j,rfl,rfl,hp,hj,q⟩:=h;cases ro;obtain⟨t,rfl⟩:=ri;obtain⟨its,n,r,ho,hz⟩:=I.lst hp;obtain⟨h1,h2,h3,h4⟩:=ZV hj;have hl:=r.length;have hn:=Vu;have I':Ca X Za σ (upd H p (.lst (xs.set j v))) { s with heap:=s.heap.update p (Obj.mapSeq (·.setIfInBounds j u)) }:=
  I.lstUpd hp ho (ZhV its n j u) (r.set rv j) (by rw[Tu];exact hz) s.toks
 by_cases h0:0<=k
 ·have hk:k.toNat=j:=by
   rw[seqIndex_of h0 h4] at h1;exact Option.some.inj h1
  exact PySem.W.ki_setAt ho h0 (by lia) (by rw[Ve,<- hl];exact h4) (by rw[hk];exact⟨_,I',q⟩)
 ·have hk:(k+(its.toArray.size:Int)).toNat=j:=by
   rw[seqIndex_neg (by lia) h3] at h1;rw[Ve,<- hl];exact Option.some.inj h1
  exact PySem.W.ki_setBack ho (by lia) (by rw[Ve,<- hl];exact h3) (by lia) (by rw[hk];exact⟨_,I',q⟩)
theorem Zk5(lo hi:Option Int)(n:Nat):(Xu lo hi none n).1=((HT.Gg n 0 lo:Nat):Int)/\(Xu lo hi none n).2.1=((HT.Gg n n hi:Nat):Int)/\(Xu lo hi none n).2.2=1:=by
 refine⟨?_, ?_,rfl⟩
 ·cases lo with
  |none=>simp[Xu,HT.Gg]
  |some i =>
   simp only[Xu,HT.Gg,Option.getD_none,show (1:Int)>0 by decide,if_true];by_cases h:i<0
   ·simp only[h,if_true]<;>lia
   ·simp only[h,if_false]<;>lia
 ·cases hi with
  |none=>simp[Xu,HT.Gg]
  |some i =>
   simp only[Xu,HT.Gg,Option.getD_none,show (1:Int)>0 by decide,if_true];by_cases h:i<0
   ·simp only[h,if_true]<;>lia
   ·simp only[h,if_false]<;>lia
theorem Zk4(its:LI3)(lo hi:Option Int):slicePick its.toArray lo hi none=((its.drop (HT.Gg its.length 0 lo)).take (HT.Gg its.length its.length hi-HT.Gg its.length 0 lo)).toArray:=by
 obtain⟨h1,h2,h3⟩:=Zk5 lo hi its.toArray.size;unfold slicePick;rw[h1,h2,h3];simp only[sliceRange_one,pick_run,Ve]<;>rfl
def LK(K:ZlR):V->Option Int->Option Int->Hp->VK->Prop:=fun x lo hi H Q=>∃a xs,x=.ref a/\Yb K H a xs/\∀p,H p=none->Q (.ref p) (upd H p (.lst (Nv xs lo hi)))
theorem Zk3:QF X (LK X.K):=by
 intro Za s σ H x v vl vu lo hi sl Q I rx hs pl pu h;obtain⟨a,xs,rfl,hx,q⟩:=h;cases rx;obtain⟨its,r,ht,hz⟩:=I.list hx;have Ge:=r.length;refine⟨"list",_,slot_list_getitem.lookup,ht.isList.typeIs, ?_⟩;refine wpAny_getItem_list_slice ht.isList hs pl pu .none (by simp) ?_ (by rw[Ve]<;>lia);rw[Zk4,<- Ge];refine⟨.ref s.heap.objs.size,_,I.laid (t':=s.toks) (o:=.lst (Nv xs lo hi)) (fun b ob q=>Heap.get?_push_of_some _ q) (Db _) ?_,rfl,q _ (I.hok.fresh (Db _))⟩;exact⟨Se (ZdG xs lo hi) hz,_,0,(r.drop (HT.Gg xs.length 0 lo)).take (HT.Gg xs.length xs.length hi-HT.Gg xs.length 0 lo),Heap.get?_push_size _ rfl⟩
theorem Zdy:Og X (.builtin "len") (fun xs H Q=>∃p ys,xs=[.ref p]/\(Yb X.K H p ys\/Af X.K H p ys)/\Q (.int ys.length) H):=by
 intro Za s σ H xs us Q I r h;obtain⟨p,ys,rfl,hq,q⟩:=h;obtain⟨u,rfl,rx⟩:=Zn r;cases rx;have hn:=Vu;rcases hq with hq|hq
 ·obtain⟨its,r',pl,hz⟩:=I.list hq
  have Ge:=r'.length;exact Calls.call_len_list pl.isList (by simp only[Ve]<;>lia) ⟨.int ys.length,H,I.tok _,⟨s.toks+1,by rw[Ve,Ge]⟩,q⟩
 ·obtain⟨its,r',pl,hz⟩:=I.tuple hq
  have Ge:=r'.length;exact len_tuple pl (by simp only[Ve]<;>lia) ⟨.int ys.length,H,I.tok _,⟨s.toks+1,by rw[Ve,Ge]⟩,q⟩
theorem Zdz:Og X (.type "list") (fun xs H Q=>∃p ys,xs=[.ref p]/\(Yb X.K H p ys\/Af X.K H p ys)/\∀l,H l=none->Q (.ref l) (upd H l (.lst ys))):=by
 intro Za s σ H xs us Q I r h;obtain⟨p,ys,rfl,hq,q⟩:=h;obtain⟨u,rfl,rx⟩:=Zn r;cases rx;have fin:∀(its:LI3),Ab ys its->ys.length<=Cc->∀(h':Heap) (c':Nat),(∀b o',s.heap.get? b=some o'->h'.get? b=some o') ->
   h'.get? s.heap.objs.size=some { cls:=.type "list",dict:=none,data:=.seq its.toArray c',slots:=#[] }->EP X Za σ Q (.ref s.heap.objs.size) { s with heap:=h' }:=fun its r' hz h' c' kp e =>
  ⟨.ref s.heap.objs.size,_,I.laid (t':=s.toks) kp (Db _) (show Wf X.prog X.w _ h' _ (.lst ys) from ⟨hz,its,c',r',e⟩),rfl,q _ (I.hok.fresh (Db _))⟩
 rcases hq with hq|hq
 ·obtain⟨its,r',pl,hz⟩:=I.list hq
  have Ge:=r'.length;obtain⟨o,ho,hc,n,hd⟩:=pl.isList;exact call_list_seq p (.inl rfl) ho hc hd (fun h' c' kp e=>fin its r' hz h' c' kp e) (by simp only[Ve]<;>lia)
 ·obtain⟨its,r',pl,hz⟩:=I.tuple hq
  have Ge:=r'.length;obtain⟨o,ho,hc,n,hd⟩:=pl;exact call_list_seq p (.inr rfl) ho hc hd (fun h' c' kp e=>fin its r' hz h' c' kp e) (by simp only[Ve]<;>lia)
theorem Zd7:Og X (.type "tuple") (fun xs H Q=>∃p ys,xs=[.ref p]/\((Yb X.K H p ys/\∀l,H l=none->Q (.ref l) (upd H l (.tup ys)))\/(Af X.K H p ys/\Q (.ref p) H))):=by
 intro Za s σ H xs us Q I r h;obtain⟨p,ys,rfl,h⟩:=h;obtain⟨u,rfl,rx⟩:=Zn r;cases rx;rcases h with ⟨hq,q⟩|⟨hq,q⟩
 ·obtain⟨its,r',pl,hz⟩:=I.list hq
  have Ge:=r'.length;refine call_tuple_list pl.isList (fun h' kp=>?_) (by simp only[Ve]<;>lia);have I1:Ca X Za σ H { s with heap:=h' }:=I.kept (t':=s.toks) kp;have I2:Ca X Za σ (upd H h'.objs.size (.tup ys)) { s with heap:=h'.push { cls:=.type "tuple",data:=.seq its.toArray } }:=
   I1.laid (t':=s.toks) (fun b o e=>Heap.get?_push_of_some _ e) (Db _) (show Wf X.prog X.w _ _ _ (.tup ys) from ⟨hz,its,r',IsTup.new _ _⟩)
  exact⟨.ref h'.objs.size,_,I2,rfl,q _ (I1.hok.fresh (Db _))⟩
 ·obtain⟨its,r',pl,hz⟩:=I.tuple hq
  exact call_tuple_same pl ⟨.ref p,H,I,rfl,q⟩
def HM(K:ZlR)(T:String)(x:V)(H:Hp):Prop:=match x with
 |.str _=>T = "str"
 |.int _=>T = "int"
 |.ref p=>(T = "list"/\∃xs,Yb K H p xs)\/(T = "tuple"/\∃o,K.lookup p=some o/\o.cls=.type "tuple"/\o.dict=none) \/
   (T = "dict"/\((∃Ub,H p=some (.dK Ub))\/∃Ub,H p=some (.dT Ub)))\/(T = "set"/\∃S n,H p=some (.set S n))
 |_=>False
theorem ZaK(I:Ca X Za σ H s)(r:Ob x v)(ty:HM X.K T x H):
  s.TypeIs v T/\∀a,v=.ref a->∃ob,s.heap.get? a=some ob/\ob.dict=none:=by
 cases x with
 |str z =>
  obtain⟨t,rfl⟩:=r;cases (show T = "str" from ty);exact⟨typeIs_str s z t,fun _ e=>nomatch e⟩
 |int i =>
  obtain⟨t,rfl⟩:=r;cases (show T = "int" from ty);exact⟨typeIs_int s i t,fun _ e=>nomatch e⟩
 |ref p =>
  cases r;rcases ty with ⟨rfl,xs,hq⟩|⟨rfl,o,hk,hc,hd⟩|⟨rfl,hk⟩|⟨rfl,S,n,hk⟩
  ·obtain⟨its,_,pl,_⟩:=I.list hq
   refine⟨pl.isList.typeIs,fun a e=>?_⟩;cases e;obtain⟨o,n,e,c,hd,_⟩:=pl;exact⟨o,e,hd⟩
  ·refine⟨⟨o,I.kIn p o hk,hc⟩,fun a e=>?_⟩
   cases e;exact⟨o,I.kIn _ o hk,hd⟩
  ·have z:∃o,s.heap.get? p=some o/\o.ExactDict:=by
    rcases hk with ⟨Ub,hk⟩|⟨Ub,hk⟩
    ·obtain⟨_,_,_,_,o,_,_,e,ex,_⟩:=I.hok p _ hk
     exact⟨o,e,ex⟩
    ·obtain⟨_,_,_,_,o,_,_,e,ex,_⟩:=I.hok p _ hk
     exact⟨o,e,ex⟩
   obtain⟨o,e,ex⟩:=z;refine⟨⟨o,e,ex.1⟩,fun a e2=>?_⟩;cases e2;exact⟨o,e,ex.2.1⟩
  ·obtain⟨o,_,_,_,e,ex,_⟩:=I.hok p _ hk
   refine⟨⟨o,e,ex.1⟩,fun a e2=>?_⟩;cases e2;exact⟨o,e,ex.2.1⟩
 |_=>exact False.elim ty
noncomputable def ZkP(K:ZlR)(T:String)(r:V->List V->Hp->VK->Prop)(to:TE):TE:=fun σ H Q=>to σ H fun x H1=>HM K T x H1/\r x [] H1 Q
noncomputable def W4(K:ZlR)(T:String)(r:V->List V->Hp->VK->Prop)(to:TE)(t:TA):TE:=fun σ H Q=>to σ H fun x H1=>HM K T x H1/\t σ H1 fun xs H2=>r x xs H2 Q
variable {o e:Expr}{es:List Expr}{to:TE}{t:TA}{name:Str}{apos cpos:Pos}{T id:String}{r:V->List V->Hp->VK->Prop}
theorem Zj6(pa:PlainAttrs T)(slot:Slot T name id)(hty:typeOf (.builtin id)=pure (.type "method_descriptor"))(hm:O6 X id r)(ho:PE X o to)(hbase:attributeBase o name X.env (eval o X.env)=eval o X.env:=by rfl)(hline:(apos.endLine==cpos.line)=true:=by rfl):PE X (.Call (.Attribute o name apos) [] [] cpos) (ZkP X.K T r to):=by
 intro Za s σ H Q I h;refine wpAny_Call_method0_late hbase hline (Qb (ho Za s σ H _ I h) fun v s1 ⟨x,H1,I1,r1,ty,q1⟩=>?_);obtain⟨h1,h2⟩:=ZaK I1 r1 ty;exact⟨T,id,pa,slot,hty,h1,h2,Calls.callWith_builtin rfl (PySem.evalArgs_none (hm Za s1 σ H1 x [] v [] Q I1 r1 .nil q1))⟩
theorem W3(pa:PlainAttrs T)(slot:Slot T name id)(hty:typeOf (.builtin id)=pure (.type "method_descriptor"))(hm:O6 X id r)(ho:PE X o to)(ha:PA X (e::es) t)(hbase:attributeBase o name X.env (eval o X.env)=eval o X.env:=by rfl)(hfew:((Fh cpos (Tc (e::es) X.env)).all (fun x=>!x.1)&&(backToKw cpos (keywordEach [] X.env)).all (fun x=>x.1.isSome)
   && decide ((e::es).length+([]:List Keyword).length+(if ([]:List Keyword).isEmpty then 0 else 1)<30))=true:=by rfl)(hline:(apos.endLine==cpos.line)=true:=by rfl)(hs:Tc (e::es) X.env=(false,eval e X.env)::Tc es X.env:=by rfl)(hplain:(Fh cpos (Tc es X.env)).any (·.1)=false:=by rfl) :
  PE X (.Call (.Attribute o name apos) (e::es) [] cpos) (W4 X.K T r to t):=by
 intro Za s σ H Q I h;refine wpAny_Call_method_late hbase hfew hline rfl (Qb (ho Za s σ H _ I h) fun v s1 ⟨x,H1,I1,r1,ty,q1⟩=>?_);obtain⟨h1,h2⟩:=ZaK I1 r1 ty;refine⟨T,id,pa,slot,hty,h1,h2, ?_⟩;have hA:=ha cpos Za s1 σ H1 _ I1 q1;rw[hs] at hA ⊢;refine Calls.callWith_builtin (by show (false || (Fh cpos (Tc es X.env)).any (·.1))=false;rw[hplain]<;>rfl) (Calls.evalArgs_plain ?_);exact Qb hA fun us s2 ⟨vs,H2,I2,r2,q2⟩=>hm Za s2 σ H2 x vs v us Q I2 r1 r2 q2
end
def WO(X:Cx)(id:String)(r:V->List V->Hp->VK->Prop):Prop:=
 ∀(Za:List (Ja×Obj)) (s:Ga) (σ:St) (H:Hp) (x:V) (xs:List V) (v:Va) (us:LI3) (Q:VK),Ca X Za σ H s->Ob x v->Ab xs us->r x xs H Q ->
  Ra (Na X.prog X.w) X.A (call (.builtin id) (v::us)) (EP X Za σ Q) X.xe s
theorem Ab.one:∀{x:V}{us:LI3},Ab [x] us->∃u,us=[u]/\Ob x u
 |_,_,.cons r .nil=>⟨_,rfl,r⟩
theorem Ab.zero:∀{us:LI3},Ab [] us->us=[]
 |_,.nil=>rfl
theorem Ab.reverse(h:Ab xs us): Ab xs.reverse us.reverse:=by
 induction h with
 |nil=>exact .nil
 |cons r t ih=>rw[Y5,Y5];exact Ab.append ih (.cons r .nil)
section
variable {X:Cx}{Za:List (Ja×Obj)}{σ:St}{H:Hp}{s:Ga}{l:Ja}{xs ys:List V}
theorem Ca.lset{its its': LI3}(I:Ca X Za σ H s)(hH:H l=some (.lst xs))(e:s.heap.get? l=some { cls:=.type "list",data:=.seq its.toArray n })(hf:f its.toArray=its'.toArray)(hv:Ab ys its')(hz:ys.length<=Cc):
  Ca X Za σ (upd H l (.lst ys)) { s with heap:=s.heap.update l (Obj.mapSeq f),toks:=t' }:=by
 have q:=PySem.IsL.update e f;rw[hf] at q;refine I.write (x:=l) (e:=l) (by rw[hH];exact trivial) (.inl rfl) (fun b' u hb hu=>(Heap.get?_update_other s.heap (Obj.mapSeq f) (Ne.symm hb)).trans hu) ⟨_,q⟩ ?_;exact⟨hz,its',_,hv,q⟩
theorem Ca.lnew(I:Ca X Za σ H s)(hv:Ab ys its)(hz:ys.length<=Cc):
  Ca X Za σ (upd H s.heap.objs.size (.lst ys)) { s with heap:=s.heap.push { cls:=.type "list",data:=.seq its.toArray },toks:=t' }:=
 I.laid (fun _ _ q=>Heap.get?_push_of_some _ q) (Db _) ⟨hz,its,0,hv,Heap.get?_push_size _ rfl⟩
theorem Ca.fresh(I:Ca X Za σ H s):H s.heap.objs.size=none:=I.hok.fresh (Db _)
theorem Ca.lstM(I:Ca X Za σ H s)(hH:H l=some (.lst xs)):xs.length<=Cc/\∃(its:LI3) (n:Nat),Ab xs its/\xs.length=its.length/\s.heap.get? l=some { cls:=.type "list",data:=.seq its.toArray n }:=by
 obtain⟨z,its,n,r,e⟩:=I.hok l _ hH;exact⟨z,its,n,r,r.length,e⟩
end
section
variable {X:Cx}
def CY:V->List V->Hp->VK->Prop:=fun x vs H Q=>∃l xs y,x=.ref l/\vs=[y]/\H l=some (.lst xs)/\xs.length<Cc/\Q .non (upd H l (.lst (xs++[y])))
theorem UJ:WO X "list.append" CY:=by
 intro Za s σ H x vs v us Q I rx rv h;obtain⟨l,xs,y,rfl,rfl,hH,hz,q⟩:=h;cases rx;obtain⟨u,rfl,ru⟩:=rv.one;obtain⟨z,its,n,r,hl,e⟩:=I.lstM hH;refine call_meets F.slot_list_append ⟨_,e,rfl⟩ F.entry_list_append (F.args_list_append_2 _ _) (PySem.list_append l its.toArray n u (by rw[Ve];lia)) ⟨e, ?_⟩;refine⟨.non,_,I.lset (its':=its++[u]) hH e (by simp) (r.append (.cons ru .nil)) ?_,rfl,q⟩;rw[Gj,List.length_singleton];lia
def NY:V->List V->Hp->VK->Prop:=fun x vs H Q=>∃l xs,x=.ref l/\vs=[]/\H l=some (.lst xs)/\Q .non (upd H l (.lst xs.reverse))
theorem Zin:WO X "list.reverse" NY:=by
 intro Za s σ H x vs v us Q I rx rv h;obtain⟨l,xs,rfl,rfl,hH,q⟩:=h;cases rx;have hus:=rv.zero;subst hus;obtain⟨z,its,n,r,hl,e⟩:=I.lstM hH;refine call_meets F.slot_list_reverse ⟨_,e,rfl⟩ F.entry_list_reverse (F.args_list_reverse_1 _) (AutoSeq1.list_reverse_list_0 l its.toArray n (by rw[Ve];lia)) ⟨e, ?_⟩;refine⟨.non,_,I.lset (its':=its.reverse) hH e (by simp) r.reverse ?_,rfl,q⟩;rw[List.length_reverse];lia
end
end L2
namespace Att
open PySem PySem.W PySem.Calls PyProof.Rows
theorem Zg8: ∀(ns:LI0) (vs:LI3),WellAll P h vs (ns.map WData.int)->IntsAre vs ns:=by
 intro ns
 induction ns with
 |nil =>
  intro vs w;rw[X5] at w;cases w;exact .nil
 |cons n ns ih =>
  intro vs w;rw[Ed] at w;cases w with
  |cons a b =>
   cases a;exact .cons _ _ (ih _ b)
theorem Zk0{l: OpenLaw}(hn:l.most=some n){h: Heap}(hpre:l.row.toRowW.claim.pre args=true)(hwl:WellAll P h vals args):
  ∃a vs ns,vals=[Value.ref a]/\args=[WData.list (ns.map WData.int)]/\h.get? a=some { cls:=.type "list",data:=.seq vs.toArray }/\IntsAre vs ns/\ns.length<=n:=by
 have hsh:WShape.hasAll [] args [.list .int]=true:=(pre_splitW hpre).1;have hc:l.pre.holds [] { args:=args }=true:=(pre_splitW hpre).2;obtain⟨d,r,rfl,h1,h2⟩:=hasAllW_cons hsh;obtain rfl:=hasAllW_nil h2;obtain⟨xs,rfl,h3⟩:=hasW_list h1;obtain⟨ns,rfl⟩:=items_int h3;have Ge:ns.length<=n:=by
  unfold OpenLaw.pre at hc;have h4:(WTm.not (.lt (.lit (.int (n:Int))) (.len (.arg 0)))).holds [] { args:=[.list (ns.map .int)] }=true:=by
   have h4:=(holds_andW hc).1;rw[hn] at h4;exact h4
  have h5:=condW_of h4 (w_not (w_lt w_lit (w_len_list (w_arg rfl))));rw[Pb] at h5;refine Nat.le_of_not_lt fun q=>?_;have q':(n:Int)<((ns.length:Nat):Int):=by lia
  first
   |(rw[Hb q'] at h5;exact Eb h5 (by decide))
   |(simp at h5;lia)
 cases hwl with
 |cons w1 w2 =>
  cases w2;cases w1 with
  |list ho hall=>exact⟨_,_,ns,rfl,rfl,ho,Zg8 ns _ hall,Ge⟩
theorem ZjP(l:OpenLaw)(args:List WData):l.row.toRowW.claim.post args (.bool true) args=true:=
 postW_of (r:=l.row.toRowW) (X:=(true==true))
  (show WShape.has [] (.bool true) .bool=true by first|rfl|decide|simp[WShape.has,WShape.arms,WShape.armsAll])
  (show (WTm.eq .res (.lit (.bool true))).value [] { args:=args,res:=some (.bool true),after:=args }=some (.bool (true==true)) from w_eq_bool (w_res rfl) w_lit) rfl
theorem Zch{l: OpenLaw}{d: DefRec}(hn:l.most=some n)(hdf:d.params.defaults=[])(call:∀(w:Jc) (s₀ s₁:Ga) (mg mb:Str->Option Va) (fa:Ja) (o:Obj) (pm cd doc:Va) (a:Ja) (vs:LI3) (ns:LI0),
   Ground q loose [] XP w s₀ mg mb s₁.heap->YP w s₁.heap ->
   s₁.heap.get? fa=some o->o.data=.func (docDef d.name d.params d.body d.scope pm cd doc)->s₁.heap.CodeRec cd d.name->mg d.name=some (.ref fa) ->
   s₁.heap.get? a=some { cls:=.type "list",data:=.seq vs.toArray }->IntsAre vs ns->ns.length<=n->s₁.gens=#[] ->
   codeAny (Na l.prog w) callerA (.call (.ref fa) ⟨[.ref a],[]⟩) (fun r s'=>r=.ok (.ret (.bool true))/\OldK s₁.heap s'.heap/\s'.os=s₁.os/\AllBare s'.gens) s₁):
  WalkO q loose XP YP l.row.toRowW d [] (fun f vs=>PySem.call f vs):=by
 intro w s₀ s₁ mg mb G Y fa o pm cd doc dV kV ho hd hcd hD hmg hg args vals as hpre hlay hrd hwl hlo;obtain rfl:dV=.none:=Dflts.none hD hdf;obtain rfl:kV=.none:=Dflts.noKw hD;obtain⟨a,vs,ns,rfl,rfl,hobj,hints,Ge⟩:=Zk0 hn hpre hwl;refine enter_call (codeAny_mono (call w s₀ s₁ mg mb fa o pm cd doc a vs ns G Y ho (fd_plain hd) hcd hmg hobj hints Ge hg) fun r s' hq=>?_);obtain⟨rfl,h2,h3,h4⟩:=hq;exact⟨.inl ⟨.bool true,.bool true,[],rfl,fun _=>rfl,.bool true,ZjP l _,fun _=>⟨List.Pairwise.nil,fun _ hm=>(nomatch hm)⟩⟩,h2,h3,h4⟩
section
end
end Att
namespace L2
open PySem PySem.Spec PyProof.Rows
theorem ZaO:∀{vs:LI3}{ns:LI0},IntsAre vs ns->Ab (ns.map V.int) vs
 |_,_,.nil=>.nil
 |_,_,.cons n t h=>.cons ⟨t,rfl⟩ (ZaO h)
def NE(K:ZlR)(h:Heap):Prop:=∀f c P,Uj K f=some (c,P)->h.get? P=some (PySem.W.tabObj #[])/\K.lookup P=none
theorem BV{K:ZlR}{f c P:Ja}(h:Uj K f=some (c,P)):PySem.W.codeHdIn K c P=true:=by
 unfold Uj at h
 repeat' split at h
 all_goals first|cases h;done|skip
 rename_i hd;cases h;exact hd
open Classical in
theorem Zhn{P:Bc}{w:Jc}{K:ZlR}{mg mb:Str->Option Va}{CX:Gn}{k:Nat}{fa a:Ja}{fd:Fk}{x:Str}{sp:Sp}{s₁:Ga}{vs:LI3}{ns:LI0}(KX:K.In s₁.heap)(hns:s₁.heap.Ns Tg mg)(hb:s₁.heap.Ns builtinsNs mb)(hbb:∀x:Str,x ≠ "__name__"->mb x=Gh x)(hlim:s₁.heap.NoLimit)(hbm:TD mg s₁.heap)(hL:NE K s₁.heap)(hg:s₁.gens=#[])(ha:s₁.heap.get? a=some { cls:=.type "list",data:=.seq vs.toArray })(hi:IntsAre vs ns)(hl:ns.length<=Cc)(hr:Fe k callerA)(F:∀base:Heap,K.In base->base.Ns Tg mg->Wb P w K mg base CX k fa fd [x] sp)(hbind:∀(s:Ga) (u:Va),BindsTo s fd ⟨[u],[]⟩ [(x,u)])(hsp:∀H:Hp,Yb K H a (ns.map V.int)->sp [.ref a] H (fun v _=>v=.bl true) fun _ _ _=>False)(hCX:∀H e s',CX [] H s₁ (fun _ _ _=>False) e s'->False) :
  codeAny (Na P w) callerA (.call (.ref fa) ⟨[.ref a],[]⟩) (fun r s'=>r=.ok (.ret (.bool true))/\OldK s₁.heap s'.heap/\s'.os=s₁.os/\AllBare s'.gens) s₁:=by
 have rv:=ZaO hi;have lenV:=hi.length;generalize hH:(fun b=>if (∃f c,Uj K f=some (c,b)) then some (HO.tbl #[] "ends_first.<locals>.<lambda>") else if b=a/\K.lookup a=none then some (.frz { cls:=.type "list",data:=.seq vs.toArray } (.lst (ns.map V.int))) else none:Hp)=H;have tabP:∀{b},(∃f c,Uj K f=some (c,b))->s₁.heap.get? b=some (PySem.W.tabObj #[])/\K.lookup b=none/\PySem.isCodeTable s₁.heap b:=fun {b} e=>by
  obtain⟨f0,c,q⟩:=e;obtain⟨h1,h2⟩:=hL f0 c b q;exact⟨h1,h2,((PySem.W.codeHd_of_K KX (BV q)).tab h1).isCodeTable⟩
 have at_tab:∀{b},(∃f c,Uj K f=some (c,b))->H b=some (.tbl #[] "ends_first.<locals>.<lambda>"):=fun {b} e=>by subst hH;exact Da e
 have at_a:K.lookup a=none->H a=some (.frz { cls:=.type "list",data:=.seq vs.toArray } (.lst (ns.map V.int))):=fun e=>by
  subst hH;refine(Qa fun z=>?_).trans (Da ⟨rfl,e⟩);have:=(tabP z).1;rw[ha] at this;cases this
 have cases_H:∀b u,H b=some u->((∃f c,Uj K f=some (c,b))/\u=.tbl #[] "ends_first.<locals>.<lambda>")\/(b=a/\K.lookup a=none/\u=.frz { cls:=.type "list",data:=.seq vs.toArray } (.lst (ns.map V.int))):=fun b u e=>by
  subst hH;dsimp only at e
  split at e
  ·rename_i z;exact .inl ⟨z,(Option.some.inj e).symm⟩
  ·split at e
   ·rename_i z;exact .inr ⟨z.1,z.2,(Option.some.inj e).symm⟩
   ·cases e
 have hS:Yb K H a (ns.map V.int):=by
  cases hk:K.lookup a with
  |some o =>
   have e:=KX a o hk;rw[ha] at e;cases e;exact .inr ⟨_,vs.toArray,_,hk,rfl,rfl,rfl,by rw[Ve,lenV];exact hl,by simpa using rv⟩
  |none=>exact .inl (.inr ⟨_,at_a hk⟩)
 have hok:He P w H s₁.heap:=fun b u e=>by
  rcases cases_H b u e with ⟨z,rfl⟩|⟨rfl,_,rfl⟩
  ·exact⟨#[],(tabP z).1,trivial,fun pos c' q=>by cases q⟩
  ·exact⟨ha,by rw[Pb];exact hl,vs,_,rv,ha⟩
 have base_of:∀{b:Ja}{o:Obj},s₁.heap.get? b=some o->H b=none->(Mp s₁.heap H).get? b=some o:=fun e n=>Zg1 e n;have noA:∀{b:Ja}{o:Obj},s₁.heap.get? b=some o->(∀xs n,o.data≠.seq xs n)->(∀xs,o.data≠.fields xs)->H b=none:=fun {b o} e d1 d2=>by
  cases q:H b with
  |none=>rfl
  |some u =>
   rcases cases_H b u q with ⟨z,_⟩|⟨z,_,_⟩
   ·have:=(tabP z).1
    rw[e] at this;cases this;exact Eb rfl (d2 _)
   ·subst z
    rw[ha] at e;cases e;exact Eb rfl (d1 _ _)
 have nsK:∀{b:Ja}{m:Str->Option Va},s₁.heap.Ns b m->(Mp s₁.heap H).Ns b m:=fun {b m} ⟨o,es,ep,e,d,r⟩=>⟨o,es,ep,base_of e (noA e (fun _ _ z=>by rw[d] at z;cases z) (fun _ z=>by rw[d] at z;cases z)),d,r⟩
 have hKb:K.In (Mp s₁.heap H):=fun b o e=>base_of (KX b o e) (by
  cases q:H b with
  |none=>rfl
  |some u =>
   rcases cases_H b u q with ⟨z,_⟩|⟨rfl,z,_⟩
   ·rw[(tabP z).2.1] at e;cases e
   ·rw[z] at e;cases e)
 have hM:Mod K mg (Mp s₁.heap H):=⟨hKb,nsK hns,⟨mb,nsK hb,hbb⟩,let ⟨mc,h1,h2⟩:=hlim;⟨mc,nsK h1,h2⟩,by
  obtain⟨bm,o,b1,b2,b3,b4,b5,b6⟩:=hbm;exact⟨bm,o,b1,b2,base_of b3 (noA b3 (fun _ _ z=>by rw[b6] at z;cases z) (fun _ z=>by rw[b6] at z;cases z)),b4,b5,b6⟩⟩
 have e0:L6 P w K mg (Mp s₁.heap H) callerA [] s₁ H:=⟨rfl,hM,fun b o e=>Ziy e,Z6 (Zg2 _ _),trivial,fun b hb=>Eb (show b∈([]:LI2) from hb) (by simp),hok,.of_eq hg,fun f0 c P0 q=>at_tab ⟨f0,c,q⟩⟩
 refine codeAny_mono ((F _ hKb (nsK hns)).run callerA [] s₁ H ⟨[.ref a],[]⟩ [.ref a] [.ref a] _ _ hr e0 (hbind s₁ (.ref a)) (.cons rfl .nil) (hsp H hS)) fun r s' h=>?_
 match r,h with
 |.error e,h=>exact(hCX H e s' h).elim
 |.ok (.ret u),h =>
  obtain⟨v,H',os,bare,un,hok',r',q⟩:=h;have q':v=.bl true:=q;subst q';obtain rfl:u=Value.bool true:=r';have old:∀b o,s₁.heap.get? b=some o->PySem.asItWas s₁.heap s'.heap b o/\∃o',s'.heap.get? b=some o':=fun b o e=>by
   cases q:H b with
   |none =>
    have:=un.keep b o e q (by intro z;exact Eb (show b∈([]:LI2) from z) (by simp)) (by simp);exact⟨.inl this,_,this⟩
   |some u =>
    rcases cases_H b u q with ⟨z,rfl⟩|⟨rfl,_,rfl⟩
    ·obtain⟨more,e2,_⟩:=hok' b _ (un.tbls b _ _ q)
     obtain⟨t1,_,t2⟩:=tabP z;rw[e] at t1;cases t1;exact⟨.inr (.inl ⟨t2,rfl,#[],more,rfl,e2⟩),_,e2⟩
    ·obtain⟨e1,_⟩:=hok b _ q
     obtain⟨e2,_⟩:=hok' b _ (un.frzs b _ _ q);rw[e] at e1;cases e1;exact⟨.inl e2,_,e2⟩
  exact⟨rfl,⟨fun b o e=>(old b o e).1,fun b o e=>(old b o e).2⟩,os,bare⟩
noncomputable abbrev MO{K:ZlR}{h:Heap}(_:K.In h):ZlR:=K
theorem ZcM(T:PyProof.Rows.Top p loose mean mg mb h): TD mg h:=let ⟨bm,ob,a,b,c,d,e,f⟩:=T.bmain;⟨bm,ob,a,b,c,d,e,f⟩
theorem Zlr{l: PySem.W.OpenLaw}{n k: Nat}{XP: (Str->Option Va)->Heap->Prop}{YP: Jc->Heap->Prop}{d: DefRec}{K: Params->ZlR}{sp: ZlR->Sp}{x: Str}(hn:l.most=some n)(hn2:n<=Cc)(hdf:d.params.defaults=[])(hr:Fe k callerA)(hY:∀(w:Jc) (h:Heap),YP w h->(K w.params).In h/\NE (K w.params) h)(F:∀(w:Jc) (mg:Str->Option Va) (fa:Ja) (h:Heap),(K w.params).In h->h.Ns Tg mg->mg d.name=some (.ref fa) ->
   ∃fd:Fk,(∀(s:Ga) (u:Va),BindsTo s fd ⟨[u],[]⟩ [(x,u)]) /\
    ∀base:Heap,(K w.params).In base->base.Ns Tg mg->Wb l.prog w (K w.params) mg base CX k fa fd [x] (sp (K w.params)))(hsp:∀(K:ZlR) (H:Hp) (a:Ja) (ns:LI0),ns.length<=n->Yb K H a (ns.map V.int)->sp K [.ref a] H (fun v _=>v=.bl true) fun _ _ _=>False)(hCX:∀(H:Hp) (s:Ga) (e:Va) (s':Ga),CX [] H s (fun _ _ _=>False) e s'->False):
  PySem.W.WalkO q loose XP YP l.row.toRowW d [] (fun f vs=>PySem.call f vs):=by
 refine Att.Zch hn hdf fun w s₀ s₁ mg mb fa o pm cd doc a vs ns G Y ho hd hcd hmg hobj hints Ge hg=>?_;obtain⟨KX,LX⟩:=hY w _ Y;obtain⟨fd,hb,hF⟩:=F w mg fa _ KX G.T.g hmg;exact Zhn KX G.T.g G.T.b G.T.builtins G.T.nolimit (ZcM G.T) LX hg hobj hints (Se Ge hn2) hr hF hb (fun H hS=>hsp (K w.params) H a ns Ge hS) fun H e s'=>hCX H s₁ e s'
noncomputable def Z3(s:Kb)(j:Nat):Kb:=match s with
 |.ClassDef _ _ _ body _ _ _ _ _ _ _=>body.getD j (.Pass ⟨0,0,0,0⟩)
 |_=>.Pass ⟨0,0,0,0⟩
noncomputable def Yt(s:Kb):Arguments:=match s with
 |.FunctionDef _ a _ _ _ _ _ _ _ _=>a
 |_=>{ posonlyargs:=[],args:=[],vararg:=none,kwonlyargs:=[],kw_defaults:=[],kwarg:=none,defaults:=[] }
noncomputable def Dl(s:Kb):List Kb:=match s with
 |.FunctionDef _ _ b _ _ _ _ _ _ _=>b
 |_=>[]
noncomputable def Mb(s:Kb):Scope:=match s with
 |.FunctionDef _ _ _ _ _ _ sc _ _ _=>sc
 |_=>{ kind:=.function,names:=[],isGenerator:=false,isCoroutine:=false }
noncomputable abbrev Fc:Gn:=fun _ _ _ _ _ _=>False
noncomputable abbrev E0:XK:=fun _ _ _=>False
theorem YJ: R6 Fc X E0:=fun _ _ _ _ _ _ _ h=>h.elim
structure Xb(K:ZlR)(x qual:Str)(st:Kb)(f:Ja)(fd:Fk):Prop where
 ex:∃(oc:Va) (od:Option Ja) (kV doc pm:Va) (an:Option Ja) (Lb ct:Va) (osl:Array (Option Va)),
  fd=PySem.W.fnOf x qual (Yt st) (Dl st) (Mb st) .none kV doc pm an Lb ct/\K.lookup f=some ⟨oc,od,.func fd,osl⟩/\PySem.W.codeIn K Lb qual=true
 kp:PySem.W.keepIn K (.ref f)=true
section
variable {P:Bc}{w:Jc}{K:ZlR}{mg:Str->Option Va}{base:Heap}
theorem Xb.ok{x qual:Str}{st:Kb}{f:Ja}{fd:Fk}{N ps:List Str}{k:Nat}{sp:Sp}(F:Xb K x qual st f fd)(S:Uc N ps (Mb st))(len:∀vs H Q E,sp vs H Q E->vs.length=ps.length)(hbody:∀(Lb:Va) (A:Pd) (outer:List Env) (s:Ga) (H:Hp) (vs:List V) (Q:VK) (E:XK),Fe k (A.deeper (envOfC qual (Mb st) s.heap.objs.size f Lb))->sp vs H Q E ->
   ∃t,Wg (Gi Fc P w K mg base N qual (Mb st) f Lb A outer s H E).nox (Dl st) t/\t { nx:=fun _ H'=>Q .non H',rt:=Q } (Dj N vs) H):Wb P w K mg base Fc (k+1) f fd ps sp:=by
 obtain⟨oc,od,kV,doc,pm,an,Lb,ct,osl,rfl,lk,hcd⟩:=F.ex;refine HH lk hcd S len fun A outer s H vs Q E hr hsp=>?_;obtain⟨t,h,q⟩:=hbody Lb A outer s H vs Q E hr hsp;exact⟨t,h.nox,q⟩
theorem Xb.binds{x qual:Str}{st:Kb}{f:Ja}{fd:Fk}{ps:List Str}(F:Xb K x qual st f fd)(h:∀(kV doc pm:Va) (an:Option Ja) (Lb ct:Va) (us:LI3),us.length=ps.length->bindArgs (PySem.W.fnOf x qual (Yt st) (Dl st) (Mb st) .none kV doc pm an Lb ct) ⟨us,[]⟩=pure (ps.zip us)):Wo K fd ps []:=by
 obtain⟨oc,od,kV,doc,pm,an,Lb,ct,osl,rfl,lk,hcd⟩:=F.ex;exact .all (h kV doc pm an Lb ct)
theorem RT{x qual:Str}{st:Kb}{f:Ja}{oc:Va}{od an:Option Ja}{osl:Array (Option Va)}{kV doc pm Lb ct:Va}(l:K.lookup f=some ⟨oc,od,.func (PySem.W.fnOf x qual (Yt st) (Dl st) (Mb st) .none kV doc pm an Lb ct),osl⟩)(c:PySem.W.codeIn K Lb qual=true)(k:PySem.W.keepIn K (.ref f)=true):Xb K x qual st f (PySem.W.fnOf x qual (Yt st) (Dl st) (Mb st) .none kV doc pm an Lb ct):=⟨⟨oc,od,kV,doc,pm,an,Lb,ct,osl,rfl,l,c⟩,k⟩
variable {X:Cx}
theorem pv(i:Nat)(hN:X.N[i]?=some x:=by rfl)(hv:V1 X.env.scope x:=by first|exact Or.inl rfl|exact Or.inr (Or.inl rfl)|exact Or.inr (Or.inr rfl))(hd:(x==("__debug__":Str))=false:=by decide)(hcd:(x==("__classdict__":Str))=false:=by decide): PE X (.Name x pos) (Bg i):=ZjH hN hv hd hcd
end
def La(H H':Hp):Prop:=∀b o,H b=some o->H' b=some o
theorem La.refl(H:Hp):La H H:=fun _ _ h=>h
theorem La.trans(a:La H H1)(b:La H1 H2): La H H2:=fun c o h=>b c o (a c o h)
theorem La.free(e:La H H')(h:H' l=Option.none): H l=Option.none:=by
 cases q:H l with
 |none=>rfl
 |some o =>
  rw[e l o q] at h;cases h
end L2
set_option maxHeartbeats 4000000
namespace L2
open PySem PySem.Spec PyProof.Rows
noncomputable def Yg(scope:Scope)(env:Env):List (Str×Ja):=
 ((scope.names.filter fun p=>p.2==.free).reverse).map fun p=>(p.1,(env.cells.lookup p.1).getD 0)
theorem NV: ∀{l:List (Str×β)}{a:Str}{b:β},(a,b)∈l->∃c,l.lookup a=some c
 |[],_,_,h=>Eb h (by simp)
 |(n,v)::r,a,b,h=>by
  cases e:a==n with
  |true=>exact⟨v,by simp[Qn,e]⟩
  |false =>
   rcases Vd.mp h with z|z
   ·cases z;simp at e
   ·obtain⟨c,hc⟩:=NV z
    exact⟨c,by simp[Qn,e,hc]⟩
theorem Hq{env:Env}:∀{names:List (Str×NameKind)}{y:Str}{k:NameKind},(∀p∈names,p.2≠.cell) ->
  (names.map fun(n,k)=>if (k==NameKind.free&&env.scope.kind==.function&&env.kindOf n==some .cell) then (n,NameKind.cell) else (n,k)).lookup y=some k ->
  (k=.local->names.lookup y=some .local)/\(k=.cell\/k=.free->names.lookup y=some .free)
 |[],_,_,_,h=>by simp at h
 |(n,k0)::r,y,k,nc,h=>by
  have ih:=@Hq env r y k (fun p hp=>nc p (Jj _ hp));have nc0:=nc (n,k0) Wl;have h':List.lookup y ((if (k0==NameKind.free&&env.scope.kind==.function&&env.kindOf n==some .cell)=true then (n,NameKind.cell) else (n,k0))::(r.map fun(n,k)=>if (k==NameKind.free&&env.scope.kind==.function&&env.kindOf n==some .cell) then (n,NameKind.cell) else (n,k)))=some k:=h;cases hx:y==n with
  |true =>
   by_cases hc:(k0==NameKind.free&&env.scope.kind==.function&&env.kindOf n==some .cell)=true
   ·rw[Da hc] at h'
    simp only[Qn,hx] at h';have hk:NameKind.cell=k:=Option.some.inj h';subst hk;have hf:k0=.free:=by
     simp only[Bool.and_eq_true] at hc;exact beq_iff_eq.mp hc.1.1
    subst hf;exact⟨(fun z=>nomatch z),fun _=>by simp[Qn,hx]⟩
   ·rw[Qa hc] at h'
    simp only[Qn,hx] at h';have hk:k0=k:=Option.some.inj h';subst hk;refine⟨fun z=>by subst z;simp[Qn,hx],fun z=>?_⟩;rcases z with z|z
    ·exact Eb z nc0
    ·subst z;simp[Qn,hx]
  |false =>
   by_cases hc:(k0==NameKind.free&&env.scope.kind==.function&&env.kindOf n==some .cell)=true
   ·rw[Da hc] at h'
    simp only[Qn,hx] at h';have:=ih h';simpa[Qn,hx] using this
   ·rw[Qa hc] at h'
    simp only[Qn,hx] at h';have:=ih h';simpa[Qn,hx] using this
noncomputable def IG(N:List Str)(sc scope:Scope)(x:Str):Bool:=
 (scope.names.all fun p=>!(p.2==.cell))&&(scope.kind==.function)&&(scope.names.all fun p=>!(p.2==.local) || scope.names.lookup p.1==some .local)&&(scope.names.lookup x==some .local)
  && (N.all fun y=>!(scope.names.lookup y==some .local))&&(scope.names.all fun p=>!(p.2==.free) || sc.names.lookup p.1==some .cell || sc.names.lookup p.1==some .free)
structure Uv(N:List Str)(sc scope:Scope)(x:Str):Prop where
 nc:∀p∈scope.names,p.2≠.cell
 kind:scope.kind=.function
 locs:∀p∈scope.names,p.2=.local->scope.names.lookup p.1=some .local
 var:scope.names.lookup x=some .local
 noN:∀y∈N,scope.names.lookup y≠some .local
 fr:∀p∈scope.names,p.2=.free->sc.names.lookup p.1=some .cell\/sc.names.lookup p.1=some .free
theorem Uv.of(h:IG N sc scope x=true): Uv N sc scope x:=by
 unfold IG at h;simp only[Bool.and_eq_true,Ah,Bool.or_eq_true,Bool.not_eq_true',beq_iff_eq,beq_eq_false_iff_ne] at h;obtain⟨⟨⟨⟨⟨h1,h2⟩,h3⟩,h4⟩,h5⟩,h6⟩:=h;refine⟨h1,h2,fun p hp e=>?_,h4,h5,fun p hp e=>?_⟩
 ·rcases h3 p hp with z|z
  ·exact Eb e z
  ·exact z
 ·rcases h6 p hp with (z|z)|z
  ·exact Eb e z
  ·exact .inl z
  ·exact .inr z
section
variable {X:Cx}{Za:List (Ja×Obj)}{σ:St}{H:Hp}{s:Ga}
theorem Ca.adopt(I:Ca X Za σ H s)(hn:H D=none)(h1:X.s₀.heap.objs.size<=D)(hL:D≠X.env.locals)(hc:∀x c,X.env.cells.lookup x=some c->c≠D)(hp:∀p∈X.pn++Za,p.1≠D)(ho:s.heap.get? D=some { cls:=.type "list",data:=.seq its.toArray n })(r:Ab ys its)(hz:ys.length<=Cc): Ca X Za σ (upd H D (.lst ys)) s:=by
 refine I.step (h':=s.heap) (g':=s.gens) (d':=s.drawn) (t':=s.toks) (ch:=[D]) (fun b hb=>?_) (fun b o _ _ _ e _=>e) (fun b o _ _ _ e _=>⟨o.slots,e⟩) (fun b o hb _ e=>?_) (fun b o _ e=>⟨o,e⟩)
  (fun b xs e=>?_) (fun b o u e=>?_) (fun b ps w e=>?_) (fun m hm=>hm) (fun b u e=>?_) I.bare
 ·have e:b=D:=by simpa using hb
  subst e;exact⟨.inr h1,hL,hc,hp⟩
 ·rw[Rb (by simpa using hb)];exact e
 ·rw[Rb (Qg e hn)];exact e
 ·rw[Rb (Qg e hn)];exact e
 ·rw[Rb (Qg e hn)];exact e
 ·by_cases hb:b=D
  ·subst hb
   rw[Uf] at e;cases e;exact⟨hz,its,n,r,ho⟩
  ·rw[Rb hb] at e
   exact(I.hok b u e).stay (fun c v _ q=>q) (fun c q=>by rw[Rb (Qg q hn)];exact q) fun c xs q=>by rw[Rb (Qg q hn)];exact q
variable {scope:Scope}
theorem C7(h:scope.names.lookup y=some .free): ∃c,(Yg scope X.env).lookup y=some c:=by
 have hm:=PySem.mem_of_lookup h;refine NV (b:=(X.env.cells.lookup y).getD 0) ?_;unfold Yg;exact Nd.mpr ⟨(y,.free),EN.mpr (An.mpr ⟨hm,rfl⟩),rfl⟩
end
end L2
namespace HL
open PySem PyProof.Rows
section
open PySem.SeqAt
open PySem.AutoSeq1 (wpAny_loadPart')
open PySem.MeetsSeq PySem.MeetsSeq2 PySem.MeetsSeq3 SeqRoads2
end
section
end
end HL
namespace L2
open PySem PySem.Spec PyProof.Rows
section
variable {X:Cx}
theorem Zd6(hc:X.calm=true):Og X (.builtin "sum") (fun xs H Q=>∃p,∃ns:LI0,xs=[.ref p]/\Yb X.K H p (ns.map V.int)/\Q (.int ns.sum) H):=by
 intro Za s σ H xs us Q I r h;obtain⟨p,ns,rfl,hq,q⟩:=h;obtain⟨u,rfl,rx⟩:=Zn r;cases rx;obtain⟨its,r',pl,hz⟩:=I.list hq;have hi:IntsAre its ns:=VI r';obtain⟨xs,hx⟩:=hi.allInts.items;have hl':s.heap.IsList p (intItems xs):=hx▸pl.isList;refine sum_intListG (I.ok.hd hc) hl' fun h' tk t' hk=>?_;have e1:ns=xs.toList.map (·.1):=by
  rw[<- nums_intItems,<- hx];exact(show numsOf its.toArray.toList=ns from hi.numsOf).symm
 have e2:preSum (numAt xs) xs.size=ns.sum:=by
  rw[preSum_eq,Yk (by simp),e1]
 rw[e2];exact⟨.int ns.sum,H,I.kept hk,⟨_,rfl⟩,q⟩
theorem BQ:∀{bs:List Bool}{us:LI3},Ab (bs.map V.bl) us->LSm.BoolsAre us bs
 |[],_,.nil=>.nil
 |b::bs,_,.cons r t=>by
  cases r;exact .cons b (BQ t)
theorem Zdv(hc:X.calm=true):Og X (.builtin "all") (fun xs H Q=>∃p,∃bs:List Bool,xs=[.ref p]/\Yb X.K H p (bs.map V.bl)/\Q (.bl (bs.all id)) H):=by
 intro Za s σ H xs us Q I r h;obtain⟨p,bs,rfl,hq,q⟩:=h;obtain⟨u,rfl,rx⟩:=Zn r;cases rx;obtain⟨its,r',pl,hz⟩:=I.list hq;have hb:=BQ r';have hlt:p<s.heap.objs.size:=by obtain⟨_,e,_⟩:=pl.isList;exact Heap.lt_size e
 refine call_all_walk (wpAny_pyIter_list pl.isList ?_);refine⟨s.heap.objs.size,[s.heap.objs.size,p],[s.heap.objs.size],its.toArray.size,_,_,fun i=>(bs[i]?).getD true,rfl,Walks.list (A:=X.A.in1) (I.ok.hd hc) _ p (Jf hlt) its.toArray,
  ⟨⟨_,Heap.get?_push_size _ rfl,rfl,rfl⟩,pl.isList.push _⟩,fun i v s' Q' E' hP hQ=>?_,fun h' tk hk=>?_⟩
 ·obtain⟨b,e,rfl⟩:=hb.get i v (by simpa using hP)
  dsimp only at hQ;rw[e,U6] at hQ;exact Wq hQ
 ·rw[Ve,hb.length,LSm.range_all]
  exact⟨.bl (bs.all id),H,I.kept (LSm.kept_iter hk),rfl,q⟩
end
end L2
namespace HL
open PySem PyProof.Rows
section
end
section
open PySem.SeqAt
open PySem.AutoSeq1 (wpAny_loadPart')
open PySem.MeetsSeq PySem.MeetsSeq2 PySem.MeetsSeq3
end
end HL
namespace HL
open PySem
theorem GI:∀a:LI0,HT.Zc a a=false
 |[]=>rfl
 |x::xs=>by rw[HT.B3,Da rfl];exact GI xs
theorem HI:∀{a b c:LI0},HT.Zc a b=true->HT.Zc b c=true->HT.Zc a c=true
 |[],[],_,h,_=>by simp[HT.Zc] at h
 |[],_::_,[],_,h=>by simp[HT.Zc] at h
 |[],_::_,_::_,_,_=>rfl
 |_::_,[],_,h,_=>by simp[HT.Zc] at h
 |_::_,_::_,[],_,h=>by simp[HT.Zc] at h
 |x::xs,y::ys,z::zs,h1,h2=>by
  rw[HT.B3] at h1 h2 ⊢;by_cases e1:x=y
  ·rw[Da e1] at h1
   subst e1;by_cases e2:x=z
   ·rw[Da e2] at h2 ⊢
    exact HI h1 h2
   ·rw[Qa e2] at h2 ⊢
    exact h2
  ·rw[Qa e1] at h1
   have h1':=Ei h1;by_cases e2:y=z
   ·subst e2
    rw[Qa e1];exact h1
   ·rw[Qa e2] at h2
    have h2':=Ei h2;rw[Qa (by lia)];exact Hb (by lia)
theorem A8:∀{a b:LI0},HT.Zc a b=false->HT.Zc b a=false->a=b
 |[],[],_,_=>rfl
 |[],_::_,h,_=>by simp[HT.Zc] at h
 |_::_,[],_,h=>by simp[HT.Zc] at h
 |x::xs,y::ys,h1,h2=>by
  rw[HT.B3] at h1 h2;by_cases e:x=y
  ·subst e
   rw[Da rfl] at h1 h2;rw[A8 h1 h2]
  ·rw[Qa e] at h1
   rw[Qa (Ne.symm e)] at h2;have:=of_decide_eq_false h1;have:=of_decide_eq_false h2;lia
end HL
namespace L2
open PySem PySem.Spec PyProof.Rows
section
variable {X:Cx}
theorem Zd1(hc:X.calm=true):Og X (.builtin "min") (fun xs H Q=>∃p,∃ns:LI0,xs=[.ref p]/\Yb X.K H p (ns.map V.int)/\0<ns.length/\∀m,m∈ns->(∀a∈ns,m<=a)->Q (.int m) H):=by
 intro Za s σ H xs us Q I r h;obtain⟨p,ns,rfl,hq,hne,q⟩:=h;obtain⟨u,rfl,rx⟩:=Zn r;cases rx;obtain⟨its,r',pl,hz⟩:=I.list hq;have hi:IntsAre its ns:=VI r';obtain⟨zs,e⟩:=hi.allInts.items;have hns:ns=zs.toList.map (·.1):=by rw[<- hi.numsOf,<- nums_intItems,<- e]
 have hsz:0<zs.size:=by
  have h3:=hne;rw[hns,Pb,Oe] at h3;exact h3
 have hl:=pl.isList;rw[e] at hl;refine min_intList (I.ok.hd hc) hl hsz fun v h' tk hv hk=>?_;obtain⟨t,rfl⟩:=intItems_at hv;obtain⟨h1,h2⟩:=argBest_lt (numAt zs) (zs.size-1);refine⟨.int _,H,I.kept hk,⟨_,rfl⟩,q _ ?_ fun a ha=>?_⟩
 ·rw[hns,numAt_eq];exact getD_mem (by rw[Pb,Oe];lia)
 ·rw[hns] at ha
  obtain⟨j,hj,rfl⟩:=mem_getD ha;rw[Pb,Oe] at hj;rw[<- numAt_eq];exact h2 j (by lia)
def MY(K:ZlR):List V->Hp->VK->Prop:=fun xs H Q=>∃p,∃ns:LI0,xs=[.ref p]/\Yb K H p (ns.map V.int)/\0<ns.length/\∀m,m∈ns->(∀a∈ns,m<=a)->Q (.int m) H
end
def Oc(K:ZlR)(mg:Str->Option Va)(x:Str)(st:Kb):Prop:=∃f fd,Xb K x x st f fd/\mg x=some (.ref f)
noncomputable abbrev Rc(x:Str)(st:Kb)(ps:List Str):Prop:=∀(kV doc pm:Va) (an:Option Ja) (Lb ct:Va) (us:LI3),us.length=ps.length ->
 bindArgs (PySem.W.fnOf x x (Yt st) (Dl st) (Mb st) .none kV doc pm an Lb ct) ⟨us,[]⟩=pure (ps.zip us)
def Ok(P:Bc)(w:Jc)(K:ZlR)(mg:Str->Option Va)(base:Heap)(k:Nat)(x:Str)(ps:List Str)(sp:Sp):Prop:=
 ∃f fd,Wb P w K mg base Fc k f fd ps sp/\mg x=some (.ref f)/\PySem.W.keepIn K (.ref f)=true/\Wo K fd ps []
theorem Zi1{P:Bc}{w:Jc}{K:ZlR}{mg:Str->Option Va}{base:Heap}{k:Nat}{x:Str}{st:Kb}{ps:List Str}{sp:Sp}(d:Oc K mg x st)(b:Rc x st ps)(h:∀{f fd},Xb K x x st f fd->Wb P w K mg base Fc k f fd ps sp):Ok P w K mg base k x ps sp:=by
 obtain⟨f,fd,F,hm⟩:=d;exact⟨f,fd,h F,hm,F.kp,F.binds b⟩
section
variable {X:Cx}{k:Nat}{x:Str}{ps:List Str}{sp:Sp}{p pos:Pos}{e:Expr}{es:List Expr}{t:TA}
noncomputable def Rl(sp:Sp)(t:TA):TE:=fun σ H Q=>t σ H fun vs H1=>sp vs H1 Q E0
theorem SX(G:Ok X.prog X.w X.K X.mg X.base k x ps sp)(hr:Fe k X.A)(hg:Gl X x)(ha:PA X (e::es) t)(hdb:(x==("__debug__":Str))=false:=by decide)(he:Tc (e::es) X.env=(false,eval e X.env)::Tc es X.env:=by rfl)(hpl:(Fh pos (Tc es X.env)).any (·.1)=false:=by rfl):PE X (.Call (.Name x p) (e::es) [] pos) (Rl sp t):=by
 obtain⟨f,fd,F,hm,hk,hb⟩:=G;intro Za s σ H Q I h;refine Zj7 (CX:=Fc) (E:=E0) (dvs:=[]) F hr hg hm hk hb .nil YJ ha hdb he hpl Za s σ H Q I ?_;have e:(fun vs H1=>sp (vs++[]) H1 Q E0)=fun vs H1=>sp vs H1 Q E0:=by funext vs H1;rw[Rs]
 show t σ H (fun vs H1=>sp (vs++[]) H1 Q E0);rw[e];exact h
theorem Zj9(G:Ok X.prog X.w X.K X.mg X.base k x ps sp)(hr:Fe k X.A)(hg:Gl X x)(hdb:(x==("__debug__":Str))=false:=by decide):PE X (.Call (.Name x p) [] [] pos) (Rl sp Sl):=by
 obtain⟨f,fd,F,hm,hk,hb⟩:=G;exact Zj8 (CX:=Fc) (E:=E0) (dvs:=[]) F hr hg hm hk hb .nil YJ hdb
theorem ZK{i:Int}(hm:∃t,X.mg x=some (.int i t))(hg:Gl X x)(hd:(x==("__debug__":Str))=false:=by decide):PE X (.Name x pos) (tC (.int i)):=by
 obtain⟨t,hm⟩:=hm;exact Y3 (v:=.int i) hg hm ⟨t,rfl⟩ hd
theorem Zga:YE X (B4 X.K):=by
 intro Za s σ H o i ov iv Q I ro ri h;obtain⟨p,xs,i,z,rfl,rfl,hq,he,q⟩:=h;cases ro;obtain⟨t,rfl⟩:=ri;obtain⟨its,r,pl,hz⟩:=I.list hq;obtain⟨j,h1,h2,h3,h4,h5⟩:=J7 he;obtain⟨w,ew,rw'⟩:=r.get h2;have hl:=r.length;have hn:=Vu;have fin:EP X Za σ Q w s:=⟨z,H,I,rw',q⟩
 by_cases h0:0<=i
 ·have hj:i.toNat=j:=by
   rw[seqIndex_of h0 h5] at h1;exact Option.some.inj h1
  exact wpAny_getItem_list pl.isList h0 (by lia) (by rw[hj];simpa using ew) fin
 ·have hj:(i+(its.toArray.size:Int)).toNat=j:=by
   rw[seqIndex_neg (by lia) h4] at h1;rw[Ve,<- hl];exact Option.some.inj h1
  exact wpAny_getItem_list_neg pl.isList (by lia) (by rw[Ve]<;>lia) (by lia) (by rw[hj];simpa using ew) fin
end
theorem Zdw: Og X (.builtin "len") (fun xs H Q=>∃p ys,xs=[.ref p]/\(Yb X.K H p ys\/Af X.K H p ys)/\Q (.int ys.length) H):=Zdy
theorem Zcl:Gh "len"=some (.builtin "len"):=by decide +kernel
theorem Vp:Gh "isinstance"=some (.builtin "isinstance"):=by decide +kernel
theorem Pn:Gh "sum"=some (.builtin "sum"):=by decide +kernel
theorem NF:Gh "all"=some (.builtin "all"):=by decide +kernel
theorem Zcm:Gh "min"=some (.builtin "min"):=by decide +kernel
theorem Sn:Gh "list"=some (.type "list"):=by decide +kernel
theorem ZcR:Gh "int"=some (.type "int"):=by decide +kernel
theorem ZcP:Gh "bool"=some (.type "bool"):=by decide +kernel
section
variable {X:Cx}{K:ZlR}
theorem ZgJ(e:X.K=K:=by rfl):Kn X (Ry K):=by subst e;exact ZgI
theorem Zdx(e:X.K=K:=by rfl):Og X (.builtin "len") (fun xs H Q=>∃p ys,xs=[.ref p]/\(Yb K H p ys\/Af K H p ys)/\Q (.int ys.length) H):=by subst e;exact Zdw
theorem Tn(hc:X.calm=true)(e:X.K=K:=by rfl):Og X (.builtin "sum") (fun xs H Q=>∃p,∃ns:LI0,xs=[.ref p]/\Yb K H p (ns.map V.int)/\Q (.int ns.sum) H):=by subst e;exact Zd6 hc
theorem QG(hc:X.calm=true)(e:X.K=K:=by rfl):Og X (.builtin "all") (fun xs H Q=>∃p,∃bs:List Bool,xs=[.ref p]/\Yb K H p (bs.map V.bl)/\Q (.bl (bs.all id)) H):=by subst e;exact Zdv hc
theorem T1(e:X.K=K:=by rfl):Og X (.type "list") (fun xs H Q=>∃p ys,xs=[.ref p]/\(Yb K H p ys\/Af K H p ys)/\∀l,H l=none->Q (.ref l) (upd H l (.lst ys))):=by subst e;exact Zdz
theorem Xy(e:X.K=K:=by rfl):QF X (LK K):=by subst e;exact Zk3
theorem Zgb(e:X.K=K:=by rfl):YE X (B4 K):=by subst e;exact Zga
theorem Lk(hl:PE X l tl)(e:X.K=K:=by rfl): PI X tg l (X2 K tl):=by subst e;exact ZjL hl
variable {u:TS}{H:Hp}{b:TA}
theorem X7{n:Nat}{k:Int}(h0:0<=k)(h1:k<n):Jk n k=some k.toNat:=by unfold Jk;rw[Da h0,Da h1]
theorem La.upd(h:La H H')(hp:H p=none): La H (upd H' p o):=fun b u e=>by
 rw[Rb (Qg e hp)];exact h b u e
theorem La.new(hp:H p=none): La H (L2.upd H p o):=La.upd (La.refl H) hp
theorem D8(h:n<=1000): n<=Cc:=Se h (by decide)
end
inductive Sh where
 |dk (ks:List Sb)|dt (ks:List (List Sb))|ob (n:Str) (fs:List Str)
  |jk
  |ls
inductive PV where
 |non|bl (b:Bool)|int (i:Int)|str (x:Str)|lst (xs:List PV)|tup (xs:List PV)
  |exc (n:Str)
  |exa (n:Str) (i:Int)
  |box (p:Option Ja) (s:Sh) (xs:List PV)
  |fz (xs:List PV)
  |any
abbrev LI5:=List PV
mutual
noncomputable def PV.flat:PV->Bool
 |.lst _=>false
 |.tup xs=>PV.flats xs
 |.non=>true
 |.bl _=>true
 |.int _=>true
 |.str _=>true
 |.exc _=>true
 |.exa _ _=>true
 |.box _ _ _=>false
 |.fz xs=>PV.flats xs
 |.any=>true
noncomputable def PV.flats:LI5->Bool
 |[]=>true
 |x::xs=>x.flat&&PV.flats xs
end
def KL(K:ZlR)(a:Ja)(xs:List V):Prop:=
 ∃(o:Obj) (its:Array Va) (n:Nat),K.lookup a=some o/\o.cls=.type "list"/\o.dict=none/\o.data=.seq its n/\its.size<=Cc/\Ab xs its.toList
noncomputable def LO:HO->Prop
 |.tup _=>True
 |.frz _ _=>True
 |.xd _=>True
 |_=>False
def Im(K:ZlR)(H:Hp)(a:Ja)(u:HO):Prop:=H a=some u/\LO u
noncomputable def T0:HO->Prop
 |.lst _=>True
 |.dK _=>True
 |.dT _=>True
 |.ins _ _ _=>True
 |_=>False
noncomputable abbrev Bm:={ u:HO // T0 u }
def Xg(K:ZlR)(n:Str)(C:Ja):Prop:=PySem.W.nsIn K Tg n=some (some (.ref C))
def ZE(K:ZlR)(H:Hp)(n:Str)(v:V):Prop:=∃a o C,v=.ref a/\Im K H a (.frz o (.own a))/\o.cls=.ref C/\o.dict=none/\PySem.W.notCls o=true/\Xg K n C
def YD(K:ZlR)(H:Hp)(n:Str)(i:Int)(v:V):Prop:=∃a o C d fs,v=.ref a/\Im K H a (.frz o (.own a))/\Im K H d (.xd fs)/\o.cls=.ref C/\o.dict=some d/\PySem.W.notCls o=true/\Xg K n C/\fs=[(("at":Str),V.int i)]
noncomputable def Jv(K:ZlR):Sh->List V->HO->Prop
 |.dk ks,vs,u=>ks.length=vs.length/\u=.dK (ks.zip vs)
 |.dt ks,vs,u=>ks.length=vs.length/\u=.dT (ks.zip vs)
 |.ob n fs,vs,u=>fs.length=vs.length/\∃C dx,u=.ins C dx (fs.zip vs)/\Xg K n C
 |.jk,vs,u=>vs=[]/\∃ws,u=.lst ws
 |.ls,vs,u=>u=.lst vs
def S6(p:Option Ja)(a:Ja):Prop:=match p with
 |none=>True
 |some b=>a=b
theorem Jv.lv{K:ZlR}{s:Sh}{vs:List V}{u:HO}(h:Jv K s vs u):T0 u:=by
 cases s with
 |dk ks=>obtain⟨_,rfl⟩:=h;trivial
 |dt ks=>obtain⟨_,rfl⟩:=h;trivial
 |ob n fs=>obtain⟨_,C,dx,rfl,_⟩:=h;trivial
 |jk=>obtain⟨_,ws,rfl⟩:=h;trivial
 |ls=>cases h;trivial
theorem NI(h:T0 u)(h':LO o): o≠u:=by
 intro e;subst e;cases o<;>first|exact h|exact h'
def CO(K:ZlR)(H:Hp)(a:Ja)(vs:List V):Prop:=∃o,Im K H a (.frz o (.lst vs))
mutual
noncomputable def Ta(K:ZlR)(H:Hp)(S:Ja->Prop):PV->V->Prop
 |.non,v=>v=.non
 |.bl b,v=>v=.bl b
 |.int i,v=>v=.int i
 |.str x,v=>v=.str x
 |.exc n,v=>ZE K H n v
 |.exa n i,v=>YD K H n i v
 |.box p s xs,v=>∃a vs u,v=.ref a/\(Rd H a u/\S a)/\(S6 p a/\Jv K s vs u)/\Reps K H S xs vs
 |.lst xs,v=>∃a vs,v=.ref a/\((Rd H a (.lst vs)/\S a)\/KL K a vs)/\Reps K H S xs vs
 |.tup xs,v=>∃a vs,v=.ref a/\Im K H a (.tup vs)/\Reps K H S xs vs
 |.fz xs,v=>∃a vs,v=.ref a/\CO K H a vs/\Reps K H S xs vs
 |.any,v=>∃a:Ja,v=.ref a
noncomputable def Reps(K:ZlR)(H:Hp)(S:Ja->Prop):LI5->List V->Prop
 |[],vs=>vs=[]
 |x::xs,vs=>∃v r,vs=v::r/\Ta K H S x v/\Reps K H S xs r
end
mutual
noncomputable def Dc(K:ZlR)(H:Hp):PV->V->LI2->Prop
 |.non,v,F=>v=.non/\F=[]
 |.bl b,v,F=>v=.bl b/\F=[]
 |.int i,v,F=>v=.int i/\F=[]
 |.str x,v,F=>v=.str x/\F=[]
 |.exc n,v,F=>ZE K H n v/\F=[]
 |.exa n i,v,F=>YD K H n i v/\F=[]
 |.box p s xs,v,F=>∃a vs u G,v=.ref a/\H a=some u/\(S6 p a/\Jv K s vs u)/\Trees K H xs vs G/\a ∉ G/\F=a::G
 |.lst xs,v,F=>∃a vs G,v=.ref a/\H a=some (.lst vs)/\Trees K H xs vs G/\a ∉ G/\F=a::G
 |.tup xs,v,F=>∃a vs,v=.ref a/\Im K H a (.tup vs)/\Trees K H xs vs F
 |.fz xs,v,F=>∃a vs,v=.ref a/\CO K H a vs/\Trees K H xs vs F
 |.any,v,F=>(∃a:Ja,v=.ref a)/\F=[]
noncomputable def Trees(K:ZlR)(H:Hp):LI5->List V->LI2->Prop
 |[],vs,F=>vs=[]/\F=[]
 |x::xs,vs,F=>∃v r G1 G2,vs=v::r/\Dc K H x v G1/\Trees K H xs r G2/\(∀a∈G1,a ∉ G2)/\F=G1++G2
end
section
variable {K:ZlR}{H H':Hp}{S S':Ja->Prop}
mutual
theorem Ta.mono(h1:∀a u,S a->Rd H a u->Rd H' a u/\S' a)(h2:∀a u,Im K H a u->Im K H' a u):∀{x:PV}{v:V},Ta K H S x v->Ta K H' S' x v
 |.non,_,h=>h
 |.bl _,_,h=>h
 |.int _,_,h=>h
 |.str _,_,h=>h
 |.any,_,h=>h
 |.exc n,_,h=>let ⟨a,o,C,e1,e2,e3⟩:=h;⟨a,o,C,e1,h2 a _ e2,e3⟩
 |.exa n i,_,h=>let ⟨a,o,C,d,fs,e1,e2,e2',e3⟩:=h;⟨a,o,C,d,fs,e1,h2 a _ e2,h2 d _ e2',e3⟩
 |.box p s xs,_,h=>by
  obtain⟨a,vs,u,rfl,⟨n1,n2⟩,hb,hr⟩:=h;exact⟨a,vs,u,rfl,h1 a u n2 n1,hb,Reps.mono h1 h2 hr⟩
 |.lst xs,_,h=>by
  obtain⟨a,vs,rfl,hn,hr⟩:=h;refine⟨a,vs,rfl, ?_,Reps.mono h1 h2 hr⟩;rcases hn with ⟨n1,n2⟩|n
  ·exact .inl (h1 a _ n2 n1)
  ·exact .inr n
 |.tup xs,_,h=>by
  obtain⟨a,vs,rfl,hn,hr⟩:=h;exact⟨a,vs,rfl,h2 a _ hn,Reps.mono h1 h2 hr⟩
 |.fz xs,_,h=>by
  obtain⟨a,vs,rfl,⟨o,hn⟩,hr⟩:=h;exact⟨a,vs,rfl,⟨o,h2 a _ hn⟩,Reps.mono h1 h2 hr⟩
theorem Reps.mono(h1:∀a u,S a->Rd H a u->Rd H' a u/\S' a)(h2:∀a u,Im K H a u->Im K H' a u):∀{xs:LI5}{vs:List V},Reps K H S xs vs->Reps K H' S' xs vs
 |[],_,h=>h
 |x::xs,_,h=>by
  obtain⟨v,r,rfl,h3,h4⟩:=h;exact⟨v,r,rfl,Ta.mono h1 h2 h3,Reps.mono h1 h2 h4⟩
end
mutual
theorem Dc.mono:∀{x:PV}{v:V}{F:LI2},(∀a∈F,∀o,H a=some o->H' a=some o)->(∀a vs,Im K H a vs->Im K H' a vs)->Dc K H x v F->Dc K H' x v F
 |.non,_,_,_,_,h=>h
 |.bl _,_,_,_,_,h=>h
 |.int _,_,_,_,_,h=>h
 |.str _,_,_,_,_,h=>h
 |.any,_,_,_,_,h=>h
 |.exc n,_,_,_,h2,h=>let ⟨⟨a,o,C,e1,e2,e3⟩,e4⟩:=h;⟨⟨a,o,C,e1,h2 a _ e2,e3⟩,e4⟩
 |.exa n i,_,_,_,h2,h=>let ⟨⟨a,o,C,d,fs,e1,e2,e2',e3⟩,e4⟩:=h;⟨⟨a,o,C,d,fs,e1,h2 a _ e2,h2 d _ e2',e3⟩,e4⟩
 |.box p s xs,_,_,h1,h2,h=>by
  obtain⟨a,vs,u,G,rfl,ha,hb,ht,hn,rfl⟩:=h;exact⟨a,vs,u,G,rfl,h1 a (by simp) _ ha,hb,Trees.mono (fun b hb o e=>h1 b (by simp[hb]) o e) h2 ht,hn,rfl⟩
 |.lst xs,_,_,h1,h2,h=>by
  obtain⟨a,vs,G,rfl,ha,ht,hn,rfl⟩:=h;exact⟨a,vs,G,rfl,h1 a (by simp) _ ha,Trees.mono (fun b hb o e=>h1 b (by simp[hb]) o e) h2 ht,hn,rfl⟩
 |.tup xs,_,_,h1,h2,h=>by
  obtain⟨a,vs,rfl,ha,ht⟩:=h;exact⟨a,vs,rfl,h2 a _ ha,Trees.mono h1 h2 ht⟩
 |.fz xs,_,_,h1,h2,h=>by
  obtain⟨a,vs,rfl,⟨o,ha⟩,ht⟩:=h;exact⟨a,vs,rfl,⟨o,h2 a _ ha⟩,Trees.mono h1 h2 ht⟩
theorem Trees.mono:∀{xs:LI5}{vs:List V}{F:LI2},(∀a∈F,∀o,H a=some o->H' a=some o)->(∀a vs,Im K H a vs->Im K H' a vs)->Trees K H xs vs F->Trees K H' xs vs F
 |[],_,_,_,_,h=>h
 |x::xs,_,_,h1,h2,h=>by
  obtain⟨v,r,G1,G2,rfl,h3,h4,hd,rfl⟩:=h;exact⟨v,r,G1,G2,rfl,Dc.mono (fun b hb o e=>h1 b (by simp[hb]) o e) h2 h3,Trees.mono (fun b hb o e=>h1 b (by simp[hb]) o e) h2 h4,hd,rfl⟩
end
mutual
theorem Dc.rep:∀{x:PV}{v:V}{F:LI2},(∀a∈F,S a)->Dc K H x v F->Ta K H S x v
 |.non,_,_,_,h=>h.1
 |.bl _,_,_,_,h=>h.1
 |.int _,_,_,_,h=>h.1
 |.str _,_,_,_,h=>h.1
 |.any,_,_,_,h=>h.1
 |.exc _,_,_,_,h=>h.1
 |.exa _ _,_,_,_,h=>h.1
 |.box p s xs,_,_,h1,h=>by
  obtain⟨a,vs,u,G,rfl,ha,hb,ht,hn,rfl⟩:=h;exact⟨a,vs,u,rfl,⟨.inl ha,h1 a (by simp)⟩,hb,Trees.reps (fun b hb=>h1 b (by simp[hb])) ht⟩
 |.lst xs,_,_,h1,h=>by
  obtain⟨a,vs,G,rfl,ha,ht,hn,rfl⟩:=h;exact⟨a,vs,rfl,.inl ⟨.inl ha,h1 a (by simp)⟩,Trees.reps (fun b hb=>h1 b (by simp[hb])) ht⟩
 |.tup xs,_,_,h1,h=>by
  obtain⟨a,vs,rfl,ha,ht⟩:=h;exact⟨a,vs,rfl,ha,Trees.reps h1 ht⟩
 |.fz xs,_,_,h1,h=>by
  obtain⟨a,vs,rfl,ha,ht⟩:=h;exact⟨a,vs,rfl,ha,Trees.reps h1 ht⟩
theorem Trees.reps:∀{xs:LI5}{vs:List V}{F:LI2},(∀a∈F,S a)->Trees K H xs vs F->Reps K H S xs vs
 |[],_,_,_,h=>h.1
 |x::xs,_,_,h1,h=>by
  obtain⟨v,r,G1,G2,rfl,h3,h4,hd,rfl⟩:=h;exact⟨v,r,rfl,Dc.rep (fun b hb=>h1 b (by simp[hb])) h3,Trees.reps (fun b hb=>h1 b (by simp[hb])) h4⟩
end
mutual
theorem Dc.alive:∀{x:PV}{v:V}{F:LI2},Dc K H x v F->∀a∈F,∃vs:Bm,H a=some vs.1
 |.non,_,_,h=>by rw[h.2];simp
 |.bl _,_,_,h=>by rw[h.2];simp
 |.int _,_,_,h=>by rw[h.2];simp
 |.str _,_,_,h=>by rw[h.2];simp
 |.any,_,_,h=>by rw[h.2];simp
 |.exc _,_,_,h=>by rw[h.2];simp
 |.exa _ _,_,_,h=>by rw[h.2];simp
 |.box p s xs,_,_,h=>by
  obtain⟨a,vs,u,G,rfl,ha,hb,ht,hn,rfl⟩:=h;intro b hb';rcases Vd.mp hb' with rfl|hb'
  ·exact⟨⟨u,hb.2.lv⟩,ha⟩
  ·exact Trees.alive ht b hb'
 |.lst xs,_,_,h=>by
  obtain⟨a,vs,G,rfl,ha,ht,hn,rfl⟩:=h;intro b hb;rcases Vd.mp hb with rfl|hb
  ·exact⟨⟨.lst vs,trivial⟩,ha⟩
  ·exact Trees.alive ht b hb
 |.tup xs,_,_,h=>by
  obtain⟨a,vs,rfl,ha,ht⟩:=h;exact Trees.alive ht
 |.fz xs,_,_,h=>by
  obtain⟨a,vs,rfl,ha,ht⟩:=h;exact Trees.alive ht
theorem Trees.alive:∀{xs:LI5}{vs:List V}{F:LI2},Trees K H xs vs F->∀a∈F,∃vs:Bm,H a=some vs.1
 |[],_,_,h=>by rw[h.2];simp
 |x::xs,_,_,h=>by
  obtain⟨v,r,G1,G2,rfl,h3,h4,hd,rfl⟩:=h;intro b hb;rcases Nc.mp hb with hb|hb
  ·exact Dc.alive h3 b hb
  ·exact Trees.alive h4 b hb
end
mutual
theorem Ta.tree:∀{x:PV}{v:V},x.flat=true->Ta K H S x v->Dc K H x v []
 |.non,_,_,h=>⟨h,rfl⟩
 |.bl _,_,_,h=>⟨h,rfl⟩
 |.int _,_,_,h=>⟨h,rfl⟩
 |.str _,_,_,h=>⟨h,rfl⟩
 |.any,_,_,h=>⟨h,rfl⟩
 |.exc _,_,_,h=>⟨h,rfl⟩
 |.exa _ _,_,_,h=>⟨h,rfl⟩
 |.box p s xs,_,f,_=>by simp[PV.flat] at f
 |.lst xs,_,f,_=>by simp[PV.flat] at f
 |.tup xs,_,f,h=>by
  obtain⟨a,vs,rfl,ha,ht⟩:=h;exact⟨a,vs,rfl,ha,Reps.trees (by simpa[PV.flat] using f) ht⟩
 |.fz xs,_,f,h=>by
  obtain⟨a,vs,rfl,ha,ht⟩:=h;exact⟨a,vs,rfl,ha,Reps.trees (by simpa[PV.flat] using f) ht⟩
theorem Reps.trees:∀{xs:LI5}{vs:List V},PV.flats xs=true->Reps K H S xs vs->Trees K H xs vs []
 |[],_,_,h=>⟨h,rfl⟩
 |x::xs,_,f,h=>by
  obtain⟨v,r,rfl,h3,h4⟩:=h;simp only[PV.flats,Bool.and_eq_true] at f;exact⟨v,r,[],[],rfl,Ta.tree f.1 h3,Reps.trees f.2 h4,by simp,rfl⟩
end
theorem Ta.any(h:Ta K H S x v):Ta K H (fun _=>True) x v:=Ta.mono (fun a vs _ r=>⟨r,trivial⟩) (fun a vs r=>r) h
theorem Reps.any(h:Reps K H S xs vs):Reps K H (fun _=>True) xs vs:=Reps.mono (fun a vs _ r=>⟨r,trivial⟩) (fun a vs r=>r) h
theorem Ta.flatS(f:x.flat=true)(h:Ta K H S x v): Ta K H S' x v:=Dc.rep (F:=[]) (by simp) (Ta.tree f h)
theorem Reps.length:∀{xs:LI5}{vs:List V},Reps K H S xs vs->vs.length=xs.length
 |[],_,h=>by rw[h];rfl
 |x::xs,_,h=>by
  obtain⟨v,r,rfl,h3,h4⟩:=h;simp[Reps.length h4]
theorem Trees.length(h:Trees K H xs vs F): vs.length=xs.length:=(Trees.reps (S:=fun _=>True) (fun _ _=>trivial) h).length
theorem Reps.get:∀{xs:LI5}{vs:List V}{i:Nat}{x:PV},Reps K H S xs vs->xs[i]?=some x->∃v,vs[i]?=some v/\Ta K H S x v
 |[],_,_,_,_,e=>by simp at e
 |y::xs,_,0,x,h,e=>by
  obtain⟨v,r,rfl,h3,h4⟩:=h;simp at e;subst e;exact⟨v,rfl,h3⟩
 |y::xs,_,i+1,x,h,e=>by
  obtain⟨v,r,rfl,h3,h4⟩:=h;obtain⟨w,e1,e2⟩:=Reps.get (i:=i) h4 (by simpa using e);exact⟨w,by simpa using e1,e2⟩
theorem Reps.append:∀{xs ys:LI5}{vs ws:List V},Reps K H S xs vs->Reps K H S ys ws->Reps K H S (xs++ys) (vs++ws)
 |[],_,_,_,h,h'=>by rw[h];exact h'
 |x::xs,_,_,_,h,h'=>by
  obtain⟨v,r,rfl,h3,h4⟩:=h;exact⟨v,r++_,rfl,h3,Reps.append h4 h'⟩
theorem Reps.one(h:Ta K H S x v): Reps K H S [x] [v]:=⟨v,[],rfl,h,rfl⟩
theorem Reps.take:∀{xs:LI5}{vs:List V} (n:Nat),Reps K H S xs vs->Reps K H S (xs.take n) (vs.take n)
 |_,_,0,_=>by simp[Reps]
 |[],_,n+1,h=>by rw[h];rfl
 |y::xs,_,n+1,h=>by
  obtain⟨w,r,rfl,h3,h4⟩:=h;exact⟨w,r.take n,rfl,h3,Reps.take n h4⟩
theorem Reps.drop:∀{xs:LI5}{vs:List V} (n:Nat),Reps K H S xs vs->Reps K H S (xs.drop n) (vs.drop n)
 |_,_,0,h=>h
 |[],_,n+1,h=>by rw[h];rfl
 |y::xs,_,n+1,h=>by
  obtain⟨w,r,rfl,h3,h4⟩:=h;exact Reps.drop n h4
theorem Trees.append:∀{xs ys:LI5}{vs ws:List V}{F G:LI2},Trees K H xs vs F->Trees K H ys ws G->(∀a∈F,a ∉ G)->Trees K H (xs++ys) (vs++ws) (F++G)
 |[],_,_,_,_,_,h,h',_=>by rw[h.1,h.2];exact h'
 |x::xs,_,_,_,_,_,h,h',hd=>by
  obtain⟨v,r,G1,G2,rfl,h3,h4,hd',rfl⟩:=h;refine⟨v,r++_,G1,G2++_,rfl,h3,Trees.append h4 h' (fun a ha=>hd a (by simp[ha])),fun a ha z=>?_,by simp⟩;rcases Nc.mp z with z|z
  ·exact hd' a ha z
  ·exact hd a (by simp[ha]) z
theorem Trees.one(h:Dc K H x v F): Trees K H [x] [v] F:=⟨v,[],F,[],rfl,h,⟨rfl,rfl⟩,by simp,by simp⟩
theorem PV.flats_all:∀{xs:LI5},PV.flats xs=true ↔ ∀x∈xs,x.flat=true
 |[]=>by simp[PV.flats]
 |x::xs=>by simp[PV.flats,PV.flats_all (xs:=xs)]
theorem PV.flats_ints(ns:LI0):PV.flats (ns.map PV.int)=true:=PV.flats_all.mpr (by simp[PV.flat])
theorem Rd.same(e:La H H')(h:Rd H a u):Rd H' a u:=by
 rcases h with h|⟨o,h⟩
 ·exact .inl (e _ _ h)
 ·exact .inr ⟨o,e _ _ h⟩
theorem La.im(e:La H H')(h:Im K H a k): Im K H' a k:=⟨e _ _ h.1,h.2⟩
theorem Im.sqT(h:Im K H a (.tup vs)): Af K H a vs:=.inl (.inl h.1)
theorem Ta.same(e:La H H')(h:Ta K H S x v):Ta K H' S x v:=Ta.mono (fun a vs s r=>⟨r.same e,s⟩) (fun a vs r=>e.im r) h
theorem Reps.same(e:La H H')(h:Reps K H S xs vs):Reps K H' S xs vs:=Reps.mono (fun a vs s r=>⟨r.same e,s⟩) (fun a vs r=>e.im r) h
theorem Dc.same(e:La H H')(h:Dc K H x v F):Dc K H' x v F:=Dc.mono (fun a _ o q=>e a o q) (fun a vs r=>e.im r) h
theorem Trees.same(e:La H H')(h:Trees K H xs vs F):Trees K H' xs vs F:=Trees.mono (fun a _ o q=>e a o q) (fun a vs r=>e.im r) h
theorem Im.putL{us: Bm}(hp:H p=some us.1)(h:Im K H a k): Im K (upd H p o) a k:=
 ⟨by rw[Rb (QJ h.1 hp (NI us.2 h.2))];exact h.1,h.2⟩
theorem Trees.putL{us: Bm}(hp:H p=some us.1)(hS:p ∉ F)(h:Trees K H xs vs F): Trees K (upd H p o) xs vs F:=
 Trees.mono (fun a ha o q=>by
  have hne:a≠p:=fun z=>hS (z▸ha);rw[Rb hne];exact q) (fun a vs r=>Im.putL hp r) h
theorem Trees.put{p:Ja}{us:List V}{o:HO}(hp:H p=some (.lst us))(hS:p ∉ F)(h:Trees K H xs vs F):Trees K (upd H p o) xs vs F:=Trees.putL (us:=⟨.lst us,trivial⟩) hp hS h
end
inductive Md|U|P|S|T|O
 deriving DecidableEq
def NO(B:Ja->Prop)(F:Nat->LI2)(R:LI2)(a:Ja):Prop:=B a/\a ∉ R/\∀i,a ∉ F i
def Mn(K:ZlR)(H:Hp)(S:Ja->Prop)(m:Md)(x:PV)(o:Option (Option V))(G:LI2):Prop:=match m with
 |.U=>G=[]
 |.P=>G=[]/\∃v,o=some (some v)/\x.flat=true/\Ta K H (fun _=>True) x v
 |.S=>G=[]/\∃v,o=some (some v)/\Ta K H S x v
 |.T=>∃a vs xs,o=some (some (.ref a))/\x=.lst xs/\H a=some (.lst vs)/\Reps K H S xs vs/\G=[a]
 |.O=>∃v,o=some (some v)/\Dc K H x v G
structure Ag(K:ZlR)(B:Ja->Prop)(H0 H:Hp)(σ:St)(Γ:List Md)(ρ:LI5)(F:Nat->LI2)(R:LI2):Prop where
 same:La H0 H
 own:∀a,H0 a=none->B a
 young:∀i,∀a∈F i,H0 a=none
 youngR:∀a∈R,H0 a=none
 live:∀i,∀a∈F i,∃vs:Bm,H a=some vs.1
 liveR:∀a∈R,∃vs:Bm,H a=some vs.1
 disj:∀i j,i≠j->∀a∈F i,a ∉ F j
 disjR:∀i,∀a∈F i,a ∉ R
 lenS:σ.length=Γ.length
 lenR:ρ.length=Γ.length
 slot:∀i,Mn K H (NO B F R) (Γ.getD i .U) (ρ.getD i .non) σ[i]? (F i)
theorem Mn.mono{K:ZlR}{H H':Hp}{S S':Ja->Prop}{m:Md}{x:PV}{o:Option (Option V)}{G:LI2}(h:Mn K H S m x o G)(h1:∀a u,S a->Rd H a u->Rd H' a u/\S' a)(h2:∀a u,Im K H a u->Im K H' a u)(h3:∀a∈G,∀u,H a=some u->H' a=some u):Mn K H' S' m x o G:=by
 cases m with
 |U=>exact h
 |P =>
  obtain⟨e,v,h4,h5,h6⟩:=h;exact⟨e,v,h4,h5,Dc.rep (F:=[]) (by simp) (Dc.mono (by simp) h2 (Ta.tree h5 h6))⟩
 |S =>
  obtain⟨e,v,h4,h5⟩:=h;exact⟨e,v,h4,Ta.mono h1 h2 h5⟩
 |T =>
  obtain⟨a,vs,xs,h4,h5,h6,h7,rfl⟩:=h;exact⟨a,vs,xs,h4,h5,h3 a (by simp) _ h6,Reps.mono h1 h2 h7,rfl⟩
 |O =>
  obtain⟨v,h4,h5⟩:=h;exact⟨v,h4,Dc.mono (fun a ha o q=>h3 a ha o q) h2 h5⟩
section
variable {K:ZlR}{B:Ja->Prop}{H0 H H':Hp}{σ:St}{Γ:List Md}{ρ:LI5}{F:Nat->LI2}{R R':LI2}
theorem Ag.grow(A:Ag K B H0 H σ Γ ρ F R)(e:La H H'):Ag K B H0 H' σ Γ ρ F R:=
 ⟨A.same.trans e,A.own,A.young,A.youngR,fun i a ha=>let ⟨vs,q⟩:=A.live i a ha;⟨vs,e _ _ q⟩,fun a ha=>let ⟨vs,q⟩:=A.liveR a ha;⟨vs,e _ _ q⟩,A.disj,A.disjR,A.lenS,A.lenR,
  fun i=>(A.slot i).mono (fun a vs s r=>⟨r.same e,s⟩) (fun a vs r=>e.im r) fun a ha vs q=>e _ _ q⟩
theorem Ag.less(A:Ag K B H0 H σ Γ ρ F R)(h:∀a∈R',a∈R):Ag K B H0 H σ Γ ρ F R':=
 ⟨A.same,A.own,A.young,fun a ha=>A.youngR a (h a ha),A.live,fun a ha=>A.liveR a (h a ha),A.disj,fun i a ha z=>A.disjR i a ha (h a z),A.lenS,A.lenR,
  fun i=>(A.slot i).mono (fun a vs s r=>⟨r,s.1,fun z=>s.2.1 (h a z),s.2.2⟩) (fun a vs r=>r) fun a ha vs q=>q⟩
theorem Ag.more{G:LI2}(A:Ag K B H0 H σ Γ ρ F R)(e:La H H')(hf:∀a∈G,H a=none)(hl:∀a∈G,∃vs:Bm,H' a=some vs.1):Ag K B H0 H' σ Γ ρ F (G++R):=by
 refine⟨A.same.trans e,A.own,A.young,fun a ha=>?_,fun i a ha=>let ⟨vs,q⟩:=A.live i a ha;⟨vs,e _ _ q⟩,fun a ha=>?_,A.disj,fun i a ha z=>?_,A.lenS,A.lenR,fun i=>?_⟩
 ·rcases Nc.mp ha with z|z
  ·exact A.same.free (hf a z)
  ·exact A.youngR a z
 ·rcases Nc.mp ha with z|z
  ·exact hl a z
  ·obtain⟨vs,q⟩:=A.liveR a z
   exact⟨vs,e _ _ q⟩
 ·rcases Nc.mp z with z|z
  ·obtain⟨vs,q⟩:=A.live i a ha
   rw[hf a z] at q;cases q
  ·exact A.disjR i a ha z
 ·refine(A.slot i).mono (fun a vs s r=>⟨r.same e,s.1,fun z=>?_,s.2.2⟩) (fun a vs r=>e.im r) fun a ha vs q=>e _ _ q
  rcases Nc.mp z with z|z
  ·have:=hf a z
   rcases r with r|⟨o,r⟩<;>(rw[this] at r;cases r)
  ·exact s.2.1 z
theorem Ag.fresh(A:Ag K B H0 H σ Γ ρ F R)(hp:H p=none): p ∉ R/\(∀i,p ∉ F i)/\H0 p=none/\B p:=by
 refine⟨fun z=>?_,fun i z=>?_,A.same.free hp,A.own p (A.same.free hp)⟩
 ·obtain⟨vs,q⟩:=A.liveR p z
  rw[hp] at q;cases q
 ·obtain⟨vs,q⟩:=A.live i p z
  rw[hp] at q;cases q
theorem Ag.new(A:Ag K B H0 H σ Γ ρ F R)(hp:H p=none): Ag K B H0 (upd H p (.lst xs)) σ Γ ρ F (p::R):=
 A.more (G:=[p]) (La.new hp) (fun a ha=>by rw[Di.mp ha];exact hp) fun a ha=>⟨⟨.lst xs,trivial⟩,by rw[Di.mp ha,Uf]⟩
theorem Ag.newB(hu:T0 u)(A:Ag K B H0 H σ Γ ρ F R)(hp:H p=none): Ag K B H0 (upd H p u) σ Γ ρ F (p::R):=
 A.more (G:=[p]) (La.new hp) (fun a ha=>by rw[Di.mp ha];exact hp) fun a ha=>⟨⟨u,hu⟩,by rw[Di.mp ha,Uf]⟩
theorem Ag.getO(A:Ag K B H0 H σ Γ ρ F R)(h:Γ[i]?=some .O): ∃v,σ[i]?=some (some v)/\Dc K H (ρ.getD i .non) v (F i):=by
 have:=A.slot i;rw[Cb,h] at this;exact this
theorem Ag.getT(A:Ag K B H0 H σ Γ ρ F R)(h:Γ[i]?=some .T): ∃a vs xs,σ[i]?=some (some (.ref a))/\ρ.getD i .non=.lst xs/\H a=some (.lst vs)/\Reps K H (NO B F R) xs vs/\F i=[a]:=by
 have:=A.slot i;rw[Cb (l:=Γ),h] at this;exact this
theorem Ag.getS(A:Ag K B H0 H σ Γ ρ F R)(h:Γ[i]?=some .S): ∃v,σ[i]?=some (some v)/\Ta K H (NO B F R) (ρ.getD i .non) v:=by
 have:=A.slot i;rw[Cb (l:=Γ),h] at this;exact this.2
theorem Ag.getP(A:Ag K B H0 H σ Γ ρ F R)(h:Γ[i]?=some .P): ∃v,σ[i]?=some (some v)/\(ρ.getD i .non).flat=true/\Ta K H (fun _=>True) (ρ.getD i .non) v:=by
 have:=A.slot i;rw[Cb (l:=Γ),h] at this;exact this.2
theorem Ag.getA(A:Ag K B H0 H σ Γ ρ F R)(h:Γ[i]?=some m)(hm:m≠.U): ∃v,σ[i]?=some (some v)/\Ta K H (fun _=>True) (ρ.getD i .non) v:=by
 cases m with
 |U=>exact Eb rfl hm
 |P=>obtain⟨v,h1,h2,h3⟩:=A.getP h;exact⟨v,h1,h3⟩
 |S=>obtain⟨v,h1,h2⟩:=A.getS h;exact⟨v,h1,h2.any⟩
 |T =>
  obtain⟨a,vs,xs,h1,h2,h3,h4,h5⟩:=A.getT h;exact⟨_,h1,by rw[h2];exact⟨a,vs,rfl,.inl ⟨.inl h3,trivial⟩,h4.any⟩⟩
 |O=>obtain⟨v,h1,h2⟩:=A.getO h;exact⟨v,h1,h2.rep (fun _ _=>trivial)⟩
theorem Ag.lt(A:Ag K B H0 H σ Γ ρ F R)(h:Γ[i]?=some m): i<Γ.length:=(Cd.mp h).1
noncomputable def Ae(F:Nat->LI2)(i:Nat)(G:LI2):Nat->LI2:=fun j=>if j=i then G else F j
theorem Bf: Ae F i G i=G:=Da rfl
theorem Me(h:j≠i): Ae F i G j=F j:=Qa h
theorem Ag.put{i:Nat}{m:Md}{x:PV}{v:V}{G:LI2}(A:Ag K B H0 H σ Γ ρ F (G++R))(hi:i<Γ.length)(hG:∀a∈G,a ∉ R)(hs:Mn K H (NO B (Ae F i G) R) m x (some (some v)) G) :
  Ag K B H0 H (σ.set i (some v)) (Γ.set i m) (ρ.set i x) (Ae F i G) R:=by
 refine⟨A.same,A.own,fun j a ha=>?_,fun a ha=>A.youngR a (Td _ ha),fun j a ha=>?_,fun a ha=>A.liveR a (Td _ ha),fun j k hjk a ha z=>?_,fun j a ha z=>?_,by simp[A.lenS],by simp[A.lenR],fun j=>?_⟩
 ·by_cases h:j=i
  ·subst h;rw[Bf] at ha;exact A.youngR a (Zf _ ha)
  ·rw[Me h] at ha;exact A.young j a ha
 ·by_cases h:j=i
  ·subst h;rw[Bf] at ha;exact A.liveR a (Zf _ ha)
  ·rw[Me h] at ha;exact A.live j a ha
 ·by_cases h:j=i
  ·subst h
   rw[Bf] at ha;rw[Me (Ne.symm hjk)] at z;exact A.disjR k a z (Zf _ ha)
  ·rw[Me h] at ha
   by_cases h':k=i
   ·subst h'
    rw[Bf] at z;exact A.disjR j a ha (Zf _ z)
   ·rw[Me h'] at z
    exact A.disj j k hjk a ha z
 ·by_cases h:j=i
  ·subst h;rw[Bf] at ha;exact hG a ha z
  ·rw[Me h] at ha;exact A.disjR j a ha (Td _ z)
 ·by_cases h:j=i
  ·subst h
   rw[Bf,Cb,Cb,Sj hi,Sj (by rw[A.lenR];exact hi),Sj (by rw[A.lenS];exact hi)];exact hs
  ·rw[Me h,Cb,Cb,Tk (Ne.symm h),Tk (Ne.symm h),Tk (Ne.symm h),<- Cb,<- Cb]
   refine(A.slot j).mono (fun a vs s r=>⟨r,s.1,fun z=>s.2.1 (Td _ z),fun k z=>?_⟩) (fun a vs r=>r) fun a ha vs q=>q;by_cases h':k=i
   ·subst h';rw[Bf] at z;exact s.2.1 (Zf _ z)
   ·rw[Me h'] at z;exact s.2.2 k z
theorem Ag.turn{i:Nat}{m m':Md}{G:LI2}(A:Ag K B H0 H σ Γ ρ F R)(h:Γ[i]?=some m)(hG:∀a∈G,a∈F i)(hs:Mn K H (NO B (Ae F i []) (G++R)) m' (ρ.getD i .non) σ[i]? []) :
  Ag K B H0 H σ (Γ.set i m') ρ (Ae F i []) (G++R):=by
 have hi:=A.lt h;refine⟨A.same,A.own,fun j a ha=>?_,fun a ha=>?_,fun j a ha=>?_,fun a ha=>?_,fun j k hjk a ha z=>?_,fun j a ha z=>?_,by simp[A.lenS],by simp[A.lenR],fun j=>?_⟩
 ·by_cases h:j=i
  ·subst h;rw[Bf] at ha;simp at ha
  ·rw[Me h] at ha;exact A.young j a ha
 ·rcases Nc.mp ha with z|z
  ·exact A.young i a (hG a z)
  ·exact A.youngR a z
 ·by_cases h:j=i
  ·subst h;rw[Bf] at ha;simp at ha
  ·rw[Me h] at ha;exact A.live j a ha
 ·rcases Nc.mp ha with z|z
  ·exact A.live i a (hG a z)
  ·exact A.liveR a z
 ·by_cases h:j=i
  ·subst h;rw[Bf] at ha;simp at ha
  ·by_cases h':k=i
   ·subst h';rw[Bf] at z;simp at z
   ·rw[Me h] at ha;rw[Me h'] at z;exact A.disj j k hjk a ha z
 ·by_cases h:j=i
  ·subst h;rw[Bf] at ha;simp at ha
  ·rw[Me h] at ha
   rcases Nc.mp z with z|z
   ·exact A.disj j i h a ha (hG a z)
   ·exact A.disjR j a ha z
 ·by_cases h:j=i
  ·subst h
   rw[Bf,Cb (l:=Γ.set _ _),Sj hi];exact hs
  ·rw[Me h,Cb (l:=Γ.set _ _),Tk (Ne.symm h),<- Cb]
   refine(A.slot j).mono (fun a vs s r=>⟨r,s.1,fun z=>?_,fun k z=>?_⟩) (fun a vs r=>r) fun a ha vs q=>q
   ·rcases Nc.mp z with z|z
    ·exact s.2.2 i (hG a z)
    ·exact s.2.1 z
   ·by_cases h':k=i
    ·subst h';rw[Bf] at z;simp at z
    ·rw[Me h'] at z;exact s.2.2 k z
theorem Ag.noF(A:Ag K B H0 H σ Γ ρ F R)(ha:a∈F i): NO B (Ae F i []) R a:=⟨A.own a (A.young i a ha),A.disjR i a ha,fun j z=>by
 by_cases h:j=i
 ·subst h;rw[Bf] at z;simp at z
 ·rw[Me h] at z;exact A.disj j i h a z ha⟩
theorem Ag.freeze(A:Ag K B H0 H σ Γ ρ F R)(h:Γ[i]?=some m)(hm:m≠.U): Ag K B H0 H σ (Γ.set i .S) ρ (Ae F i []) R:=by
 refine A.turn (G:=[]) h (by simp) ?_;show Mn K H (NO B (Ae F i []) R) .S (ρ.getD i .non) σ[i]? [];have up:∀{a vs},NO B F R a->Rd H a vs->Rd H a vs/\NO B (Ae F i []) R a:=fun {a vs} s r=>⟨r,s.1,s.2.1,fun j z=>by
  by_cases h:j=i
  ·subst h;rw[Bf] at z;simp at z
  ·rw[Me h] at z;exact s.2.2 j z⟩
 cases m with
 |U=>exact Eb rfl hm
 |P=>obtain⟨v,h1,h2,h3⟩:=A.getP h;exact⟨rfl,v,h1,h3.flatS h2⟩
 |S=>obtain⟨v,h1,h2⟩:=A.getS h;exact⟨rfl,v,h1,Ta.mono (fun a vs s r=>up s r) (fun a vs r=>r) h2⟩
 |T =>
  obtain⟨a,vs,xs,h1,h2,h3,h4,h5⟩:=A.getT h;refine⟨rfl,_,h1, ?_⟩;rw[h2];exact⟨a,vs,rfl,.inl ⟨.inl h3,A.noF (by rw[h5];simp)⟩,Reps.mono (fun a vs s r=>up s r) (fun a vs r=>r) h4⟩
 |O =>
  obtain⟨v,h1,h2⟩:=A.getO h;exact⟨rfl,v,h1,h2.rep fun a ha=>A.noF ha⟩
theorem Ag.move(A:Ag K B H0 H σ Γ ρ F R)(h:Γ[i]?=some .O): Ag K B H0 H σ (Γ.set i .U) ρ (Ae F i []) (F i++R):=A.turn (G:=F i) h (fun a ha=>ha) rfl
end
noncomputable abbrev PX:=Str×PV
inductive Rr(α:Type) where
 |ok (a:α)|exc (e:PX)|bad
noncomputable def Rr.bind{α β:Type}:Rr α->(α->Rr β)->Rr β
 |.ok a,f=>f a
 |.exc e,_=>.exc e
 |.bad,_=>.bad
def Dn{α:Type}(r:Rr α)(ok:α->Prop)(ex:PX->Prop):Prop:=match r with
 |.ok a=>ok a
 |.exc e=>ex e
 |.bad=>False
theorem Dn.bind(h:Dn (r.bind f) ok ex): Dn r (fun a=>Dn (f a) ok ex) ex:=by
 cases r with
 |ok a=>exact h
 |exc e=>exact h
 |bad=>exact h
theorem Dn.imp(h:Dn r ok ex)(h1:∀a,r=.ok a->ok a->ok' a)(h2:∀e,ex e->ex' e): Dn r ok' ex':=by
 cases r with
 |ok a=>exact h1 a rfl h
 |exc e=>exact h2 e h
 |bad=>exact h
@[simp] theorem Rr.bind_ok: (Rr.ok a).bind f=f a:=rfl
@[simp] theorem Rr.bind_exc: (Rr.exc e:Rr α).bind f=.exc e:=rfl
@[simp] theorem Rr.bind_bad: (Rr.bad:Rr α).bind f=.bad:=rfl
inductive Kd|P|F|T|Z|A|N|M
def Lc(K:ZlR)(B:Ja->Prop)(H0 H:Hp)(σ:St)(Γ':List Md)(ρ:LI5)(F:Nat->LI2)(R:LI2)(k:Kd)(x:PV)(v:V)(H':Hp):Prop:=
 ∃F',(∀i,∀a∈F' i,a∈F i)/\match k with
 |.P=>x.flat=true/\Ta K H' (fun _=>True) x v/\Ag K B H0 H' σ Γ' ρ F' R
 |.F=>∃G,Dc K H' x v G/\(∀a∈G,a ∉ R/\(H a=none\/∃i,a∈F i))/\Ag K B H0 H' σ Γ' ρ F' (G++R)
 |.T=>∃a vs xs,x=.lst xs/\v=.ref a/\H' a=some (.lst vs)/\Reps K H' (NO B F' (a::R)) xs vs/\a ∉ R/\(H a=none\/∃i,a∈F i)/\Ag K B H0 H' σ Γ' ρ F' (a::R)
 |.Z=>Ta K H' (NO B F' R) x v/\Ag K B H0 H' σ Γ' ρ F' R
 |.A=>Ta K H' (fun _=>True) x v/\Ag K B H0 H' σ Γ' ρ F' R
 |.N=>False
 |.M=>False
def DE(K:ZlR)(EX:PX->Hp->Prop)(Γ Γ':List Md)(k:Kd)(te:TE)(f:LI5->Rr PV):Prop:=
 ∀(B:Ja->Prop) (H0 H:Hp) (σ:St) (ρ:LI5) (F:Nat->LI2) (R:LI2) (Q:VK),Ag K B H0 H σ Γ ρ F R ->
  Dn (f ρ) (fun x=>∀v H',La H H'->Lc K B H0 H σ Γ' ρ F R k x v H'->Q v H') (fun e=>∀H',La H0 H'->EX e H')->te σ H Q
def DT(K:ZlR)(EX:PX->Hp->Prop)(Γ Γ':List Md)(tt:TT)(f:LI5->Rr Bool):Prop:=
 ∀(B:Ja->Prop) (H0 H:Hp) (σ:St) (ρ:LI5) (F:Nat->LI2) (R:LI2) (Q:Bool->Hp->Prop),Ag K B H0 H σ Γ ρ F R ->
  Dn (f ρ) (fun b=>∀H' F',La H H'->(∀i,∀a∈F' i,a∈F i)->Ag K B H0 H' σ Γ' ρ F' R->Q b H') (fun e=>∀H',La H0 H'->EX e H')->tt σ H Q
section
variable {K:ZlR}{B:Ja->Prop}{EX:PX->Hp->Prop}{H0 H H':Hp}{σ:St}{Γ Γ' Γ1 Γ2:List Md}{ρ:LI5}{F F':Nat->LI2}{R:LI2}{k:Kd}{x:PV}{v:V}{te ta tb:TE}{f fa fb:LI5->Rr PV}
theorem Lc.ag(h:Lc K B H0 H σ Γ' ρ F R k x v H'):∃F',(∀i,∀a∈F' i,a∈F i)/\Ta K H' (fun _=>True) x v/\Ag K B H0 H' σ Γ' ρ F' R:=by
 obtain⟨F',hF,h⟩:=h;refine⟨F',hF, ?_⟩;cases k with
 |P=>exact⟨h.2.1,h.2.2⟩
 |F=>obtain⟨G,h1,h2,h3⟩:=h;exact⟨h1.rep fun _ _=>trivial,h3.less fun a ha=>Td _ ha⟩
 |T=>obtain⟨a,vs,xs,rfl,rfl,h1,h2,h3,h4,h5⟩:=h;exact⟨⟨a,vs,rfl,.inl ⟨.inl h1,trivial⟩,h2.any⟩,h5.less fun a ha=>Jj _ ha⟩
 |Z=>exact⟨h.1.any,h.2⟩
 |A=>exact h
 |N=>exact h.elim
 |M=>exact h.elim
theorem Lc.toA(h:Lc K B H0 H σ Γ' ρ F R k x v H'):Lc K B H0 H σ Γ' ρ F R .A x v H':=let ⟨F',a,b,c⟩:=h.ag;⟨F',a,b,c⟩
theorem Lc.PF(h:Lc K B H0 H σ Γ' ρ F R .P x v H'):Lc K B H0 H σ Γ' ρ F R .F x v H':=by
 obtain⟨F',hF,h1,h2,h3⟩:=h;exact⟨F',hF,[],h2.tree h1,by simp,h3⟩
theorem Lc.PZ(h:Lc K B H0 H σ Γ' ρ F R .P x v H'):Lc K B H0 H σ Γ' ρ F R .Z x v H':=by
 obtain⟨F',hF,h1,h2,h3⟩:=h;exact⟨F',hF,h2.flatS h1,h3⟩
theorem Lc.FZ(h:Lc K B H0 H σ Γ' ρ F R .F x v H'):Lc K B H0 H σ Γ' ρ F R .Z x v H':=by
 obtain⟨F',hF,G,h1,h2,h3⟩:=h;exact⟨F',hF,h1.rep fun a ha=>⟨h3.own a (h3.youngR a (Zf _ ha)),(h2 a ha).1,fun i z=>h3.disjR i a z (Zf _ ha)⟩,h3.less fun a ha=>Td _ ha⟩
theorem DE.imp(h:DE K EX Γ Γ' k te f)(hr:∀{B:Ja->Prop}{H0 H H':Hp}{σ:St}{ρ:LI5}{F:Nat->LI2}{R:LI2}{x:PV}{v:V},Lc K B H0 H σ Γ' ρ F R k x v H'->Lc K B H0 H σ Γ' ρ F R k' x v H'): DE K EX Γ Γ' k' te f:=
 fun B H0 H σ ρ F R Q A d=>h B H0 H σ ρ F R Q A (d.imp (fun x _ q v H' s r=>q v H' s (hr r)) fun e q=>q)
theorem DE.toA(h:DE K EX Γ Γ' k te f):DE K EX Γ Γ' .A te f:=h.imp Lc.toA
theorem DE.PF(h:DE K EX Γ Γ' .P te f):DE K EX Γ Γ' .F te f:=h.imp Lc.PF
theorem DE.PZ(h:DE K EX Γ Γ' .P te f):DE K EX Γ Γ' .Z te f:=h.imp Lc.PZ
theorem DE.FZ(h:DE K EX Γ Γ' .F te f):DE K EX Γ Γ' .Z te f:=h.imp Lc.FZ
noncomputable def grd(x:PV):Rr PV:=if x.flat=true then .ok x else .bad
theorem DE.grd(h:DE K EX Γ Γ' .A te f):DE K EX Γ Γ' .P te (fun ρ=>(f ρ).bind grd):=fun B H0 H σ ρ F R Q A d=>by
 refine h B H0 H σ ρ F R Q A (d.bind.imp (fun x _ q v H' s r=>?_) fun e q=>q);unfold L2.grd at q;by_cases hx:x.flat=true
 ·rw[Da hx] at q
  obtain⟨F',h1,h2,h3⟩:=r;exact q v H' s ⟨F',h1,hx,h2,h3⟩
 ·rw[Qa hx] at q;exact q.elim
theorem E7(hf:x.flat=true)(hr:∀H,Ta K H (fun _=>True) x v): DE K EX Γ Γ .P (tC v) (fun _=>.ok x):=fun B H0 H σ ρ F R Q A d =>
 d v H (La.refl H) ⟨F,fun _ _ h=>h,hf,hr H,A⟩
theorem Gm{i:Int}:DE K EX Γ Γ .P (tC (.int i)) (fun _=>.ok (.int i)):=E7 rfl fun _=>rfl
theorem Ur: DE K EX Γ Γ .P (tC (.bl b)) (fun _=>.ok (.bl b)):=E7 rfl fun _=>rfl
theorem US:DE K EX Γ Γ .P (tC .non) (fun _=>.ok .non):=E7 rfl fun _=>rfl
theorem Kf{x:Str}:DE K EX Γ Γ .P (tC (.str x)) (fun _=>.ok (.str x)):=E7 rfl fun _=>rfl
noncomputable def gv(i:Nat)(ρ:LI5):PV:=ρ.getD i .non
theorem JH(h:Γ[i]?=some m)(hm:m≠.U): DE K EX Γ Γ .A (Bg i) (fun ρ=>.ok (gv i ρ)):=fun B H0 H σ ρ F R Q A d=>by
 obtain⟨v,h1,h2⟩:=A.getA h hm;exact⟨v,h1,d v H (La.refl H) ⟨F,fun _ _ h=>h,h2,A⟩⟩
theorem Qr(h:Γ[i]?=some .P): DE K EX Γ Γ .P (Bg i) (fun ρ=>.ok (gv i ρ)):=fun B H0 H σ ρ F R Q A d=>by
 obtain⟨v,h1,h2,h3⟩:=A.getP h;exact⟨v,h1,d v H (La.refl H) ⟨F,fun _ _ h=>h,h2,h3,A⟩⟩
theorem Xt(h:Γ[i]?=some .S): DE K EX Γ Γ .Z (Bg i) (fun ρ=>.ok (gv i ρ)):=fun B H0 H σ ρ F R Q A d=>by
 obtain⟨v,h1,h2⟩:=A.getS h;exact⟨v,h1,d v H (La.refl H) ⟨F,fun _ _ h=>h,h2,A⟩⟩
theorem Zx: ∀j,∀a∈Ae F i [] j,a∈F j:=fun j a ha=>by
 by_cases h:j=i
 ·subst h;rw[Bf] at ha;simp at ha
 ·rw[Me h] at ha;exact ha
theorem ZeM(h:Γ[i]?=some .O): DE K EX Γ (Γ.set i .U) .F (Bg i) (fun ρ=>.ok (gv i ρ)):=fun B H0 H σ ρ F R Q A d=>by
 obtain⟨v,h1,h2⟩:=A.getO h;exact⟨v,h1,d v H (La.refl H) ⟨Ae F i [],Zx,F i,h2,fun a ha=>⟨A.disjR i a ha,.inr ⟨i,ha⟩⟩,A.move h⟩⟩
theorem ZeN(h:Γ[i]?=some m)(hm:m≠.U): DE K EX Γ (Γ.set i .S) .Z (Bg i) (fun ρ=>.ok (gv i ρ)):=fun B H0 H σ ρ F R Q A d=>by
 have A':=A.freeze h hm;obtain⟨v,h1,h2⟩:=A'.getS (Sj (A.lt h));exact⟨v,h1,d v H (La.refl H) ⟨Ae F i [],Zx,h2,A'⟩⟩
def XE(K:ZlR)(r:R2)(o:PV->PV->Rr PV):Prop:=∀{H:Hp}{x y:PV}{v w:V}{Q:VK},Ta K H (fun _=>True) x v->Ta K H (fun _=>True) y w ->
 (∃z,o x y=.ok z/\(z.flat=true->∀u,Ta K H (fun _=>True) z u->Q u H))->r v w H Q
theorem Dn.bind2{α β γ:Type}{r:Rr α}{q:Rr β}{f:α->β->Rr γ}{ok:γ->Prop}{ex:PX->Prop}(h:Dn (r.bind fun a=>q.bind fun b=>f a b) ok ex):Dn r (fun a=>Dn q (fun b=>Dn (f a b) ok ex) ex) ex:=
 h.bind.imp (fun a _ h=>h.bind) fun e h=>h
theorem Nu{Q:V->V->Hp->Prop}{ok:PV->PV->Prop}(ha:DE K EX Γ Γ1 .A ta fa)(hb:DE K EX Γ1 Γ2 .A tb fb)(A:Ag K B H0 H σ Γ ρ F R)(d:Dn (fa ρ) (fun x=>Dn (fb ρ) (fun y=>ok x y) (fun e=>∀H',La H0 H'->EX e H')) (fun e=>∀H',La H0 H'->EX e H'))(hq:∀x y v w H' F',ok x y->La H H'->(∀i,∀a∈F' i,a∈F i)->Ta K H' (fun _=>True) x v->Ta K H' (fun _=>True) y w->Ag K B H0 H' σ Γ2 ρ F' R->Q v w H') :
  ta σ H fun v H1=>tb σ H1 fun w H2=>Q v w H2:=by
 refine ha B H0 H σ ρ F R _ A (d.imp (fun x _ d v H1 s1 r1=>?_) fun e q=>q);obtain⟨F1,f1,p1,A1⟩:=r1;refine hb B H0 H1 σ ρ F1 R _ A1 (d.imp (fun y _ q w H2 s2 r2=>?_) fun e q=>q);obtain⟨F2,f2,p2,A2⟩:=r2;exact hq x y v w H2 F2 q (s1.trans s2) (fun i a h=>f1 i a (f2 i a h)) (p1.same s2) p2 A2
theorem K7(hr:XE K r o)(ho:∀x y z,o x y=.ok z->z.flat=true)(hx:∀x y e,o x y≠.exc e)(ha:DE K EX Γ Γ1 .A ta fa)(hb:DE K EX Γ1 Γ2 .A tb fb):
  DE K EX Γ Γ2 .P (Pf r ta tb) (fun ρ=>(fa ρ).bind fun x=>(fb ρ).bind fun y=>o x y):=fun B H0 H σ ρ F R Q A d=>by
 refine Nu ha hb A d.bind2 fun x y v w H' F' d s hF p1 p2 A'=>?_;cases e:o x y with
 |ok z=>rw[e] at d;exact hr p1 p2 ⟨z,e,fun hf u hu=>d u H' s ⟨F',hF,hf,hu,A'⟩⟩
 |exc q=>exact Eb e (hx x y q)
 |bad=>rw[e] at d;exact d.elim
def UnP(K:ZlR)(r:V->Hp->VK->Prop)(o:PV->Rr PV):Prop:=∀{H:Hp}{x:PV}{v:V}{Q:VK},Ta K H (fun _=>True) x v->(∃z,o x=.ok z/\(z.flat=true->∀u,Ta K H (fun _=>True) z u->Q u H))->r v H Q
theorem ZeL(hr:UnP K r o)(hx:∀x e,o x≠.exc e)(ha:DE K EX Γ Γ1 .A ta fa): DE K EX Γ Γ1 .P (BM r ta) (fun ρ=>(fa ρ).bind o):=fun B H0 H σ ρ F R Q A d=>by
 refine ha B H0 H σ ρ F R _ A (d.bind.imp (fun x _ d v H1 s1 r1=>?_) fun e q=>q);obtain⟨F1,f1,p1,A1⟩:=r1;cases e:o x with
 |ok z=>rw[e] at d;exact hr p1 ⟨z,e,fun hf u hu=>d u H1 s1 ⟨F1,f1,hf,hu,A1⟩⟩
 |exc q=>exact Eb e (hx x q)
 |bad=>rw[e] at d;exact d.elim
noncomputable def oI(C:Int->Int->Bool)(g:Int->Int->PV)(x y:PV):Rr PV:=match x,y with
 |.int i,.int j=>if C i j=true then .ok (g i j) else .bad
 |_,_=>.bad
theorem K3{i j: Int}(h:C i j=true): oI C g (.int i) (.int j)=.ok (g i j):=Da h
theorem Zi2(hC:∀i j,C i j=true->D i j)(hg:∀H i j,Ta K H (fun _=>True) (g i j) (g' i j))(hf:∀i j,(g i j).flat=true): XE K (rI D g') (oI C g):=by
 intro H x y v w Q rx ry ⟨z,e,q⟩;cases x<;>cases y<;>first|(simp only[oI] at e;cases e;done)|skip
 rename_i i j;simp only[oI] at e;by_cases h:C i j=true
 ·rw[Da h] at e;cases e
  cases rx;cases ry;exact⟨i,j,rfl,rfl,hC i j h,q (hf i j) _ (hg H i j)⟩
 ·rw[Qa h] at e;cases e
theorem Zi3(hg:∀H i j,Ta K H (fun _=>True) (g i j) (g' i j))(hf:∀i j,(g i j).flat=true): XE K (Ih g') (oI (fun _ _=>true) g):=by
 intro H x y v w Q rx ry ⟨z,e,q⟩;cases x<;>cases y<;>first|(simp only[oI] at e;cases e;done)|skip
 rename_i i j;simp only[oI,if_true] at e;cases e;cases rx;cases ry;exact⟨i,j,rfl,rfl,q (hf i j) _ (hg H i j)⟩
theorem KW(x y:PV)(e:PX): oI C g x y≠.exc e:=by
 cases x<;>cases y<;>first|(intro h;simp only[oI] at h;cases h;done)|skip
 intro h;simp only[oI] at h
 split at h<;>cases h
theorem IW(hf:∀i j,(g i j).flat=true)(x y z:PV)(h:oI C g x y=.ok z): z.flat=true:=by
 cases x<;>cases y<;>first|(simp only[oI] at h;cases h;done)|skip
 simp only[oI] at h
 split at h
 ·cases h;exact hf _ _
 ·cases h
end
mutual
noncomputable def PV.noX:PV->Bool
 |.exc _=>false
 |.exa _ _=>false
 |.box _ _ _=>false
 |.fz xs=>PV.noXs xs
 |.any=>false
 |.lst xs=>PV.noXs xs
 |.tup xs=>PV.noXs xs
 |.non=>true
 |.bl _=>true
 |.int _=>true
 |.str _=>true
noncomputable def PV.noXs:LI5->Bool
 |[]=>true
 |x::xs=>x.noX&&PV.noXs xs
end
theorem PV.noXs_ints:∀(ns:LI0),PV.noXs (ns.map PV.int)=true
 |[]=>rfl
 |n::ns=>by simp[PV.noXs,PV.noX,PV.noXs_ints ns]
mutual
noncomputable def PV.dat:PV->PyData
 |.non=>.none
 |.bl b=>.bool b
 |.int i=>.int i
 |.str x=>.str x
 |.exc _=>.none
 |.exa _ _=>.none
 |.box _ _ _=>.none
 |.fz xs=>.list (PV.dats xs)
 |.any=>.none
 |.lst xs=>.list (PV.dats xs)
 |.tup xs=>.tuple (PV.dats xs)
noncomputable def PV.dats:LI5->List PyData
 |[]=>[]
 |x::xs=>x.dat::PV.dats xs
end
section
variable {X:Cx}{Za:List (Ja×Obj)}{σ:St}{H:Hp}{s:Ga}{S:Ja->Prop}
theorem Nf{K:ZlR}{a:Ja}{vs:List V}(h:(Rd H a (.lst vs)/\S a)\/KL K a vs):Yb K H a vs:=by
 rcases h with h|h
 ·exact .inl h.1
 ·exact .inr h
mutual
theorem Ta.reads(I:Ca X Za σ H s):∀{x:PV}{v:V}{u:Va},x.noX=true->Ta X.K H S x v->Ob v u->∃as,Reads s.heap u x.dat as
 |.non,_,_,_,h,r=>by cases h;cases r;exact⟨_,.none⟩
 |.bl _,_,_,_,h,r=>by cases h;cases r;exact⟨_,.bool _⟩
 |.int _,_,_,_,h,r=>by cases h;obtain⟨t,rfl⟩:=r;exact⟨_,.int _ _⟩
 |.str _,_,_,_,h,r=>by cases h;obtain⟨t,rfl⟩:=r;exact⟨_,.str _ _⟩
 |.exc _,_,_,z,_,_=>by simp[PV.noX] at z
 |.exa _ _,_,_,z,_,_=>by simp[PV.noX] at z
 |.box _ _ _,_,_,z,_,_=>by simp[PV.noX] at z
 |.any,_,_,z,_,_=>by simp[PV.noX] at z
 |.fz xs,_,_,z,h,r=>by
  obtain⟨a,vs,rfl,⟨o,hn⟩,hr⟩:=h;cases r;obtain⟨its,rv,pl,_⟩:=I.list (Nf (S:=fun _=>True) (.inl ⟨.inr ⟨o,hn.1⟩,trivial⟩));obtain⟨as,ra⟩:=Reps.reads I (by simpa[PV.noX] using z) hr rv;obtain⟨o,ho,hc,n,hd⟩:=pl.isList;exact⟨_,.list ho hc hd (by simpa using ra)⟩
 |.lst xs,_,_,z,h,r=>by
  obtain⟨a,vs,rfl,hn,hr⟩:=h;cases r;obtain⟨its,rv,pl,_⟩:=I.list (Nf hn);obtain⟨as,ra⟩:=Reps.reads I (by simpa[PV.noX] using z) hr rv;obtain⟨o,ho,hc,n,hd⟩:=pl.isList;exact⟨_,.list ho hc hd (by simpa using ra)⟩
 |.tup xs,_,_,z,h,r=>by
  obtain⟨a,vs,rfl,hn,hr⟩:=h;cases r;obtain⟨its,rv,⟨o,ho,hc,n,hd⟩,_⟩:=I.tuple hn.sqT;obtain⟨as,ra⟩:=Reps.reads I (by simpa[PV.noX] using z) hr rv;exact⟨_,.tuple ho hc hd (by simpa using ra)⟩
theorem Reps.reads(I:Ca X Za σ H s):∀{xs:LI5}{vs:List V}{us:LI3},PV.noXs xs=true->Reps X.K H S xs vs->Ab vs us->∃as,ReadsAll s.heap us (PV.dats xs) as
 |[],_,_,_,h,r=>by rw[h] at r;cases r;exact⟨_,.nil⟩
 |x::xs,_,_,z,h,r=>by
  simp only[PV.noXs,Bool.and_eq_true] at z;obtain⟨v,vs,rfl,h1,h2⟩:=h;cases r with
  |cons r1 r2 =>
   obtain⟨as,a1⟩:=Ta.reads I z.1 h1 r1;obtain⟨bs,b1⟩:=Reps.reads I z.2 h2 r2;exact⟨_,.cons a1 b1⟩
end
noncomputable def Aj(x:PV):Bool:=x.noX&&x.dat.canLay0&&decide (x.dat.depth<=64)
noncomputable def O9(K:ZlR)(g:Bool->Bool):R2:=fun x y H Q=>∃p q,Ta K H (fun _=>True) p x/\Ta K H (fun _=>True) q y/\Aj p=true/\Aj q=true/\Q (.bl (g (PyData.eqv p.dat q.dat))) H
theorem Zi4{K:ZlR}(hu:X.A.units+64<cLine)(e:X.K=K:=by rfl):Xf X (Hj .Eq) (O9 K id):=by
 subst e;intro Za s σ H x y v u Q I rx ry h;obtain⟨p,q,h1,h2,h3,h4,hq⟩:=h;simp only[Aj,Bool.and_eq_true,decide_eq_true_eq] at h3 h4;obtain⟨as,ra⟩:=h1.reads I h3.1.1 rx;obtain⟨bs,rb⟩:=h2.reads I h4.1.1 ry;exact SeqAt.rcAt_reads ra rb h3.1.2 h4.1.2 (by have:=ID p.dat.depth q.dat.depth;lia) _ _ _ _ ⟨.bl (PyData.eqv p.dat q.dat),H,I,rfl,hq⟩
theorem Pr{K:ZlR}(hu:X.A.units+64<cLine)(e:X.K=K:=by rfl):Xf X (Hj .NotEq) (O9 K (!·)):=by
 subst e;intro Za s σ H x y v u Q I rx ry h;obtain⟨p,q,h1,h2,h3,h4,hq⟩:=h;simp only[Aj,Bool.and_eq_true,decide_eq_true_eq] at h3 h4;obtain⟨as,ra⟩:=h1.reads I h3.1.1 rx;obtain⟨bs,rb⟩:=h2.reads I h4.1.1 ry;exact SeqAt.rcNeAt_reads ra rb h3.1.2 h4.1.2 (by have:=ID p.dat.depth q.dat.depth;lia) _ _ _ _ ⟨.bl (!PyData.eqv p.dat q.dat),H,I,rfl,hq⟩
end
noncomputable def Ji(g:Bool->Bool)(x y:PV):Rr PV:=if (Aj x&&Aj y)=true then .ok (.bl (g (PyData.eqv x.dat y.dat))) else .bad
def Bt(i j:Int):Prop:=i.natAbs<2^60000/\j.natAbs<2^60000
def Qt(i j:Int):Prop:=0<j/\j.natAbs<2^9000
noncomputable instance (i j:Int):Decidable (Bt i j):=by unfold Bt;infer_instance
noncomputable instance (i j:Int):Decidable (Qt i j):=by unfold Qt;infer_instance
noncomputable instance (i j:Int):Decidable (Vv i j):=by unfold Vv;infer_instance
theorem AQ{i: Int}(h:i.natAbs<2^n): Builtin.Int.intBits i<=n:=by
 unfold Builtin.Int.intBits
 split
 ·exact Ng _
 ·rename_i h0
  have:i.natAbs≠0:=by simpa using h0
  exact Nat.succ_le_of_lt ((Nat.log2_lt this).mpr h)
section
variable {X:Cx}
theorem Wp:Xf X (Tq .Mult) (rI Bt fun i j=>.int (i*j)):=N3 fun _ _ _ _ _ _ _ hc q=>mul_int q (PyProof.Rows.mulOk_of_bits (AQ hc.1) (AQ hc.2) (by decide))
theorem Li:Xf X (Tq .FloorDiv) (rI Qt fun i j=>.int (i/j)):=N3 fun i j _ _ _ _ _ hc q=>by
 refine floordiv_int (by have:=hc.1;lia) ?_ (.inl (PyProof.noPylong_of_log2 ?_))
 ·rw[Int.fdiv_eq_ediv_of_nonneg _ (by have:=hc.1;lia)];exact q
 ·have h0:j.natAbs≠0:=by have:=hc.1;lia
  exact(Nat.log2_lt h0).mpr hc.2
variable {K:ZlR}{B:Ja->Prop}{EX:PX->Hp->Prop}{H0 H:Hp}{σ:St}{Γ Γ' Γ1 Γ2:List Md}{ρ:LI5}{F:Nat->LI2}{R:LI2}{k:Kd}{x:PV}{v:V}{ta tb:TE}{fa fb fc:LI5->Rr PV}
noncomputable abbrev EJ:PV->PV->Rr PV:=oI (fun _ _=>true) fun i j=>.int (i+j)
noncomputable abbrev DX:PV->PV->Rr PV:=oI (fun _ _=>true) fun i j=>.int (i-j)
noncomputable abbrev SJ:PV->PV->Rr PV:=oI (fun i j=>decide (Bt i j)) fun i j=>.int (i*j)
noncomputable abbrev HJ:PV->PV->Rr PV:=oI (fun i j=>decide (Qt i j)) fun i j=>.int (i/j)
noncomputable abbrev QX:PV->PV->Rr PV:=oI (fun _ j=>decide (0<j)) fun i j=>.int (i%j)
noncomputable abbrev Qx:PV->PV->Rr PV:=oI (fun i j=>decide (Vv i j)) fun i j=>.int (i^j.toNat)
noncomputable abbrev UX:PV->PV->Rr PV:=oI (fun _ _=>true) fun i j=>.bl (decide (i<j))
noncomputable abbrev pLe:PV->PV->Rr PV:=oI (fun _ _=>true) fun i j=>.bl (decide (i<=j))
noncomputable abbrev VX:PV->PV->Rr PV:=oI (fun _ _=>true) fun i j=>.bl (decide (j<i))
noncomputable abbrev JX:PV->PV->Rr PV:=oI (fun _ _=>true) fun i j=>.bl (decide (j<=i))
theorem Q2(hC:∀i j,C i j=true->D i j)(hg:∀H i j,Ta K H (fun _=>True) (g i j) (g' i j))(hf:∀i j,(g i j).flat=true)(ha:DE K EX Γ Γ1 .A ta fa)(hb:DE K EX Γ1 Γ2 .A tb fb): DE K EX Γ Γ2 .P (Pf (rI D g') ta tb) (fun ρ=>(fa ρ).bind fun x=>(fb ρ).bind fun y=>oI C g x y):=
 K7 (Zi2 hC hg hf) (IW hf) KW ha hb
theorem Xv(hg:∀H i j,Ta K H (fun _=>True) (g i j) (g' i j))(hf:∀i j,(g i j).flat=true)(ha:DE K EX Γ Γ1 .A ta fa)(hb:DE K EX Γ1 Γ2 .A tb fb): DE K EX Γ Γ2 .P (Pf (Ih g') ta tb) (fun ρ=>(fa ρ).bind fun x=>(fb ρ).bind fun y=>oI (fun _ _=>true) g x y):=
 K7 (Zi3 hg hf) (IW hf) KW ha hb
theorem Zh(ha:DE K EX Γ Γ1 .A ta fa)(hb:DE K EX Γ1 Γ2 .A tb fb):DE K EX Γ Γ2 .P (Pf (Ih fun i j=>.int (i+j)) ta tb) (fun ρ=>(fa ρ).bind fun x=>(fb ρ).bind fun y=>EJ x y):=Xv (fun _ _ _=>rfl) (fun _ _=>rfl) ha hb
theorem Gp(ha:DE K EX Γ Γ1 .A ta fa)(hb:DE K EX Γ1 Γ2 .A tb fb):DE K EX Γ Γ2 .P (Pf (Ih fun i j=>.int (i-j)) ta tb) (fun ρ=>(fa ρ).bind fun x=>(fb ρ).bind fun y=>DX x y):=Xv (fun _ _ _=>rfl) (fun _ _=>rfl) ha hb
theorem Wv(ha:DE K EX Γ Γ1 .A ta fa)(hb:DE K EX Γ1 Γ2 .A tb fb):DE K EX Γ Γ2 .P (Pf (Ih fun i j=>.bl (decide (i<j))) ta tb) (fun ρ=>(fa ρ).bind fun x=>(fb ρ).bind fun y=>UX x y):=Xv (fun _ _ _=>rfl) (fun _ _=>rfl) ha hb
theorem VS(ha:DE K EX Γ Γ1 .A ta fa)(hb:DE K EX Γ1 Γ2 .A tb fb):DE K EX Γ Γ2 .P (Pf (Ih fun i j=>.bl (decide (i<=j))) ta tb) (fun ρ=>(fa ρ).bind fun x=>(fb ρ).bind fun y=>pLe x y):=Xv (fun _ _ _=>rfl) (fun _ _=>rfl) ha hb
theorem Tv(ha:DE K EX Γ Γ1 .A ta fa)(hb:DE K EX Γ1 Γ2 .A tb fb):DE K EX Γ Γ2 .P (Pf (Ih fun i j=>.bl (decide (j<i))) ta tb) (fun ρ=>(fa ρ).bind fun x=>(fb ρ).bind fun y=>VX x y):=Xv (fun _ _ _=>rfl) (fun _ _=>rfl) ha hb
theorem F7(ha:DE K EX Γ Γ1 .A ta fa)(hb:DE K EX Γ1 Γ2 .A tb fb):DE K EX Γ Γ2 .P (Pf (Ih fun i j=>.bl (decide (j<=i))) ta tb) (fun ρ=>(fa ρ).bind fun x=>(fb ρ).bind fun y=>JX x y):=Xv (fun _ _ _=>rfl) (fun _ _=>rfl) ha hb
theorem Ep(ha:DE K EX Γ Γ1 .A ta fa)(hb:DE K EX Γ1 Γ2 .A tb fb):DE K EX Γ Γ2 .P (Pf (rI Bt fun i j=>.int (i*j)) ta tb) (fun ρ=>(fa ρ).bind fun x=>(fb ρ).bind fun y=>SJ x y):=Q2 (fun _ _ h=>Ei h) (fun _ _ _=>rfl) (fun _ _=>rfl) ha hb
theorem Hi(ha:DE K EX Γ Γ1 .A ta fa)(hb:DE K EX Γ1 Γ2 .A tb fb):DE K EX Γ Γ2 .P (Pf (rI Qt fun i j=>.int (i/j)) ta tb) (fun ρ=>(fa ρ).bind fun x=>(fb ρ).bind fun y=>HJ x y):=Q2 (fun _ _ h=>Ei h) (fun _ _ _=>rfl) (fun _ _=>rfl) ha hb
theorem Xe(ha:DE K EX Γ Γ1 .A ta fa)(hb:DE K EX Γ1 Γ2 .A tb fb):DE K EX Γ Γ2 .P (Pf (rI (fun _ j=>0<j) fun i j=>.int (i%j)) ta tb) (fun ρ=>(fa ρ).bind fun x=>(fb ρ).bind fun y=>QX x y):=Q2 (fun _ _ h=>Ei h) (fun _ _ _=>rfl) (fun _ _=>rfl) ha hb
theorem Fp(ha:DE K EX Γ Γ1 .A ta fa)(hb:DE K EX Γ1 Γ2 .A tb fb):DE K EX Γ Γ2 .P (Pf (rI Vv fun i j=>.int (i^j.toNat)) ta tb) (fun ρ=>(fa ρ).bind fun x=>(fb ρ).bind fun y=>Qx x y):=Q2 (fun _ _ h=>Ei h) (fun _ _ _=>rfl) (fun _ _=>rfl) ha hb
noncomputable def A9(x:PV):Rr PV:=match x with
 |.int i=>.ok (.int (-i))
 |_=>.bad
theorem ZH(ha:DE K EX Γ Γ1 .A ta fa):DE K EX Γ Γ1 .P (BM (rU fun i=>.int (-i)) ta) (fun ρ=>(fa ρ).bind A9):=by
 refine ZeL (fun {H x v Q} rx ⟨z,e,q⟩=>?_) (fun x e h=>?_) ha
 ·cases x<;>first|(simp only[A9] at e;cases e;done)|skip
  cases e;cases rx;exact⟨_,rfl,q rfl _ rfl⟩
 ·cases x<;>(simp only[A9] at h;cases h)
theorem ZiM(x y:PV)(e:PX): Ji g x y≠.exc e:=by
 unfold Ji;intro h
 split at h<;>cases h
theorem ZiL(x y z:PV)(h:Ji g x y=.ok z): z.flat=true:=by
 unfold Ji at h
 split at h
 ·cases h;rfl
 ·cases h
theorem Ke(ha:DE K EX Γ Γ1 .A ta fa)(hb:DE K EX Γ1 Γ2 .A tb fb): DE K EX Γ Γ2 .P (Pf (O9 K g) ta tb) (fun ρ=>(fa ρ).bind fun x=>(fb ρ).bind fun y=>Ji g x y):=by
 refine K7 (fun {H x y v w Q} rx ry ⟨z,e,q⟩=>?_) ZiL ZiM ha hb;unfold Ji at e;by_cases h:(Aj x&&Aj y)=true
 ·rw[Da h] at e;cases e
  rw[Bool.and_eq_true] at h;exact⟨x,y,rx,ry,h.1,h.2,q rfl _ rfl⟩
 ·rw[Qa h] at e;cases e
noncomputable def Z9(g:Bool->Bool)(x:PV):Rr PV:=match x with
 |.non=>.ok (.bl (g true))
 |_=>.ok (.bl (g false))
theorem XY(h:Ta K H S x v): decide (v=.non)=match x with|.non=>true|_=>false:=by
 cases x<;>first|(cases h;rfl)|(obtain⟨a,vs,rfl,_⟩:=h;rfl)|(obtain⟨a,vs,c,rfl,_⟩:=h;rfl)|(obtain⟨a,o,c,d,fs,rfl,_⟩:=h;rfl)|(obtain⟨a,rfl⟩:=h;rfl)
theorem Ze9(ha:DE K EX Γ Γ1 .A ta fa):DE K EX Γ Γ1 .P (Pf (fun x y H Q=>y=.non/\Q (.bl (decide (x=.non))) H) ta (tC .non)) (fun ρ=>(fa ρ).bind (Z9 id)):=fun B H0 H σ ρ F R Q A d=>by
 refine ha B H0 H σ ρ F R _ A (d.bind.imp (fun x _ d v H1 s1 r1=>?_) fun e q=>q);obtain⟨F1,f1,p1,A1⟩:=r1;have e:=XY p1;refine⟨rfl, ?_⟩;rw[e];cases x<;>exact d _ H1 s1 ⟨F1,f1,rfl,rfl,A1⟩
theorem ZeG(ha:DE K EX Γ Γ1 .A ta fa):DE K EX Γ Γ1 .P (Pf (fun x y H Q=>y=.non/\Q (.bl (!decide (x=.non))) H) ta (tC .non)) (fun ρ=>(fa ρ).bind (Z9 (!·))):=fun B H0 H σ ρ F R Q A d=>by
 refine ha B H0 H σ ρ F R _ A (d.bind.imp (fun x _ d v H1 s1 r1=>?_) fun e q=>q);obtain⟨F1,f1,p1,A1⟩:=r1;have e:=XY p1;refine⟨rfl, ?_⟩;rw[e];cases x<;>exact d _ H1 s1 ⟨F1,f1,rfl,rfl,A1⟩
noncomputable def asB(x:PV):Rr Bool:=match x with
 |.bl b=>.ok b
 |_=>.bad
theorem Dn.asB(d:Dn (asB x) ok ex): ∃b,x=.bl b/\ok b:=by
 cases x with
 |bl b=>exact⟨b,rfl,d⟩
 |_=>exact d.elim
theorem ZeF(ha:DE K EX Γ Γ1 .A ta fa):DE K EX Γ Γ1 .P (Za2 ta) (fun ρ=>(fa ρ).bind fun x=>(asB x).bind fun b=>.ok (.bl (!b))):=fun B H0 H σ ρ F R Q A d=>by
 refine ha B H0 H σ ρ F R _ A (d.bind.imp (fun x _ d v H1 s1 r1=>?_) fun e q=>q);obtain⟨b,rfl,d⟩:=d.bind.asB;obtain⟨F1,f1,p1,A1⟩:=r1;cases p1;exact⟨b,rfl,d _ H1 s1 ⟨F1,f1,rfl,rfl,A1⟩⟩
theorem Lc.shift(s1:La H H1)(f1:∀i,∀a∈F1 i,a∈F i)(h:Lc K B H0 H1 σ Γ2 ρ F1 R k y w H2): Lc K B H0 H σ Γ2 ρ F R k y w H2:=by
 obtain⟨F2,f2,h⟩:=h;refine⟨F2,fun i a ha=>f1 i a (f2 i a ha), ?_⟩;have org:∀a,(H1 a=none\/∃i,a∈F1 i)->(H a=none\/∃i,a∈F i):=fun a h=>h.elim (fun z=>.inl (s1.free z)) fun⟨i,z⟩=>.inr ⟨i,f1 i a z⟩;cases k with
 |P=>exact h
 |F=>obtain⟨G,h1,h2,h3⟩:=h;exact⟨G,h1,fun a ha=>⟨(h2 a ha).1,org a (h2 a ha).2⟩,h3⟩
 |T=>obtain⟨a,vs,xs,h1,h2,h3,h4,h5,h6,h7⟩:=h;exact⟨a,vs,xs,h1,h2,h3,h4,h5,org a h6,h7⟩
 |Z=>exact h
 |A=>exact h
 |N=>exact h.elim
 |M=>exact h.elim
theorem Pv(ha:DE K EX Γ Γ .A ta fa)(hb:DE K EX Γ Γ .P tb fb):DE K EX Γ Γ .P (Zai ta tb) (fun ρ=>(fa ρ).bind fun x=>(asB x).bind fun b=>if b=true then fb ρ else .ok (.bl false)):=fun B H0 H σ ρ F R Q A d=>by
 refine ha B H0 H σ ρ F R _ A (d.bind.imp (fun x _ d v H1 s1 r1=>?_) fun e q=>q);obtain⟨b,rfl,d⟩:=d.bind.asB;obtain⟨F1,f1,p1,A1⟩:=r1;cases p1;refine⟨b,rfl, ?_⟩;cases b with
 |true=>exact hb B H0 H1 σ ρ F1 R _ A1 (d.imp (fun y _ q w H2 s2 r2=>q w H2 (s1.trans s2) (r2.shift s1 f1)) fun e q=>q)
 |false=>exact d _ H1 s1 ⟨F1,f1,rfl,rfl,A1⟩
theorem Hc(ha:DE K EX Γ Γ' .A ta fa):DT K EX Γ Γ' (UM ta) (fun ρ=>(fa ρ).bind asB):=fun B H0 H σ ρ F R Q A d=>by
 refine ha B H0 H σ ρ F R _ A (d.bind.imp (fun x _ d v H1 s1 r1=>?_) fun e q=>q);obtain⟨b,rfl,d⟩:=d.asB;obtain⟨F1,f1,p1,A1⟩:=r1;cases p1;exact⟨b,rfl,d H1 F1 s1 f1 A1⟩
theorem Lm(ha:DE K EX Γ Γ' .A ta fa):DT K EX Γ Γ' (tB ta) (fun ρ=>(fa ρ).bind asB):=Hc ha
theorem QH{fc fd: LI5->Rr Bool}(hc:DT K EX Γ Γ c fc)(hd:DT K EX Γ Γ d fd): DT K EX Γ Γ (Zah c d) (fun ρ=>(fc ρ).bind fun b=>if b=true then fd ρ else .ok false):=fun B H0 H σ ρ F R Q A dn=>by
 refine hc B H0 H σ ρ F R _ A (dn.bind.imp (fun b _ dn H1 F1 s1 f1 A1=>?_) fun e q=>q);cases b with
 |true=>exact hd B H0 H1 σ ρ F1 R _ A1 (dn.imp (fun y _ q H2 F2 s2 f2 A2=>q H2 F2 (s1.trans s2) (fun i a h=>f1 i a (f2 i a h)) A2) fun e q=>q)
 |false=>exact dn H1 F1 s1 f1 A1
theorem Yn{fc fd: LI5->Rr Bool}(hc:DT K EX Γ Γ c fc)(hd:DT K EX Γ Γ d fd): DT K EX Γ Γ (tOr c d) (fun ρ=>(fc ρ).bind fun b=>if b=true then .ok true else fd ρ):=fun B H0 H σ ρ F R Q A dn=>by
 refine hc B H0 H σ ρ F R _ A (dn.bind.imp (fun b _ dn H1 F1 s1 f1 A1=>?_) fun e q=>q);cases b with
 |false=>exact hd B H0 H1 σ ρ F1 R _ A1 (dn.imp (fun y _ q H2 F2 s2 f2 A2=>q H2 F2 (s1.trans s2) (fun i a h=>f1 i a (f2 i a h)) A2) fun e q=>q)
 |true=>exact dn H1 F1 s1 f1 A1
theorem Kp{fc: LI5->Rr Bool}(hc:DT K EX Γ Γ' c fc): DT K EX Γ Γ' (Za1 c) (fun ρ=>(fc ρ).bind fun b=>.ok (!b)):=fun B H0 H σ ρ F R Q A dn =>
 hc B H0 H σ ρ F R _ A (dn.bind.imp (fun b _ dn H1 F1 s1 f1 A1=>dn H1 F1 s1 f1 A1) fun e q=>q)
end
def Ce(K:ZlR)(EX:PX->Hp->Prop)(Γ Γ':List Md)(ta:TA)(f:LI5->Rr LI5):Prop:=
 ∀(B:Ja->Prop) (H0 H:Hp) (σ:St) (ρ:LI5) (F:Nat->LI2) (R:LI2) (Q:List V->Hp->Prop),Ag K B H0 H σ Γ ρ F R ->
  Dn (f ρ) (fun xs=>∀vs H' F',La H H'->(∀i,∀a∈F' i,a∈F i)->Reps K H' (fun _=>True) xs vs->Ag K B H0 H' σ Γ' ρ F' R->Q vs H') (fun e=>∀H',La H0 H'->EX e H')->ta σ H Q
def Qv(K:ZlR)(EX:PX->Hp->Prop)(Γ Γ':List Md)(ta:TA)(f:LI5->Rr LI5):Prop:=
 ∀(B:Ja->Prop) (H0 H:Hp) (σ:St) (ρ:LI5) (F:Nat->LI2) (R:LI2) (Q:List V->Hp->Prop),Ag K B H0 H σ Γ ρ F R ->
  Dn (f ρ) (fun xs=>∀vs H' F' G,La H H'->(∀i,∀a∈F' i,a∈F i)->Trees K H' xs vs G->(∀a∈G,a ∉ R/\(H a=none\/∃i,a∈F i))->Ag K B H0 H' σ Γ' ρ F' (G++R)->Q vs H') (fun e=>∀H',La H0 H'->EX e H')->ta σ H Q
def Av(K:ZlR)(EX:PX->Hp->Prop)(Γ Γ':List Md)(ta:TA)(f:LI5->Rr LI5):Prop:=
 ∀(B:Ja->Prop) (H0 H:Hp) (σ:St) (ρ:LI5) (F:Nat->LI2) (R:LI2) (Q:List V->Hp->Prop),Ag K B H0 H σ Γ ρ F R ->
  Dn (f ρ) (fun xs=>∀vs H' F',La H H'->(∀i,∀a∈F' i,a∈F i)->Reps K H' (NO B F' R) xs vs->Ag K B H0 H' σ Γ' ρ F' R->Q vs H') (fun e=>∀H',La H0 H'->EX e H')->ta σ H Q
section
variable {K:ZlR}{B:Ja->Prop}{EX:PX->Hp->Prop}{H0 H H':Hp}{σ:St}{Γ Γ' Γ1 Γ2:List Md}{ρ:LI5}{F F':Nat->LI2}{R:LI2}{x:PV}{v:V}{te tb:TE}{ta:TA}{f fb:LI5->Rr PV}{fa:LI5->Rr LI5}
theorem Ma:Ce K EX Γ Γ Sl (fun _=>.ok []):=fun B H0 H σ ρ F R Q A d=>d [] H F (La.refl H) (fun _ _ h=>h) rfl A
theorem Ea(he:DE K EX Γ Γ1 .A te f)(ha:Ce K EX Γ1 Γ2 ta fa):Ce K EX Γ Γ2 (Dk te ta) (fun ρ=>(f ρ).bind fun x=>(fa ρ).bind fun xs=>.ok (x::xs)):=fun B H0 H σ ρ F R Q A d=>by
 refine he B H0 H σ ρ F R _ A (d.bind.imp (fun x _ d v H1 s1 r1=>?_) fun e q=>q);obtain⟨F1,f1,p1,A1⟩:=r1;refine ha B H0 H1 σ ρ F1 R _ A1 (d.bind.imp (fun xs _ d vs H2 F2 s2 f2 p2 A2=>?_) fun e q=>q);exact d (v::vs) H2 F2 (s1.trans s2) (fun i a h=>f1 i a (f2 i a h)) ⟨v,vs,rfl,p1.same s2,p2⟩ A2
theorem Eg:Qv K EX Γ Γ Sl (fun _=>.ok []):=fun B H0 H σ ρ F R Q A d=>d [] H F [] (La.refl H) (fun _ _ h=>h) ⟨rfl,rfl⟩ (by simp) A
theorem Xd(he:DE K EX Γ Γ1 .F te f)(ha:Qv K EX Γ1 Γ2 ta fa):Qv K EX Γ Γ2 (Dk te ta) (fun ρ=>(f ρ).bind fun x=>(fa ρ).bind fun xs=>.ok (x::xs)):=fun B H0 H σ ρ F R Q A d=>by
 refine he B H0 H σ ρ F R _ A (d.bind.imp (fun x _ d v H1 s1 r1=>?_) fun e q=>q);obtain⟨F1,f1,G1,p1,o1,A1⟩:=r1;refine ha B H0 H1 σ ρ F1 (G1++R) _ A1 (d.bind.imp (fun xs _ d vs H2 F2 G2 s2 f2 p2 o2 A2=>?_) fun e q=>q);refine d (v::vs) H2 F2 (G1++G2) (s1.trans s2) (fun i a h=>f1 i a (f2 i a h)) ⟨v,vs,G1,G2,rfl,p1.same s2,p2,fun a ha z=>(o2 a z).1 (Zf _ ha),rfl⟩ (fun a ha=>?_) (A2.less fun a ha=>?_)
 ·rcases Nc.mp ha with z|z
  ·exact o1 a z
  ·obtain⟨o3,o4⟩:=o2 a z
   exact⟨fun q=>o3 (Td _ q),o4.elim (fun q=>.inl (s1.free q)) fun⟨i,q⟩=>.inr ⟨i,f1 i a q⟩⟩
 ·simp only[Nc] at ha ⊢
  rcases ha with (z|z)|z
  ·exact .inr (.inl z)
  ·exact .inl z
  ·exact .inr (.inr z)
theorem WG:Av K EX Γ Γ Sl (fun _=>.ok []):=fun B H0 H σ ρ F R Q A d=>d [] H F (La.refl H) (fun _ _ h=>h) rfl A
theorem Z2(he:DE K EX Γ Γ1 .Z te f)(ha:Av K EX Γ1 Γ2 ta fa):Av K EX Γ Γ2 (Dk te ta) (fun ρ=>(f ρ).bind fun x=>(fa ρ).bind fun xs=>.ok (x::xs)):=fun B H0 H σ ρ F R Q A d=>by
 refine he B H0 H σ ρ F R _ A (d.bind.imp (fun x _ d v H1 s1 r1=>?_) fun e q=>q);obtain⟨F1,f1,p1,A1⟩:=r1;refine ha B H0 H1 σ ρ F1 R _ A1 (d.bind.imp (fun xs _ d vs H2 F2 s2 f2 p2 A2=>?_) fun e q=>q);refine d (v::vs) H2 F2 (s1.trans s2) (fun i a h=>f1 i a (f2 i a h)) ⟨v,vs,rfl, ?_,p2⟩ A2;exact Ta.mono (fun a us s r=>⟨r.same s2,s.1,s.2.1,fun i z=>s.2.2 i (f2 i a z)⟩) (fun a us r=>s2.im r) p1
noncomputable def mkT(xs:LI5):Rr PV:=if xs.length<=1000 then .ok (.tup xs) else .bad
noncomputable def mkL(xs:LI5):Rr PV:=if xs.length<=1000 then .ok (.lst xs) else .bad
theorem Dn.mkT(d:Dn (mkT xs) ok ex): xs.length<=1000/\ok (.tup xs):=by
 unfold L2.mkT at d;by_cases h:xs.length<=1000
 ·rw[Da h] at d;exact⟨h,d⟩
 ·rw[Qa h] at d;exact d.elim
theorem Dn.mkL(d:Dn (mkL xs) ok ex): xs.length<=1000/\ok (.lst xs):=by
 unfold L2.mkL at d;by_cases h:xs.length<=1000
 ·rw[Da h] at d;exact⟨h,d⟩
 ·rw[Qa h] at d;exact d.elim
theorem B2(ha:Qv K EX Γ Γ' ta fa):DE K EX Γ Γ' .F (QM ta) (fun ρ=>(fa ρ).bind mkT):=fun B H0 H σ ρ F R Q A d=>by
 refine ha B H0 H σ ρ F R _ A (d.bind.imp (fun xs _ d vs H1 F1 G s1 f1 p1 o1 A1=>?_) fun e q=>q);obtain⟨hl,d⟩:=d.mkT;refine⟨by rw[p1.length];exact D8 hl,fun p hp=>?_⟩;have e:La H1 (upd H1 p (.tup vs)):=La.new hp;exact d _ _ (s1.trans e) ⟨F1,f1,G,⟨p,vs,rfl,⟨Uf,trivial⟩,p1.same e⟩,o1,A1.grow e⟩
theorem Yj(ha:Ce K EX Γ Γ' ta fa):DE K EX Γ Γ' .A (QM ta) (fun ρ=>(fa ρ).bind mkT):=fun B H0 H σ ρ F R Q A d=>by
 refine ha B H0 H σ ρ F R _ A (d.bind.imp (fun xs _ d vs H1 F1 s1 f1 p1 A1=>?_) fun e q=>q);obtain⟨hl,d⟩:=d.mkT;refine⟨by rw[p1.length];exact D8 hl,fun p hp=>?_⟩;have e:La H1 (upd H1 p (.tup vs)):=La.new hp;exact d _ _ (s1.trans e) ⟨F1,f1,⟨p,vs,rfl,⟨Uf,trivial⟩,p1.same e⟩,A1.grow e⟩
theorem Lc.newF(s1:La H H1)(f1:∀i,∀a∈F1 i,a∈F i)(p1:Trees K H1 xs vs G)(o1:∀a∈G,a ∉ R/\(H a=none\/∃i,a∈F i))(A1:Ag K B H0 H1 σ Γ' ρ F1 (G++R))(hp:H1 p=none):
  Lc K B H0 H σ Γ' ρ F R .F (.lst xs) (.ref p) (upd H1 p (.lst vs)):=by
 have e:La H1 (upd H1 p (.lst vs)):=La.new hp;have hf:=A1.fresh hp;refine⟨F1,f1,p::G,⟨p,vs,G,rfl,Uf,p1.same e,fun z=>hf.1 (Zf _ z),rfl⟩,fun a ha=>?_,A1.new hp⟩;rcases Vd.mp ha with rfl|z
 ·exact⟨fun z=>hf.1 (Td _ z),.inl (s1.free hp)⟩
 ·exact o1 a z
theorem Lc.newP(s1:La H H1)(f1:∀i,∀a∈F1 i,a∈F i)(p1:Reps K H1 S xs vs)(hx:PV.flats xs=true)(A1:Ag K B H0 H1 σ Γ' ρ F1 R)(hp:H1 p=none):
  Lc K B H0 H σ Γ' ρ F R .F (.lst xs) (.ref p) (upd H1 p (.lst vs)):=Lc.newF (G:=[]) s1 f1 (p1.trees hx) (by simp) A1 hp
theorem Ii(ha:Qv K EX Γ Γ' ta fa):DE K EX Γ Γ' .F (JM ta) (fun ρ=>(fa ρ).bind mkL):=fun B H0 H σ ρ F R Q A d=>by
 refine ha B H0 H σ ρ F R _ A (d.bind.imp (fun xs _ d vs H1 F1 G s1 f1 p1 o1 A1=>?_) fun e q=>q);obtain⟨hl,d⟩:=d.mkL;refine⟨by rw[p1.length];exact D8 hl,fun p hp=>d _ _ (s1.trans (La.new hp)) (Lc.newF s1 f1 p1 o1 A1 hp)⟩
noncomputable def pIx(x y:PV):Rr PV:=match x,y with
 |.lst xs,.int i=>match Dg xs i with
  |some z=>.ok z
  |none=>.bad
 |.tup xs,.int i=>match Dg xs i with
  |some z=>.ok z
  |none=>.bad
 |_,_=>.bad
theorem ZZ{i: Int}(h:Reps K H S xs vs)(e:Dg xs i=some z): ∃u,Dg vs i=some u/\Ta K H S z u:=by
 unfold Dg at e ⊢;rw[h.length];cases q:Jk xs.length i with
 |none=>rw[q] at e;cases e
 |some j =>
  rw[q] at e;obtain⟨u,e1,e2⟩:=h.get e;exact⟨u,e1,e2⟩
theorem Zkf(hx:Ta K H S x v)(hy:Ta K H (fun _=>True) y w)(e:pIx x y=.ok z)(q:∀u,Ta K H S z u->Q u H): Ry K v w H Q:=by
 cases x<;>cases y<;>first|(simp only[pIx] at e;cases e;done)|skip
 ·rename_i xs i
  obtain⟨a,vs,rfl,hn,hr⟩:=hx;cases hy;simp only[pIx] at e;cases e1:Dg xs i with
  |none=>rw[e1] at e;cases e
  |some z' =>
   rw[e1] at e;cases e;obtain⟨u,e2,e3⟩:=ZZ hr e1;exact .inl ⟨a,vs,i,u,rfl,rfl,Nf hn,e2,q u e3⟩
 ·rename_i xs i
  obtain⟨a,vs,rfl,hn,hr⟩:=hx;cases hy;simp only[pIx] at e;cases e1:Dg xs i with
  |none=>rw[e1] at e;cases e
  |some z' =>
   rw[e1] at e;cases e;obtain⟨u,e2,e3⟩:=ZZ hr e1;exact .inr (.inl ⟨a,vs,i,u,rfl,rfl,hn.sqT,e2,q u e3⟩)
theorem ZiW(x y:PV)(e:PX):pIx x y≠.exc e:=by
 cases x<;>cases y<;>first|(intro h;simp only[pIx] at h;cases h;done)|skip
 all_goals
  intro h;simp only[pIx] at h
  split at h<;>cases h
theorem Dn.pIx(d:Dn (pIx x y) ok ex): ∃z,pIx x y=.ok z/\ok z:=by
 cases e:L2.pIx x y with
 |ok z=>rw[e] at d;exact⟨z,rfl,d⟩
 |exc q=>exact Eb e (ZiW x y q)
 |bad=>rw[e] at d;exact d.elim
theorem ZeA(ha:DE K EX Γ Γ1 .A ta' fa')(hb:DE K EX Γ1 Γ2 .A tb fb): DE K EX Γ Γ2 .A (Pf (Ry K) ta' tb) (fun ρ=>(fa' ρ).bind fun x=>(fb ρ).bind fun y=>pIx x y):=fun B H0 H σ ρ F R Q A d=>by
 refine Nu ha hb A d.bind2 fun x y v w H' F' d s hF p1 p2 A'=>?_;obtain⟨z,e,d⟩:=d.pIx;exact Zkf p1 p2 e fun u hu=>d u H' s ⟨F',hF,hu,A'⟩
def CbP(K:ZlR)(r:List V->Hp->VK->Prop)(o:LI5->Rr PV):Prop:=∀{H:Hp}{xs:LI5}{vs:List V}{Q:VK},Reps K H (fun _=>True) xs vs->∀z,o xs=.ok z->z.flat=true/\((∀u,Ta K H (fun _=>True) z u->Q u H)->r vs H Q)
theorem Sv(hr:CbP K r o)(hx:∀xs e,o xs≠.exc e)(ha:Ce K EX Γ Γ' ta fa): DE K EX Γ Γ' .P (Zj r ta) (fun ρ=>(fa ρ).bind o):=fun B H0 H σ ρ F R Q A d=>by
 refine ha B H0 H σ ρ F R _ A (d.bind.imp (fun xs _ d vs H1 F1 s1 f1 p1 A1=>?_) fun e q=>q);cases e:o xs with
 |ok z =>
  rw[e] at d;obtain⟨hf,h⟩:=hr (Q:=Q) p1 z e;exact h fun u hu=>d u H1 s1 ⟨F1,f1,hf,hu,A1⟩
 |exc q=>exact Eb e (hx xs q)
 |bad=>rw[e] at d;exact d.elim
noncomputable def Vq(xs:LI5):Rr PV:=match xs with
 |[.lst ys]=>.ok (.int ys.length)
 |[.tup ys]=>.ok (.int ys.length)
 |_=>.bad
theorem Xi(h:Reps K H S [x] vs): ∃v,vs=[v]/\Ta K H S x v:=by
 obtain⟨v,r,rfl,h1,h2⟩:=h;cases h2;exact⟨v,rfl,h1⟩
theorem SK(h:Reps K H S [x,y] vs): ∃v w,vs=[v,w]/\Ta K H S x v/\Ta K H S y w:=by
 obtain⟨v,r,rfl,h1,w,r',rfl,h2,h3⟩:=h;cases h3;exact⟨v,w,rfl,h1,h2⟩
theorem Gf(ha:Ce K EX Γ Γ' ta fa):DE K EX Γ Γ' .P (Zj (fun xs H Q=>∃p ys,xs=[.ref p]/\(Yb K H p ys\/Af K H p ys)/\Q (.int ys.length) H) ta) (fun ρ=>(fa ρ).bind Vq):=by
 refine Sv (fun {H xs vs Q} h z e=>?_) (fun xs e h=>?_) ha
 ·unfold Vq at e
  split at e<;>first|(cases e;done)|skip
  all_goals
   cases e;refine⟨rfl,fun q=>?_⟩;obtain⟨v,rfl,a,ws,rfl,hn,hr⟩:=Xi h;refine⟨a,ws,rfl, ?_,by rw[hr.length];exact q _ rfl⟩
   first|exact .inl (Nf (S:=fun _=>True) hn)|exact .inr hn.sqT
 ·unfold Vq at h;split at h<;>cases h
noncomputable def Kr:LI5->Option LI0
 |[]=>some []
 |.int i::xs=>(Kr xs).map (i::·)
 |_::_=>none
@[simp] theorem Zg6(ns:LI0):Kr (ns.map PV.int)=some ns:=by
 induction ns with
 |nil=>rfl
 |cons n ns ih=>simp[Kr,ih]
theorem MU:∀{xs:LI5}{ns:LI0},Kr xs=some ns->xs=ns.map PV.int
 |[],_,h=>by cases h;rfl
 |.int i::xs,ns,h=>by
  simp only[Kr] at h;cases e:Kr xs with
  |none=>rw[e] at h;cases h
  |some ms=>rw[e] at h;cases h;rw[MU e];rfl
 |.non::_,_,h=>by cases h
 |.bl _::_,_,h=>by cases h
 |.str _::_,_,h=>by cases h
 |.exc _::_,_,h=>by cases h
 |.exa _ _::_,_,h=>by cases h
 |.box _ _ _::_,_,h=>by cases h
 |.fz _::_,_,h=>by cases h
 |.any::_,_,h=>by cases h
 |.lst _::_,_,h=>by cases h
 |.tup _::_,_,h=>by cases h
theorem D4: ∀{ns:LI0}{vs:List V},Reps K H S (ns.map PV.int) vs->vs=ns.map V.int
 |[],_,h=>h
 |n::ns,_,h=>by
  obtain⟨v,r,rfl,h1,h2⟩:=h;cases h1;rw[D4 h2];rfl
theorem NU: ∀(ns:LI0),Reps K H S (ns.map PV.int) (ns.map V.int)
 |[]=>rfl
 |n::ns=>⟨_,_,rfl,rfl,NU ns⟩
theorem OK{ns: LI0}(h:Ta K H S (.lst (ns.map PV.int)) v): ∃a,v=.ref a/\Yb K H a (ns.map V.int):=by
 obtain⟨a,vs,rfl,hn,hr⟩:=h;rw[D4 hr] at hn;exact⟨a,rfl,Nf hn⟩
noncomputable def Eo(g:LI0->Rr PV)(xs:LI5):Rr PV:=match xs with
 |[.lst ys]=>match Kr ys with
  |some ns=>g ns
  |none=>.bad
 |_=>.bad
theorem Rr.ints(e:Eo g xs=.ok z): ∃ns,xs=[.lst (ns.map PV.int)]/\g ns=.ok z:=by
 unfold Eo at e
 split at e
 ·split at e
  ·rename_i ns h
   exact⟨ns,by rw[MU h],e⟩
  ·cases e
 ·cases e
theorem LJ(hg:∀ns e,g ns≠.exc e)(xs:LI5)(e:PX): Eo g xs≠.exc e:=by
 intro h;unfold Eo at h
 split at h
 ·split at h
  ·exact hg _ _ h
  ·cases h
 ·cases h
noncomputable abbrev WJ:=Eo fun ns=>.ok (.int ns.sum)
theorem Xn(ha:Ce K EX Γ Γ' ta fa):DE K EX Γ Γ' .P (Zj (fun xs H Q=>∃p,∃ns:LI0,xs=[.ref p]/\Yb K H p (ns.map V.int)/\Q (.int ns.sum) H) ta) (fun ρ=>(fa ρ).bind WJ):=by
 refine Sv (fun {H xs vs Q} h z e=>?_) (LJ fun ns e h=>by cases h) ha;obtain⟨ns,rfl,e'⟩:=Rr.ints e;cases e';obtain⟨v,rfl,h1⟩:=Xi h;obtain⟨a,rfl,h2⟩:=OK h1;exact⟨rfl,fun q=>⟨a,ns,rfl,h2,q _ rfl⟩⟩
noncomputable def Ll:LI0->Int
 |[]=>0
 |[n]=>n
 |n::ns=>min n (Ll ns)
theorem H8:∀{ns:LI0},ns≠[]->Ll ns∈ns
 |[],h=>Eb rfl h
 |[n],_=>by simp[Ll]
 |n::m::ns,_=>by
  have:=H8 (ns:=m::ns) (by simp);show min n (Ll (m::ns))∈n::m::ns;rcases Int.le_total n (Ll (m::ns)) with h|h
  ·rw[Int.min_eq_left h];simp
  ·rw[Int.min_eq_right h];exact Jj _ this
theorem G8:∀{ns:LI0}{x:Int},x∈ns->Ll ns<=x
 |[n],x,h=>by simp at h;subst h;exact Pq _
 |n::m::ns,x,h=>by
  show min n (Ll (m::ns))<=x;rcases Vd.mp h with rfl|h
  ·exact Int.min_le_left _ _
  ·exact Int.le_trans (Int.min_le_right _ _) (G8 h)
theorem ZhZ{m: Int}(h1:m∈ns)(h2:∀a∈ns,m<=a): m=Ll ns:=Int.le_antisymm (h2 _ (H8 (GN h1))) (G8 h1)
noncomputable abbrev PJ:=Eo fun ns=>if ns=[] then .bad else .ok (.int (Ll ns))
theorem ZeE(ha:Ce K EX Γ Γ' ta fa):DE K EX Γ Γ' .P (Zj (MY K) ta) (fun ρ=>(fa ρ).bind PJ):=by
 refine Sv (fun {H xs vs Q} h z e=>?_) (LJ fun ns e h=>by split at h<;>cases h) ha;obtain⟨ns,rfl,e'⟩:=Rr.ints e;by_cases hn:ns=[]
 ·rw[Da hn] at e';cases e'
 rw[Qa hn] at e';cases e';obtain⟨v,rfl,h1⟩:=Xi h;obtain⟨a,rfl,h2⟩:=OK h1;exact⟨rfl,fun q=>⟨a,ns,rfl,h2,List.length_pos_iff.mpr hn,fun m hm hl=>by rw[ZhZ hm hl];exact q _ rfl⟩⟩
noncomputable def Qp:LI5->Option (List Bool)
 |[]=>some []
 |.bl i::xs=>(Qp xs).map (i::·)
 |_::_=>none
@[simp] theorem ZcL(ns:List Bool):Qp (ns.map PV.bl)=some ns:=by
 induction ns with
 |nil=>rfl
 |cons n ns ih=>simp[Qp,ih]
theorem U7:∀{xs:LI5}{ns:List Bool},Qp xs=some ns->xs=ns.map PV.bl
 |[],_,h=>by cases h;rfl
 |.bl i::xs,ns,h=>by
  simp only[Qp] at h;cases e:Qp xs with
  |none=>rw[e] at h;cases h
  |some ms=>rw[e] at h;cases h;rw[U7 e];rfl
 |.non::_,_,h=>by cases h
 |.int _::_,_,h=>by cases h
 |.str _::_,_,h=>by cases h
 |.exc _::_,_,h=>by cases h
 |.exa _ _::_,_,h=>by cases h
 |.box _ _ _::_,_,h=>by cases h
 |.fz _::_,_,h=>by cases h
 |.any::_,_,h=>by cases h
 |.lst _::_,_,h=>by cases h
 |.tup _::_,_,h=>by cases h
theorem R9: ∀{ns:List Bool}{vs:List V},Reps K H S (ns.map PV.bl) vs->vs=ns.map V.bl
 |[],_,h=>h
 |n::ns,_,h=>by
  obtain⟨v,r,rfl,h1,h2⟩:=h;cases h1;rw[R9 h2];rfl
noncomputable def O3(xs:LI5):Rr PV:=match xs with
 |[.lst ys]=>match Qp ys with
  |some bs=>.ok (.bl (bs.all id))
  |none=>.bad
 |_=>.bad
theorem XG(ha:Ce K EX Γ Γ' ta fa):DE K EX Γ Γ' .P (Zj (fun xs H Q=>∃p,∃bs:List Bool,xs=[.ref p]/\Yb K H p (bs.map V.bl)/\Q (.bl (bs.all id)) H) ta) (fun ρ=>(fa ρ).bind O3):=by
 refine Sv (fun {H xs vs Q} h z e=>?_) (fun xs e h=>?_) ha
 ·unfold O3 at e
  split at e
  ·split at e
   ·rename_i bs hb
    cases e;rw[U7 hb] at h;obtain⟨v,rfl,a,ws,rfl,hn,hr⟩:=Xi h;rw[R9 hr] at hn;exact⟨rfl,fun q=>⟨a,bs,rfl,Nf (S:=fun _=>True) hn,q _ rfl⟩⟩
   ·cases e
  ·cases e
 ·unfold O3 at h
  split at h
  ·split at h<;>cases h
  ·cases h
end
theorem Il(h:n<=1000000): n<=Cc:=Se h (by decide)
def LX(K:ZlR)(H:Hp)(a:Ja)(vs:List V):Prop:=Rd H a (.lst vs)\/KL K a vs
noncomputable def DY(K:ZlR):R2:=fun x y H Q=>∃l b xs zs,x=.ref l/\y=.ref b/\LX K H l xs/\LX K H b zs/\xs.length+zs.length<=Cc/\∀p,H p=none->Q (.ref p) (upd H p (.lst (xs++zs)))
section
variable {X:Cx}{K:ZlR}
theorem XV{S: Ja->Prop}(h:(Rd H a (.lst vs)/\S a)\/KL K a vs): LX K H a vs:=h.elim (fun z=>.inl z.1) .inr
theorem Co(e:X.K=K:=by rfl):Xf X (Tq .Add) (DY K):=by
 subst e;intro Za s σ H x y v u Q I rx ry h;obtain⟨l,b,xs,zs,rfl,rfl,hH,hB,hz,q⟩:=h;cases rx;cases ry;obtain⟨its,r,pl,_⟩:=I.list (show Yb X.K H l xs from hH);obtain⟨its2,r2,pl2,_⟩:=I.list (show Yb X.K H b zs from hB);have hl:=r.length;have hl2:=r2.length;obtain⟨⟨cls,dd,data,sl⟩,ho,hc,n,hd⟩:=pl.isList;obtain⟨⟨cls2,dd2,data2,sl2⟩,ho2,hc2,n2,hd2⟩:=pl2.isList;simp only at hc hd hc2 hd2;subst hc hd hc2 hd2;have ea:its.toArray++its2.toArray=(its++its2).toArray:=by simp
 refine concat_meets ⟨_,ho,rfl⟩ ⟨_,ho2,rfl⟩ noFill_list_add seq_list_add PySem.F.slot_list_add PySem.F.entry_list_add (PySem.F.args_list_add_2 _ _) (list_addW l b its.toArray its2.toArray n n2 dd dd2 sl sl2 (by rw[Ve,Ve];lia)) ⟨ho,ho2, ?_⟩;rw[ea];exact⟨.ref _,_,I.lnew (t':=s.toks) (r.append r2) (by rw[Gj];lia),rfl,q _ I.fresh⟩
end
def Kc(H:Hp)(F:Nat->LI2)(H':Hp)(F':Nat->LI2):Prop:=∀a o,H a=some o->(∀i,a ∉ F i)->H' a=some o/\∀i,a ∉ F' i
theorem Kc.refl: Kc H F H F:=fun a o h n=>⟨h,n⟩
theorem Kc.trans(h1:Kc H F H1 F1)(h2:Kc H1 F1 H2 F2): Kc H F H2 F2:=fun a o h n=>let ⟨h3,n3⟩:=h1 a o h n;h2 a o h3 n3
theorem Kc.of(s:La H H')(f:∀i,∀a∈F' i,a∈F i): Kc H F H' F':=fun a o h n=>⟨s a o h,fun i z=>n i (f i a z)⟩
def Hn(K:ZlR)(S:Ja->Prop)(J:It)(xs:LI5)(H:Hp):Prop:=
 ∀i,(∀x,xs[i]?=some x->J.go i H/\∀v H',J.yld i H v H'->La H H'/\Ta K H' S x v)/\(xs[i]?=none->J.stop i H)
def DI(K:ZlR)(EX:PX->Hp->Prop)(Γ Γ':List Md)(wi:TI)(f:LI5->Rr LI5):Prop:=
 ∀(B:Ja->Prop) (H0 H:Hp) (σ:St) (ρ:LI5) (F:Nat->LI2) (R:LI2) (Q:It->Hp->Prop),Ag K B H0 H σ Γ ρ F R ->
  Dn (f ρ) (fun xs=>∀J H' F',La H H'->(∀i,∀a∈F' i,a∈F i)->Ag K B H0 H' σ Γ' ρ F' R->(∀H2 F2,Kc H' F' H2 F2->Hn K (fun a=>NO B F2 R a/\H' a≠none/\∀i,a ∉ F' i) J xs H2)->Q J H') (fun e=>∀H',La H0 H'->EX e H')->wi σ H Q
def K6(K:ZlR)(EX:PX->Hp->Prop)(Γ Γ':List Md)(wi:TI)(f:LI5->Rr LI5):Prop:=
 ∀(B:Ja->Prop) (H0 H:Hp) (σ:St) (ρ:LI5) (F:Nat->LI2) (R:LI2) (Q:It->Hp->Prop),Ag K B H0 H σ Γ ρ F R ->
  Dn (f ρ) (fun xs=>∀J H' F',La H H'->(∀i,∀a∈F' i,a∈F i)->Ag K B H0 H' σ Γ' ρ F' R->(∀H2 F2,La H' H2->(∀i,∀a∈F2 i,a∈F' i)->Hn K (fun a=>NO B F2 R a/\H' a≠none/\∀i,a ∉ F' i) J xs H2)->Q J H') (fun e=>∀H',La H0 H'->EX e H')->wi σ H Q
theorem DI.c{K:ZlR}{EX:PX->Hp->Prop}{Γ Γ':List Md}{wi:TI}{f:LI5->Rr LI5}(h:DI K EX Γ Γ' wi f):K6 K EX Γ Γ' wi f:=fun B H0 H σ ρ F R Q A d =>
 h B H0 H σ ρ F R Q A (d.imp (fun xs _ d J H' F' s1 f1 A1 it=>d J H' F' s1 f1 A1 fun H2 F2 s2 f2=>it H2 F2 (Kc.of s2 f2)) fun e q=>q)
theorem Hn.flat{K:ZlR}{S S':Ja->Prop}{J:It}{xs:LI5}{H:Hp}(f:PV.flats xs=true)(h:Hn K S J xs H):Hn K S' J xs H:=fun i=>by
 refine⟨fun x hx=>?_,(h i).2⟩;obtain⟨h1,h2⟩:=(h i).1 x hx;have fx:∀(xs:LI5) (i:Nat),PV.flats xs=true->xs[i]?=some x->x.flat=true:=by
  intro xs
  induction xs with
  |nil=>intro i _ h;simp at h
  |cons y ys ih =>
   intro i hf hx;simp only[PV.flats,Bool.and_eq_true] at hf;cases i with
   |zero=>simp at hx;rw[<- hx];exact hf.1
   |succ i=>exact ih i hf.2 (by simpa using hx)
 exact⟨h1,fun v H' y=>⟨(h2 v H' y).1,(h2 v H' y).2.flatS (fx xs i f hx)⟩⟩
section
variable {K:ZlR}{B:Ja->Prop}{EX:PX->Hp->Prop}{H0 H H':Hp}{σ:St}{Γ Γ' Γ1 Γ2 Γ3:List Md}{ρ:LI5}{F F':Nat->LI2}{R:LI2}{k:Kd}{x:PV}{v:V}{te:TE}{ta:TA}{f:LI5->Rr PV}{fa:LI5->Rr LI5}
theorem Ta.frm(h:Kc H F H2 F2)(A:Ag K B H0 H σ Γ ρ F R)(r:Ta K H (NO B F R) x v): Ta K H2 (fun a=>NO B F2 R a/\H a≠none/\∀i,a ∉ F i) x v:=by
 refine Ta.mono (fun a us s r=>?_) (fun a us r=>?_) r
 ·rcases r with r|⟨o,r⟩
  ·obtain⟨h1,h2⟩:=h a _ r s.2.2;exact⟨.inl h1,⟨s.1,s.2.1,h2⟩,by rw[r];simp,s.2.2⟩
  ·obtain⟨h1,h2⟩:=h a _ r s.2.2;exact⟨.inr ⟨o,h1⟩,⟨s.1,s.2.1,h2⟩,by rw[r];simp,s.2.2⟩
 ·refine⟨(h a _ r.1 fun i z=>?_).1,r.2⟩
  obtain⟨vs,q⟩:=A.live i a z;exact NI vs.2 r.2 (by rw[r.1] at q;exact Option.some.inj q)
noncomputable def Cj(lo:Int)(n:Nat):LI5:=(List.range n).map fun(k:Nat)=>PV.int (lo+(k:Int))
theorem YU{lo: Int}: Hn K S (O0 lo n) (Cj lo n) H:=by
 intro i;constructor
 ·intro x hx
  unfold Cj at hx;rw[Dd] at hx;by_cases h:i<n
  ·rw[Rq h] at hx
   cases hx;exact⟨h,fun v H' ⟨e1,e2⟩=>by subst e1 e2;exact⟨La.refl _,rfl⟩⟩
  ·rw[Bi (by simpa using h)] at hx;cases hx
 ·intro hx
  unfold Cj at hx;have:=Ts.mp hx;show n<=i;simpa using this
noncomputable def Mr(j:Int):Bool:=decide (-(2^62)<=j/\j<2^62)
noncomputable def B9(xs:LI5):Rr LI5:=match xs with
 |[.int j]=>if Mr j=true then .ok (Cj 0 j.toNat) else .bad
 |_=>.bad
noncomputable def C9(xs:LI5):Rr LI5:=match xs with
 |[.int i,.int j]=>if (Mr i&&Mr j)=true then .ok (Cj i (j-i).toNat) else .bad
 |_=>.bad
theorem Km(ha:Ce K EX Γ Γ' ta fa):DI K EX Γ Γ' (GU ta) (fun ρ=>(fa ρ).bind B9):=fun B H0 H σ ρ F R Q A d=>by
 refine ha B H0 H σ ρ F R _ A (d.bind.imp (fun xs _ d vs H1 F1 s1 f1 p1 A1=>?_) fun e q=>q);unfold B9 at d
 split at d
 ·rename_i j _
  obtain⟨v,rfl,h1⟩:=Xi p1;cases h1;by_cases h:Mr j=true
  ·rw[Da h] at d
   have h':=Ei h;exact⟨j,rfl,h'.1,h'.2,d _ H1 F1 s1 f1 A1 fun H2 F2 _=>YU⟩
  ·rw[Qa h] at d;exact d.elim
 ·exact d.elim
theorem VH(ha:Ce K EX Γ Γ' ta fa):DI K EX Γ Γ' (HU ta) (fun ρ=>(fa ρ).bind C9):=fun B H0 H σ ρ F R Q A d=>by
 refine ha B H0 H σ ρ F R _ A (d.bind.imp (fun xs _ d vs H1 F1 s1 f1 p1 A1=>?_) fun e q=>q);unfold C9 at d
 split at d
 ·rename_i i j _
  obtain⟨v,w,rfl,h1,h2⟩:=SK p1;cases h1;cases h2;by_cases h:(Mr i&&Mr j)=true
  ·rw[Da h] at d
   rw[Bool.and_eq_true] at h;have h':=Ei h.1;have h'':=Ei h.2;exact⟨i,j,rfl,⟨h'.1,h'.2,h''.1,h''.2⟩,d _ H1 F1 s1 f1 A1 fun H2 F2 _=>YU⟩
  ·rw[Qa h] at d;exact d.elim
 ·exact d.elim
noncomputable def asL(x:PV):Rr LI5:=match x with
 |.lst xs=>.ok xs
 |_=>.bad
theorem XU(h:Ta K H S (.lst xs) (.ref a)): Hn K S (KE K a) xs H:=by
 obtain⟨a',vs,e,hn,hr⟩:=h;cases e;intro i;constructor
 ·intro x hx
  obtain⟨u,e1,e2⟩:=hr.get hx;refine⟨⟨vs,u,Nf hn,e1⟩,fun v H' ⟨e,y⟩=>?_⟩;subst e;have:=y vs (Nf hn);rw[e1] at this;cases this;exact⟨La.refl _,e2⟩
 ·intro hx
  exact⟨vs,Nf hn,by rw[hr.length];exact Ts.mp hx⟩
theorem Hm(he:DE K EX Γ Γ' .Z te f):DI K EX Γ Γ' (X2 K te) (fun ρ=>(f ρ).bind asL):=fun B H0 H σ ρ F R Q A d=>by
 refine he B H0 H σ ρ F R _ A (d.bind.imp (fun x _ d v H1 s1 r1=>?_) fun e q=>q);obtain⟨F1,f1,p1,A1⟩:=r1;cases x with
 |lst xs =>
  obtain⟨a,vs,rfl,hn,hr⟩:=id p1;exact⟨a,rfl,⟨vs,Nf hn⟩,d _ H1 F1 s1 f1 A1 fun H2 F2 h=>XU (p1.frm h A1)⟩
 |_=>exact d.elim
noncomputable def Z7(x:PV):Rr LI5:=match x with
 |.lst xs=>if PV.flats xs=true then .ok xs else .bad
 |_=>.bad
theorem ZeS(he:DE K EX Γ Γ' .A te f):K6 K EX Γ Γ' (X2 K te) (fun ρ=>(f ρ).bind Z7):=fun B H0 H σ ρ F R Q A d=>by
 refine he B H0 H σ ρ F R _ A (d.bind.imp (fun x _ d v H1 s1 r1=>?_) fun e q=>q);obtain⟨F1,f1,p1,A1⟩:=r1;cases x with
 |lst xs =>
  unfold Z7 at d;by_cases hf:PV.flats xs=true
  ·simp only[hf,if_true] at d
   obtain⟨a,vs,rfl,hn,hr⟩:=id p1;exact⟨a,rfl,⟨vs,Nf (S:=fun _=>True) hn⟩,d _ H1 F1 s1 f1 A1 fun H2 F2 s2 _=>Hn.flat hf (XU (p1.same s2))⟩
  ·simp only[hf] at d;exact d.elim
 |_=>exact d.elim
theorem EH:∀{ns:LI0},PV.flats (ns.map PV.int)=true
 |[]=>rfl
 |n::ns=>by simp only[Ed,PV.flats,PV.flat,EH,Bool.and_self]
theorem Zcc{ns:LI0}:Z7 (.lst (ns.map PV.int))=.ok (ns.map PV.int):=by unfold Z7;simp only[EH,if_true]
def DO(K:ZlR)(EX:PX->Hp->Prop)(Γ Γ':List Md)(t:TO)(f:LI5->Rr (Option Int)):Prop:=
 ∀(B:Ja->Prop) (H0 H:Hp) (σ:St) (ρ:LI5) (F:Nat->LI2) (R:LI2) (Q:Option Int->Hp->Prop),Ag K B H0 H σ Γ ρ F R ->
  Dn (f ρ) (fun o=>∀H' F',La H H'->(∀i,∀a∈F' i,a∈F i)->Ag K B H0 H' σ Γ' ρ F' R->Q o H') (fun e=>∀H',La H0 H'->EX e H')->t σ H Q
theorem Jw:DO K EX Γ Γ Za0 (fun _=>.ok none):=fun B H0 H σ ρ F R Q A d=>d H F (La.refl H) (fun _ _ h=>h) A
noncomputable def asI(x:PV):Rr Int:=match x with
 |.int i=>.ok i
 |_=>.bad
theorem Dn.asI(d:Dn (asI x) ok ex): ∃b,x=.int b/\ok b:=by
 cases x with
 |int b=>exact⟨b,rfl,d⟩
 |_=>exact d.elim
theorem Vw(he:DE K EX Γ Γ' .A te f):DO K EX Γ Γ' (Za4 te) (fun ρ=>(f ρ).bind fun x=>(asI x).bind fun i=>.ok (some i)):=fun B H0 H σ ρ F R Q A d=>by
 refine he B H0 H σ ρ F R _ A (d.bind.imp (fun x _ d v H1 s1 r1=>?_) fun e q=>q);obtain⟨i,rfl,d⟩:=d.bind.asI;obtain⟨F1,f1,p1,A1⟩:=r1;cases p1;exact⟨i,rfl,d H1 F1 s1 f1 A1⟩
noncomputable def Cp{α:Type}(xs:List α)(lo hi:Option Int):List α:=(xs.drop (HT.Gg xs.length 0 lo)).take (HT.Gg xs.length xs.length hi-HT.Gg xs.length 0 lo)
theorem Reps.cut(h:Reps K H S xs vs)(lo hi:Option Int): Reps K H S (Cp xs lo hi) (Nv vs lo hi):=by
 unfold Cp Nv;rw[h.length];exact(h.drop _).take _
noncomputable def newF(xs:LI5):Rr PV:=if (PV.flats xs&&decide (xs.length<=1000000))=true then .ok (.lst xs) else .bad
theorem Dn.newF(d:Dn (newF xs) ok ex): PV.flats xs=true/\xs.length<=1000000/\ok (.lst xs):=by
 unfold L2.newF at d;by_cases h:(PV.flats xs&&decide (xs.length<=1000000))=true
 ·rw[Da h] at d
  rw[Bool.and_eq_true] at h;exact⟨h.1,Ei h.2,d⟩
 ·rw[Qa h] at d;exact d.elim
theorem Yv(he:DE K EX Γ Γ1 .A te f)(hl:DO K EX Γ1 Γ2 tl fl)(hh:DO K EX Γ2 Γ3 th fh):
  DE K EX Γ Γ3 .F (tSl (LK K) te tl th) (fun ρ=>(f ρ).bind fun x=>(fl ρ).bind fun lo=>(fh ρ).bind fun hi=>(asL x).bind fun xs=>newF (Cp xs lo hi)):=fun B H0 H σ ρ F R Q A d=>by
 refine he B H0 H σ ρ F R _ A (d.bind.imp (fun x _ d v H1 s1 r1=>?_) fun e q=>q);obtain⟨F1,f1,p1,A1⟩:=r1;refine hl B H0 H1 σ ρ F1 R _ A1 (d.bind.imp (fun lo _ d H2 F2 s2 f2 A2=>?_) fun e q=>q);refine hh B H0 H2 σ ρ F2 R _ A2 (d.bind.imp (fun hi _ d H3 F3 s3 f3 A3=>?_) fun e q=>q);cases x with
 |lst xs =>
  obtain⟨h1,h2,d⟩:=Dn.newF d;obtain⟨a,vs,rfl,hn,hr⟩:=(p1.same s2).same s3;refine⟨a,vs,rfl,Nf (S:=fun _=>True) hn,fun p hp=>?_⟩;exact d _ _ (((s1.trans s2).trans s3).trans (La.new hp)) (Lc.newP ((s1.trans s2).trans s3) (fun i a h=>f1 i a (f2 i a (f3 i a h))) (hr.cut lo hi) h1 A3 hp)
 |_=>exact d.elim
theorem Wn{fb': LI5->Rr PV}(ha:DE K EX Γ Γ1 .A te f)(hb:DE K EX Γ1 Γ2 .A tb' fb'):
  DE K EX Γ Γ2 .F (Pf (DY K) te tb') (fun ρ=>(f ρ).bind fun x=>(fb' ρ).bind fun y=>(asL x).bind fun xs=>(asL y).bind fun ys=>newF (xs++ys)):=fun B H0 H σ ρ F R Q A d=>by
 refine Nu ha hb A d.bind2 fun x y v w H' F' d s hF p1 p2 A'=>?_;cases x with
 |lst xs =>
  cases y with
  |lst ys =>
   obtain⟨h1,h2,d⟩:=Dn.newF d;obtain⟨a,vs,rfl,hn,hr⟩:=p1;obtain⟨b,ws,rfl,hn',hr'⟩:=p2;refine⟨a,b,vs,ws,rfl,rfl,XV (S:=fun _=>True) hn,XV (S:=fun _=>True) hn', ?_,fun p hp=>?_⟩
   ·rw[hr.length,hr'.length,<- Gj];exact Il h2
   ·exact d _ _ (s.trans (La.new hp)) (Lc.newP s hF (hr.append hr') h1 A' hp)
  |_=>exact d.elim
 |_=>exact d.elim
noncomputable def Uq(xs:LI5):Rr PV:=match xs with
 |[.lst ys]=>newF ys
 |[.tup ys]=>newF ys
 |_=>.bad
theorem U2(ha:Ce K EX Γ Γ' ta fa):DE K EX Γ Γ' .F (Zj (fun xs H Q=>∃p ys,xs=[.ref p]/\(Yb K H p ys\/Af K H p ys)/\∀l,H l=none->Q (.ref l) (upd H l (.lst ys))) ta) (fun ρ=>(fa ρ).bind Uq):=fun B H0 H σ ρ F R Q A d=>by
 refine ha B H0 H σ ρ F R _ A (d.bind.imp (fun xs _ d vs H1 F1 s1 f1 p1 A1=>?_) fun e q=>q);unfold Uq at d
 split at d
 ·obtain⟨h1,h2,d⟩:=Dn.newF d
  obtain⟨v,rfl,a,ws,rfl,hn,hr⟩:=Xi p1;exact⟨a,ws,rfl,.inl (Nf (S:=fun _=>True) hn),fun l hl=>d _ _ (s1.trans (La.new hl)) (Lc.newP s1 f1 hr h1 A1 hl)⟩
 ·obtain⟨h1,h2,d⟩:=Dn.newF d
  obtain⟨v,rfl,a,ws,rfl,hn,hr⟩:=Xi p1;exact⟨a,ws,rfl,.inr hn.sqT,fun l hl=>d _ _ (s1.trans (La.new hl)) (Lc.newP s1 f1 hr h1 A1 hl)⟩
 ·exact d.elim
noncomputable def Oo:PV->String
 |.non => "NoneType"
 |.bl _ => "bool"
 |.int _ => "int"
 |.str _ => "str"
 |.lst _ => "list"
 |.tup _ => "tuple"
 |.exc _ => "?"
 |.exa _ _ => "?"
 |.box _ (.dk _) _ => "dict"
 |.box _ (.dt _) _ => "dict"
 |.box _ (.ob _ _) _ => "?"
 |.box _ .jk _ => "?"
 |.box _ .ls _ => "?"
 |.fz _ => "?"
 |.any => "?"
noncomputable def PV.isX:PV->Bool
 |.exc _=>true
 |.exa _ _=>true
 |.box _ _ _=>true
 |.fz _=>true
 |.any=>true
 |_=>false
noncomputable def Op(t n:String):Bool:=t==n || (t == "bool" && n == "int")
noncomputable def GM(n:String):Bool:=n == "int" || n == "bool" || n == "str" || n == "list" || n == "tuple"
theorem Zhf(K:ZlR)(h:GM n=true)(x:PV)(hx:x.isX=false): PySem.W.kitOne K (.type (Oo x)) (.type n)=some (Op (Oo x) n):=by
 simp only[GM,Bool.or_eq_true,beq_iff_eq] at h;rcases h with (((rfl|rfl)|rfl)|rfl)|rfl<;>cases x<;>first|rfl|cases hx
def HY(K:ZlR)(n:String):List V->Hp->VK->Prop:=fun xs H Q=>∃x p,xs=[x,.ty n]/\Ta K H (fun _=>True) p x/\p.isX=false/\Q (.bl (Op (Oo p) n)) H
theorem Q7(hn:GM n=true)(e:X.K=K:=by rfl): Og X (.builtin "isinstance") (HY K n):=by
 subst e;intro Za s σ H xs us Q I r h;obtain⟨x,p,rfl,hp,hx,q⟩:=h;obtain⟨u,w',rfl,rx,rn⟩:=NM r;cases rn;have e:=Zhf X.K hn p hx;have fin:∀tk,EP X Za σ Q (.bool (Op (Oo p) n)) { s with toks:=tk }:=fun tk=>⟨.bl _,H,I.tok _,rfl,q⟩
 cases p with
 |non=>cases hp;cases rx;exact PySem.W.kia_one PySem.W.kitx_none I.kIn True.intro e (fun z=>nomatch z) fin
 |bl y=>cases hp;cases rx;exact PySem.W.kia_one PySem.W.kitx_bool I.kIn True.intro e (fun z=>nomatch z) fin
 |int i=>cases hp;obtain⟨t,rfl⟩:=rx;exact PySem.W.kia_one PySem.W.kitx_int I.kIn True.intro e (fun z=>nomatch z) fin
 |str y=>cases hp;obtain⟨t,rfl⟩:=rx;exact PySem.W.kia_one PySem.W.kitx_str I.kIn True.intro e (fun z=>nomatch z) fin
 |exc y=>cases hx
 |exa y i=>cases hx
 |box p s ps=>cases hx
 |fz ps=>cases hx
 |any=>cases hx
 |lst ps =>
  obtain⟨a,vs,rfl,hn',hr⟩:=hp;cases rx;obtain⟨its,_,pl,_⟩:=I.list (Nf (S:=fun _=>True) hn');obtain⟨o,h1,h2,_⟩:=pl.isList;exact PySem.W.kia_one PySem.W.kitx_list I.kIn ⟨o,h1,h2⟩ e (fun z=>nomatch z) fin
 |tup ps =>
  obtain⟨a,vs,rfl,hn',hr⟩:=hp;cases rx;obtain⟨its,_,⟨o,h1,h2,_⟩,_⟩:=I.tuple hn'.sqT;exact PySem.W.kia_one PySem.W.kitx_tuple I.kIn ⟨o,h1,h2⟩ e (fun z=>nomatch z) fin
noncomputable def J9(n:String)(x:PV):Rr PV:=if x.isX=true then .bad else .ok (.bl (Op (Oo x) n))
theorem G7(he:DE K EX Γ Γ' .A te f): DE K EX Γ Γ' .P (Zj (HY K n) (Dk te (Dk (tC (.ty n)) Sl))) (fun ρ=>(f ρ).bind (J9 n)):=fun B H0 H σ ρ F R Q A d=>by
 refine he B H0 H σ ρ F R _ A (d.bind.imp (fun x _ d v H1 s1 r1=>?_) fun e q=>q);obtain⟨F1,f1,p1,A1⟩:=r1;unfold J9 at d;cases hx:x.isX with
 |true=>rw[hx] at d;exact d.elim
 |false=>rw[hx] at d;exact⟨v,x,rfl,p1,hx,d _ H1 s1 ⟨F1,f1,rfl,rfl,A1⟩⟩
def Nh(fa:LI5->Rr LI5)(n:Nat):Prop:=∀ρ xs,fa ρ=.ok xs->xs.length=n
theorem Ug:Nh (fun _=>.ok []) 0:=fun ρ xs h=>by cases h;rfl
theorem Yd(h:Nh fa n): Nh (fun ρ=>(f ρ).bind fun x=>(fa ρ).bind fun xs=>.ok (x::xs)) (n+1):=fun ρ xs e=>by
 dsimp only at e;cases h1:f ρ with
 |ok x =>
  rw[h1] at e;cases h2:fa ρ with
  |ok ys=>simp only[Rr.bind_ok,h2] at e;cases e;simp[h ρ ys h2]
  |exc q=>simp only[Rr.bind_ok,h2,Rr.bind_exc] at e;cases e
  |bad=>simp only[Rr.bind_ok,h2,Rr.bind_bad] at e;cases e
 |exc q=>rw[h1] at e;cases e
 |bad=>rw[h1] at e;cases e
def RE(K:ZlR)(H:Hp)(a:Ja)(xs:LI5):Prop:=PV.flats xs=true/\∃vs,H a=some (.lst vs)/\Reps K H (fun _=>True) xs vs
def LsR(K:ZlR)(H:Hp)(x:PV)(v:V)(H':Hp):Prop:=∃y a0 x0 a1 x1 a2 x2,x=.tup [y,.box (some a0) .ls x0,.box (some a1) .ls x1,.box (some a2) .ls x2]/\y.flat=true/\Ta K H' (fun _=>True) y v /\
 RE K H' a0 x0/\RE K H' a1 x1/\RE K H' a2 x2/\H a0=none/\H a1=none/\H a2=none
def Ul(K:ZlR)(B:Ja->Prop)(H:Hp)(k:Kd)(x:PV)(v:V)(H':Hp):Prop:=match k with
 |.P=>x.flat=true/\Ta K H' (fun _=>True) x v
 |.F=>∃G,Dc K H' x v G/\∀a∈G,H a=none
 |.N=>∃y a s xs G1 G2,x=.tup [y,.box (some a) s xs]/\Dc K H' y v G1/\Dc K H' (.box (some a) s xs) (.ref a) G2/\(∀b∈G1,b ∉ G2)/\(∀b∈G1,H b=none)/\∀b∈G2,H b=none
 |.M=>LsR K H x v H'
 |_=>Ta K H' (fun a=>B a\/H a=none) x v
noncomputable def Tb(K:ZlR)(n:Nat)(k:Kd)(W:PX->XK->Hp->Prop)(m:LI5->Rr PV):Sp:=fun vs H Q E=>∃B xs,Reps K H B xs vs/\xs.length=n /\
 Dn (m xs) (fun x=>∀v H',La H H'->Ul K B H k x v H'->Q v H') (fun e=>∀H',La H H'->W e E H')
def W0:PX->XK->Hp->Prop:=fun _ _ _=>False
def X0:PX->Hp->Prop:=fun _ _=>False
section
variable {n:Nat}{W:PX->XK->Hp->Prop}{m:LI5->Rr PV}{E:XK}
theorem YR(ht:∀σ H Q,(ta σ H fun vs H1=>Tb K n .P W m vs H1 Q E)->t σ H Q)(hW:∀e H',EX e H'->W e E H')(hn:Nh fa n)(ha:Ce K EX Γ Γ' ta fa): DE K EX Γ Γ' .P t (fun ρ=>(fa ρ).bind m):=fun B H0 H σ ρ F R Q A d=>by
 refine ht _ _ _ (ha B H0 H σ ρ F R _ A (d.bind.imp (fun xs hx d vs H1 F1 s1 f1 p1 A1=>?_) fun e q=>q));exact⟨fun _=>True,xs,p1,hn ρ xs hx,d.imp (fun x _ d v H2 s2 r=>d v H2 (s1.trans s2) ⟨F1,f1,r.1,r.2,A1.grow s2⟩) fun e q H2 s2=>hW e H2 (q H2 (A1.same.trans s2))⟩
theorem WR(ht:∀σ H Q,(ta σ H fun vs H1=>Tb K n .F W m vs H1 Q E)->t σ H Q)(hW:∀e H',EX e H'->W e E H')(hn:Nh fa n)(ha:Ce K EX Γ Γ' ta fa): DE K EX Γ Γ' .F t (fun ρ=>(fa ρ).bind m):=fun B H0 H σ ρ F R Q A d=>by
 refine ht _ _ _ (ha B H0 H σ ρ F R _ A (d.bind.imp (fun xs hx d vs H1 F1 s1 f1 p1 A1=>?_) fun e q=>q));refine⟨fun _=>True,xs,p1,hn ρ xs hx,d.imp (fun x _ d v H2 s2 r=>?_) fun e q H2 s2=>hW e H2 (q H2 (A1.same.trans s2))⟩;obtain⟨G,r1,r2⟩:=r;exact d v H2 (s1.trans s2) ⟨F1,f1,G,r1,fun a ha=>⟨(A1.fresh (r2 a ha)).1,.inl (s1.free (r2 a ha))⟩,A1.more s2 r2 r1.alive⟩
theorem Ze0(ht:∀σ H Q,(ta σ H fun vs H1=>Tb K n .Z W m vs H1 Q E)->t σ H Q)(hW:∀e H',EX e H'->W e E H')(hn:Nh fa n)(ha:Av K EX Γ Γ' ta fa): DE K EX Γ Γ' .Z t (fun ρ=>(fa ρ).bind m):=fun B H0 H σ ρ F R Q A d=>by
 refine ht _ _ _ (ha B H0 H σ ρ F R _ A (d.bind.imp (fun xs hx d vs H1 F1 s1 f1 p1 A1=>?_) fun e q=>q));refine⟨NO B F1 R,xs,p1,hn ρ xs hx,d.imp (fun x _ d v H2 s2 r=>?_) fun e q H2 s2=>hW e H2 (q H2 (A1.same.trans s2))⟩;refine d v H2 (s1.trans s2) ⟨F1,f1,Ta.mono (fun a us s r=>⟨r, ?_⟩) (fun a us r=>r) r,A1.grow s2⟩;rcases s with s|s
 ·exact s
 ·obtain⟨h1,h2,h3,h4⟩:=A1.fresh s
  exact⟨h4,h1,h2⟩
end
end
noncomputable def Xh{α β:Type}(f:α->Rr β):List α->Rr (List β)
 |[]=>.ok []
 |x::xs=>(f x).bind fun y=>(Xh f xs).bind fun ys=>.ok (y::ys)
noncomputable def lenM(xs:LI5):Rr Unit:=if xs.length<=1000000 then .ok () else .bad
theorem Dn.lenM(d:Dn (lenM xs) ok ex): xs.length<=1000000/\ok ():=by
 unfold L2.lenM at d;by_cases h:xs.length<=1000000
 ·rw[Da h] at d;exact⟨h,d⟩
 ·rw[Qa h] at d;exact d.elim
theorem Rr.assoc{r: Rr α}: (r.bind f).bind g=r.bind fun a=>(f a).bind g:=by cases r<;>rfl
section
variable {K:ZlR}{B:Ja->Prop}{H0 H:Hp}{σ:St}{Γ:List Md}{ρ:LI5}{F:Nat->LI2}{R:LI2}{x:PV}{v:V}
theorem Ag.outF(A:Ag K B H0 H σ Γ ρ F R)(h:Γ.length<=i): F i=[]:=by
 have:=A.slot i;rw[Cb,Bi h] at this;exact this
theorem Ag.push(A:Ag K B H0 H σ Γ ρ F R)(h:Ta K H (NO B F R) x v):Ag K B H0 H (σ++[some v]) (Γ++[.S]) (ρ++[x]) F R:=by
 refine⟨A.same,A.own,A.young,A.youngR,A.live,A.liveR,A.disj,A.disjR,by simp[A.lenS],by simp[A.lenR],fun i=>?_⟩;by_cases h1:i<Γ.length
 ·have:=A.slot i
  rw[Cb,Cb,Lh h1,Lh (by rw[A.lenR];exact h1),Lh (by rw[A.lenS];exact h1),<- Cb,<- Cb];exact this
 ·by_cases h2:i=Γ.length
  ·subst h2
   rw[Cb,Cb,Lg (Db _),Lg (by rw[A.lenR];exact Db _),Lg (by rw[A.lenS];exact Db _),A.lenR,A.lenS];simp only[V6,YC,U6];exact⟨A.outF (Db _),v,rfl,h⟩
  ·rw[Cb,Bi (by simp;lia)]
   exact A.outF (by lia)
end
inductive RS where
 |next (ρ:LI5)|ret (x:PV)|brk (ρ:LI5)|cont (ρ:LI5)|exc (e:PX)|bad
noncomputable def Rr.thenS{α:Type}:Rr α->(α->RS)->RS
 |.ok a,f=>f a
 |.exc e,_=>.exc e
 |.bad,_=>.bad
noncomputable def RS.seq:RS->(LI5->RS)->RS
 |.next ρ,f=>f ρ
 |r,_=>r
@[simp] theorem Rr.thenS_ok: (Rr.ok a).thenS f=f a:=rfl
@[simp] theorem Rr.thenS_exc: (Rr.exc e:Rr α).thenS f=.exc e:=rfl
@[simp] theorem RS.seq_next: (RS.next ρ).seq f=f ρ:=rfl
@[simp] theorem RS.seq_ret: (RS.ret x).seq f=.ret x:=rfl
@[simp] theorem RS.seq_exc: (RS.exc e).seq f=.exc e:=rfl
structure W6 where
 n:List Md
 b:List Md
 c:List Md
 r:Kd
def Si(K:ZlR)(B:Ja->Prop)(EX:PX->Hp->Prop)(Y:W6)(H0 H:Hp)(F:Nat->LI2)(D:Jm)(r:RS):Prop:=match r with
 |.next ρ=>∀σ' H' F',Kc H F H' F'->Ag K B H0 H' σ' Y.n ρ F' []->D.nx σ' H'
 |.brk ρ=>∀σ' H' F',Kc H F H' F'->Ag K B H0 H' σ' Y.b ρ F' []->D.bk σ' H'
 |.cont ρ=>∀σ' H' F',Kc H F H' F'->Ag K B H0 H' σ' Y.c ρ F' []->D.ct σ' H'
 |.ret x=>∀v H',La H0 H'->Ul K B H0 Y.r x v H'->D.rt v H'
 |.exc e=>∀H',La H0 H'->EX e H'
 |.bad=>False
def DS(K:ZlR)(EX:PX->Hp->Prop)(Γ:List Md)(Y:W6)(t:TS)(g:LI5->RS):Prop:=
 ∀(B:Ja->Prop) (H0 H:Hp) (σ:St) (ρ:LI5) (F:Nat->LI2) (D:Jm),Ag K B H0 H σ Γ ρ F []->Si K B EX Y H0 H F D (g ρ)->t D σ H
section
variable {K:ZlR}{B:Ja->Prop}{EX:PX->Hp->Prop}{H0 H H':Hp}{σ:St}{Γ Γ' Γ1 Γ2 Γ3:List Md}{ρ:LI5}{F F':Nat->LI2}{R:LI2}{k:Kd}{x:PV}{v:V}{te:TE}{f fc:LI5->Rr PV}{t u:TS}{g g':LI5->RS}{Y:W6}{D:Jm}
theorem Si.shift(fr:Kc H F H1 F1)(h:Si K B EX Y H0 H F D r): Si K B EX Y H0 H1 F1 D r:=by
 cases r with
 |next ρ=>exact fun σ' H' F' fr' A=>h σ' H' F' (fr.trans fr') A
 |brk ρ=>exact fun σ' H' F' fr' A=>h σ' H' F' (fr.trans fr') A
 |cont ρ=>exact fun σ' H' F' fr' A=>h σ' H' F' (fr.trans fr') A
 |ret x=>exact h
 |exc e=>exact h
 |bad=>exact h
theorem Si.thenS{α:Type}{r:Rr α}{f:α->RS}(h:Si K B EX Y H0 H F D (r.thenS f)):Dn r (fun a=>Si K B EX Y H0 H F D (f a)) (fun e=>∀H',La H0 H'->EX e H'):=by
 cases r with
 |ok a=>exact h
 |exc e=>exact h
 |bad=>exact h
theorem Qe:DS K EX Γ ⟨Γ,Γ1,Γ2,k⟩ Zaz (fun ρ=>.next ρ):=fun B H0 H σ ρ F D A d=>d σ H F Kc.refl A
theorem Wa(h1:DS K EX Γ ⟨Γm,Y.b,Y.c,Y.r⟩ t g)(h2:DS K EX Γm Y u g'): DS K EX Γ Y (Za6 t u) (fun ρ=>(g ρ).seq g'):=fun B H0 H σ ρ F D A d=>by
 refine h1 B H0 H σ ρ F _ A ?_;dsimp only at d;cases e:g ρ with
 |next ρ1 =>
  rw[e] at d;exact fun σ' H' F' fr A'=>h2 B H0 H' σ' ρ1 F' D A' (Si.shift fr d)
 |brk ρ1=>rw[e] at d;exact d
 |cont ρ1=>rw[e] at d;exact d
 |ret x=>rw[e] at d;exact d
 |exc q=>rw[e] at d;exact d
 |bad=>rw[e] at d;exact d
noncomputable def Uu(m m':Md):Bool:=m==m' || m'==.U || (m'==.S&&m != .U) || (m'==.O&&m==.P)
noncomputable def Zi:List Md->List Md->Bool
 |[],[]=>true
 |m::ms,m'::ms'=>Uu m m'&&Zi ms ms'
 |_,_=>false
theorem BW:∀{Γ Γ':List Md},Zi Γ Γ'=true->Γ.length=Γ'.length/\∀i,Uu (Γ.getD i .U) (Γ'.getD i .U)=true
 |[],[],_=>⟨rfl,fun i=>by simp[Uu]⟩
 |m::ms,m'::ms',h=>by
  simp only[Zi,Bool.and_eq_true] at h;obtain⟨h1,h2⟩:=BW h.2;refine⟨by simp[h1],fun i=>?_⟩;cases i with
  |zero=>simpa using h.1
  |succ i=>simpa using h2 i
 |[],_::_,h=>by cases h
 |_::_,[],h=>by cases h
theorem Ag.weak(A:Ag K B H0 H σ Γ ρ F R)(h:Zi Γ Γ'=true):∃F',(∀i,∀a∈F' i,a∈F i)/\Ag K B H0 H σ Γ' ρ F' R:=by
 obtain⟨hl,hm⟩:=BW h
 let F':Nat->LI2:=fun i=>if Γ.getD i .U=Γ'.getD i .U then F i else []
 have hF:∀i,∀a∈F' i,a∈F i:=fun i a ha=>by
  by_cases q:Γ.getD i .U=Γ'.getD i .U
  ·simp only[F',Da q] at ha;exact ha
  ·simp only[F',Qa q] at ha;simp at ha
 have up:∀{a},NO B F R a->NO B F' R a:=fun {a} s=>⟨s.1,s.2.1,fun j z=>s.2.2 j (hF j a z)⟩
 refine⟨F',hF,A.same,A.own,fun i a ha=>A.young i a (hF i a ha),A.youngR,fun i a ha=>A.live i a (hF i a ha),A.liveR,fun i j hij a ha z=>A.disj i j hij a (hF i a ha) (hF j a z),fun i a ha=>A.disjR i a (hF i a ha),by rw[A.lenS,hl],by rw[A.lenR,hl],fun i=>?_⟩;have sl:=A.slot i;have hmi:=hm i;by_cases q:Γ.getD i .U=Γ'.getD i .U
 ·simp only[F',Da q]
  rw[<- q];exact sl.mono (fun a vs s r=>⟨r,up s⟩) (fun a vs r=>r) fun a ha vs r=>r
 ·simp only[F',Qa q]
  simp only[Uu,Bool.or_eq_true,beq_iff_eq,Bool.and_eq_true,bne_iff_ne] at hmi;rcases hmi with ((z|z)|z)|z
  ·exact Eb z q
  ·rw[z];exact rfl
  rotate_left
  ·rw[z.1]
   rw[z.2] at sl;obtain⟨e,v,h1,h2,h3⟩:=sl;exact⟨v,h1,h3.tree h2⟩
  ·rw[z.1]
   have own:∀a∈F i,NO B F' R a:=fun a ha=>⟨A.own a (A.young i a ha),A.disjR i a ha,fun j w=>by
    by_cases hj:j=i
    ·subst hj;simp only[F',Qa q] at w;simp at w
    ·exact A.disj j i hj a (hF j a w) ha⟩
   cases hmm:Γ.getD i .U with
   |U=>exact Eb hmm z.2
   |P=>rw[hmm] at sl;obtain⟨e,v,h1,h2,h3⟩:=sl;exact⟨rfl,v,h1,h3.flatS h2⟩
   |S=>rw[hmm] at sl;obtain⟨e,v,h1,h2⟩:=sl;exact⟨rfl,v,h1,Ta.mono (fun a vs s r=>⟨r,up s⟩) (fun a vs r=>r) h2⟩
   |T =>
    rw[hmm] at sl;obtain⟨a,vs,xs,h1,h2,h3,h4,h5⟩:=sl;refine⟨rfl,_,h1, ?_⟩;rw[h2];exact⟨a,vs,rfl,.inl ⟨.inl h3,own a (by rw[h5];simp)⟩,Reps.mono (fun a vs s r=>⟨r,up s⟩) (fun a vs r=>r) h4⟩
   |O=>rw[hmm] at sl;obtain⟨v,h1,h2⟩:=sl;exact⟨rfl,v,h1,h2.rep own⟩
theorem DS.out(h:DS K EX Γ Y t g)(hn:Zi Y.n Y'.n=true)(hb:Zi Y.b Y'.b=true)(hc:Zi Y.c Y'.c=true)(hr:Y.r=Y'.r): DS K EX Γ Y' t g:=fun B H0 H σ ρ F D A d=>by
 refine h B H0 H σ ρ F D A ?_;cases e:g ρ with
 |next ρ1=>rw[e] at d;exact fun σ' H' F' fr A'=>let ⟨F2,f2,A2⟩:=A'.weak hn;d σ' H' F2 (fr.trans (Kc.of (La.refl _) f2)) A2
 |brk ρ1=>rw[e] at d;exact fun σ' H' F' fr A'=>let ⟨F2,f2,A2⟩:=A'.weak hb;d σ' H' F2 (fr.trans (Kc.of (La.refl _) f2)) A2
 |cont ρ1=>rw[e] at d;exact fun σ' H' F' fr A'=>let ⟨F2,f2,A2⟩:=A'.weak hc;d σ' H' F2 (fr.trans (Kc.of (La.refl _) f2)) A2
 |ret x=>rw[e] at d;exact fun v H' s r=>d v H' s (hr▸r)
 |exc q=>rw[e] at d;exact d
 |bad=>rw[e] at d;exact d
theorem O2(s1:La H H1)(f1:∀i,∀a∈F1 i,a∈F i)(o:∀a∈G,H a=none\/∃i,a∈F i): Kc H F H1 (Ae F1 i G):=fun a u h n=>by
 refine⟨s1 a u h,fun j z=>?_⟩;by_cases q:j=i
 ·subst q
  rw[Bf] at z;rcases o a z with w|⟨l,w⟩
  ·rw[h] at w;cases w
  ·exact n l w
 ·rw[Me q] at z;exact n j (f1 j a z)
theorem Zfe(he:DE K EX Γ Γ' .P te f)(hi:i<Γ'.length): DS K EX Γ ⟨Γ'.set i .P,Γ1,Γ2,k⟩ (Xm te (Ti i)) (fun ρ=>(f ρ).thenS fun x=>.next (ρ.set i x)):=fun B H0 H σ ρ F D A d=>by
 refine he B H0 H σ ρ F [] _ A (d.thenS.imp (fun x _ d v H1 s1 r1=>?_) fun e q=>q);obtain⟨F1,f1,h1,h2,A1⟩:=r1;exact d _ H1 _ (O2 (G:=[]) s1 f1 (by simp)) (Ag.put (G:=[]) (R:=[]) A1 hi (by simp) ⟨rfl,v,rfl,h1,h2⟩)
theorem FS(he:DE K EX Γ Γ' .F te f)(hi:i<Γ'.length): DS K EX Γ ⟨Γ'.set i .O,Γ1,Γ2,k⟩ (Xm te (Ti i)) (fun ρ=>(f ρ).thenS fun x=>.next (ρ.set i x)):=fun B H0 H σ ρ F D A d=>by
 refine he B H0 H σ ρ F [] _ A (d.thenS.imp (fun x _ d v H1 s1 r1=>?_) fun e q=>q);obtain⟨F1,f1,G,h1,h2,A1⟩:=r1;exact d _ H1 _ (O2 s1 f1 fun a ha=>(h2 a ha).2) (Ag.put (R:=[]) A1 hi (by simp) ⟨v,rfl,h1⟩)
theorem GS(he:DE K EX Γ Γ' .Z te f)(hi:i<Γ'.length): DS K EX Γ ⟨Γ'.set i .S,Γ1,Γ2,k⟩ (Xm te (Ti i)) (fun ρ=>(f ρ).thenS fun x=>.next (ρ.set i x)):=fun B H0 H σ ρ F D A d=>by
 refine he B H0 H σ ρ F [] _ A (d.thenS.imp (fun x _ d v H1 s1 r1=>?_) fun e q=>q);obtain⟨F1,f1,h1,A1⟩:=r1;refine d _ H1 _ (O2 (G:=[]) s1 f1 (by simp)) (Ag.put (G:=[]) (R:=[]) A1 hi (by simp) ⟨rfl,v,rfl, ?_⟩);refine Ta.mono (fun a us s r=>⟨r,s.1,s.2.1,fun j z=>?_⟩) (fun a us r=>r) h1;exact s.2.2 j (Zx j a z)
theorem Zk(he:DE K EX Γ Γ' .A te f):DS K EX Γ ⟨Γ',Γ1,Γ2,k⟩ (JC te) (fun ρ=>(f ρ).thenS fun _=>.next ρ):=fun B H0 H σ ρ F D A d=>by
 refine he B H0 H σ ρ F [] _ A (d.thenS.imp (fun x _ d v H1 s1 r1=>?_) fun e q=>q);obtain⟨F1,f1,h1,A1⟩:=r1;exact d σ H1 F1 (Kc.of s1 f1) A1
theorem Qd(he:DE K EX Γ Γ' .P te f):DS K EX Γ ⟨Γ3,Γ1,Γ2,.P⟩ (Y4 te) (fun ρ=>(f ρ).thenS fun x=>.ret x):=fun B H0 H σ ρ F D A d=>by
 refine he B H0 H σ ρ F [] _ A (d.thenS.imp (fun x _ d v H1 s1 r1=>?_) fun e q=>q);obtain⟨F1,f1,h1,h2,A1⟩:=r1;exact d v H1 A1.same ⟨h1,h2⟩
theorem Rg(he:DE K EX Γ Γ' .F te f):DS K EX Γ ⟨Γ3,Γ1,Γ2,.F⟩ (Y4 te) (fun ρ=>(f ρ).thenS fun x=>.ret x):=fun B H0 H σ ρ F D A d=>by
 refine he B H0 H σ ρ F [] _ A (d.thenS.imp (fun x _ d v H1 s1 r1=>?_) fun e q=>q);obtain⟨F1,f1,G,h1,h2,A1⟩:=r1;exact d v H1 A1.same ⟨G,h1,fun a ha=>A1.youngR a (by simpa using ha)⟩
theorem E2(he:DE K EX Γ Γ' .Z te f):DS K EX Γ ⟨Γ3,Γ1,Γ2,.Z⟩ (Y4 te) (fun ρ=>(f ρ).thenS fun x=>.ret x):=fun B H0 H σ ρ F D A d=>by
 refine he B H0 H σ ρ F [] _ A (d.thenS.imp (fun x _ d v H1 s1 r1=>?_) fun e q=>q);obtain⟨F1,f1,h1,A1⟩:=r1;exact d v H1 A1.same (Ta.mono (fun a us s r=>⟨r,.inl s.1⟩) (fun a us r=>r) h1)
theorem Hd{fc: LI5->Rr Bool}(hc:DT K EX Γ Γ' c fc)(h1:DS K EX Γ' Y t g)(h2:DS K EX Γ' Y u g'): DS K EX Γ Y (Zav c t u) (fun ρ=>(fc ρ).thenS fun b=>if b=true then g ρ else g' ρ):=fun B H0 H σ ρ F D A d=>by
 refine hc B H0 H σ ρ F [] _ A (d.thenS.imp (fun b _ d H1 F1 s1 f1 A1=>?_) fun e q=>q);cases b with
 |true=>exact h1 B H0 H1 σ ρ F1 D A1 (Si.shift (Kc.of s1 f1) d)
 |false=>exact h2 B H0 H1 σ ρ F1 D A1 (Si.shift (Kc.of s1 f1) d)
theorem ZeZ(hm:Γ[i]?=some .P)(he:DE K EX Γ Γ .A te f): DS K EX Γ ⟨Γ,Γ1,Γ2,k⟩ (Zaj i te (UI h)) (fun ρ=>(f ρ).thenS fun y=>(oI (fun _ _=>true) (fun i j=>.int (h i j)) (gv i ρ) y).thenS fun z=>.next (ρ.set i z)):=fun B H0 H σ ρ F D A d=>by
 obtain⟨v,h1,h2,h3⟩:=A.getP hm;refine⟨v,h1,he B H0 H σ ρ F [] _ A (d.thenS.imp (fun y _ d w H1 s1 r1=>?_) fun e q=>q)⟩;obtain⟨F1,f1,p1,A1⟩:=r1;have h3':=h3.same s1;change Ta K H1 _ (gv i ρ) v at h3';generalize gv i ρ=gx at h3' d;cases gx<;>cases y<;>first|(exact d.elim;done)|skip
 rename_i p q _;cases h3';cases p1;refine⟨p,q,rfl,rfl,d _ H1 _ (O2 (i:=i) (G:=[]) s1 f1 (by simp)) ?_⟩;have:=Ag.put (i:=i) (m:=.P) (x:=.int (h p q)) (v:=.int (h p q)) (G:=[]) (R:=[]) A1 (A.lt hm) (by simp) ⟨rfl,_,rfl,rfl,rfl⟩;have e:Γ.set i .P=Γ:=by
  apply Vn;intro j;by_cases q:i=j
  ·subst q;rw[Sj (A.lt hm),hm]
  ·rw[Tk q]
 rw[e] at this;exact this
variable {ti:TE}{fi:LI5->Rr PV}
theorem Zk2(h:Γ[i]?=some m): Γ.set i m=Γ:=by
 apply Vn;intro j;by_cases q:i=j
 ·subst q;rw[Sj (Cd.mp h).1,h]
 ·rw[Tk q]
theorem Ag.chgB(ho:T0 o')(A:Ag K B H0 H σ Γ ρ F (G++R))(hm:Γ[i]?=some m)(ha:a∈F i)(hG:∀b∈G',b∈F i\/b∈G)(hGR:∀b∈G,b ∉ R)(hs:Mn K (upd H a o') (NO B (Ae F i G') R) m x' σ[i]? G'): Ag K B H0 (upd H a o') σ Γ (ρ.set i x') (Ae F i G') R:=by
 obtain⟨us,hH⟩:=A.live i a ha;have hi:=A.lt hm;have liveU:∀b,(∃us:Bm,H b=some us.1)->∃us:Bm,upd H a o' b=some us.1:=fun b ⟨us,q⟩=>by
  by_cases e:b=a
  ·exact⟨⟨o',ho⟩,by rw[e,Uf]⟩
  ·exact⟨us,by rw[Rb e];exact q⟩
 refine⟨A.same.upd (A.young i a ha),A.own,fun j b hb=>?_,fun b hb=>A.youngR b (Td _ hb),fun j b hb=>liveU b ?_,fun b hb=>liveU b (A.liveR b (Td _ hb)),fun j l hjl b hb z=>?_,fun j b hb z=>?_,A.lenS,by simp[A.lenR],fun j=>?_⟩
 ·by_cases q:j=i
  ·subst q;rw[Bf] at hb
   rcases hG b hb with z|z
   ·exact A.young j b z
   ·exact A.youngR b (Zf _ z)
  ·rw[Me q] at hb;exact A.young j b hb
 ·by_cases q:j=i
  ·subst q;rw[Bf] at hb
   rcases hG b hb with z|z
   ·exact A.live j b z
   ·exact A.liveR b (Zf _ z)
  ·rw[Me q] at hb;exact A.live j b hb
 ·by_cases q:j=i
  ·subst q
   rw[Bf] at hb;rw[Me (Ne.symm hjl)] at z;rcases hG b hb with w|w
   ·exact A.disj j l hjl b w z
   ·exact A.disjR l b z (Zf _ w)
  ·rw[Me q] at hb
   by_cases q':l=i
   ·subst q'
    rw[Bf] at z;rcases hG b z with w|w
    ·exact A.disj j l hjl b hb w
    ·exact A.disjR j b hb (Zf _ w)
   ·rw[Me q'] at z;exact A.disj j l hjl b hb z
 ·by_cases q:j=i
  ·subst q;rw[Bf] at hb
   rcases hG b hb with w|w
   ·exact A.disjR j b w (Td _ z)
   ·exact hGR b w z
  ·rw[Me q] at hb;exact A.disjR j b hb (Td _ z)
 ·by_cases q:j=i
  ·subst q
   rw[Bf,Cb,Cb,hm,Sj (by rw[A.lenR];exact hi)];exact hs
  ·rw[Me q,Cb (l:=ρ.set _ _),Tk (Ne.symm q),<- Cb]
   refine(A.slot j).mono (fun b us s r=>?_) (fun b us r=>Im.putL hH r) fun b hb us r=>?_
   ·have hne:b≠a:=fun z=>s.2.2 i (z▸ha)
    refine⟨?_,s.1,fun z=>s.2.1 (Td _ z),fun l z=>?_⟩
    ·rcases r with r|⟨o,r⟩
     ·exact .inl (by rw[Rb hne];exact r)
     ·exact .inr ⟨o,by rw[Rb hne];exact r⟩
    ·by_cases q':l=i
     ·subst q';rw[Bf] at z
      rcases hG b z with w|w
      ·exact s.2.2 l w
      ·exact s.2.1 (Zf _ w)
     ·rw[Me q'] at z;exact s.2.2 l z
   ·have hne:b≠a:=fun z=>A.disj j i q b hb (z▸ha)
    rw[Rb hne];exact r
theorem Ag.chg(A:Ag K B H0 H σ Γ ρ F (G++R))(hm:Γ[i]?=some m)(ha:a∈F i)(hG:∀b∈G',b∈F i\/b∈G)(hGR:∀b∈G,b ∉ R)(hs:Mn K (upd H a (.lst vs')) (NO B (Ae F i G') R) m x' σ[i]? G'): Ag K B H0 (upd H a (.lst vs')) σ Γ (ρ.set i x') (Ae F i G') R:=Ag.chgB (o':=.lst vs') trivial A hm ha hG hGR hs
theorem N2(s1:La H H1)(f1:∀i,∀b∈F1 i,b∈F i)(ha:a∈F1 i)(hG:∀b∈G',H b=none\/∃j,b∈F j): Kc H F (upd H1 a o) (Ae F1 i G'):=fun b u h n=>by
 have hne:b≠a:=fun z=>n i (f1 i b (z▸ha));refine⟨by rw[Rb hne];exact s1 b u h,fun j z=>?_⟩;by_cases q:j=i
 ·subst q;rw[Bf] at z
  rcases hG b z with w|⟨l,w⟩
  ·rw[h] at w;cases w
  ·exact n l w
 ·rw[Me q] at z;exact n j (f1 j b z)
theorem Trees.setP:∀{xs:LI5}{vs:List V}{G:LI2}{j:Nat}{y:PV}{w:V},Trees K H xs vs G->Dc K H y w []->∃G',(∀a∈G',a∈G)/\Trees K H (xs.set j y) (vs.set j w) G'
 |[],_,_,_,_,_,h,_=>⟨[],by simp,by rw[h.1];exact⟨rfl,rfl⟩⟩
 |x::xs,_,_,0,y,w,h,h'=>by
  obtain⟨v,r,G1,G2,rfl,h1,h2,h3,rfl⟩:=h;exact⟨G2,fun a ha=>by simp[ha],w,r,[],G2,rfl,h',h2,by simp,rfl⟩
 |x::xs,_,_,j+1,y,w,h,h'=>by
  obtain⟨v,r,G1,G2,rfl,h1,h2,h3,rfl⟩:=h;obtain⟨G',h4,h5⟩:=Trees.setP (j:=j) h2 h';refine⟨G1++G',fun a ha=>?_,v,r.set j w,G1,G',rfl,h1,h5,fun a ha z=>h3 a ha (h4 a z),rfl⟩;rcases Nc.mp ha with z|z
  ·simp[z]
  ·simp[h4 a z]
noncomputable def pSet(x i y:PV):Rr PV:=match x,i with
 |.lst xs,.int j=>match Jk xs.length j with
  |some n=>.ok (.lst (xs.set n y))
  |none=>.bad
 |_,_=>.bad
theorem Dn.pSet(d:Dn (pSet x i y) ok ex): ∃xs j n,x=.lst xs/\i=.int j/\Jk xs.length j=some n/\ok (.lst (xs.set n y)):=by
 unfold L2.pSet at d
 split at d
 ·rename_i xs j
  cases e:Jk xs.length j with
  |none=>rw[e] at d;exact d.elim
  |some n=>rw[e] at d;exact⟨xs,j,n,rfl,rfl,e,d⟩
 ·exact d.elim
theorem Bw(hm:Γ2[i]?=some .O)(he:DE K EX Γ Γ2 .P te f)(hi:DE K EX Γ2 Γ2 .A ti fi):
  DS K EX Γ ⟨Γ2,Γ1,Γ3,k⟩ (Xm te (YT (Bg i) ti IK)) (fun ρ=>(f ρ).thenS fun y=>(fi ρ).thenS fun j=>(pSet (gv i ρ) j y).thenS fun z=>.next (ρ.set i z)):=fun B H0 H σ ρ F D A d=>by
 refine he B H0 H σ ρ F [] _ A (d.thenS.imp (fun y _ d w H1 s1 r1=>?_) fun e q=>q);obtain⟨F1,f1,y1,y2,A1⟩:=r1;obtain⟨v,h1,h2⟩:=A1.getO hm;refine⟨v,h1,hi B H0 H1 σ ρ F1 [] _ A1 (d.thenS.imp (fun j _ d jv H2 s2 r2=>?_) fun e q=>q)⟩;obtain⟨F2,f2,p2,A2⟩:=r2;obtain⟨xs,jj,n,e1,rfl,e2,d⟩:=Dn.pSet d.thenS;obtain⟨v',h1',h2'⟩:=A2.getO hm;rw[h1] at h1';cases h1';rw[show ρ.getD i .non=.lst xs from e1] at h2';obtain⟨a,vs,G,rfl,hH,ht,hn,hF⟩:=h2';cases p2;refine⟨a,vs,jj,n,rfl,rfl,hH,by rw[ht.length];exact e2, ?_⟩;obtain⟨G',g1,g2⟩:=Trees.setP (j:=n) ht ((y2.same s2).tree y1);have haF:a∈F2 i:=by rw[hF];simp
 have hsub:∀b∈a::G',b∈F2 i:=fun b hb=>by
  rw[hF];rcases Vd.mp hb with rfl|hb
  ·simp
  ·simp[g1 b hb]
 refine d σ _ (Ae F2 i (a::G')) (N2 (s1.trans s2) (fun j b hb=>f1 j b (f2 j b hb)) haF fun b hb=>.inr ⟨i,f1 i b (f2 i b (hsub b hb))⟩) (Ag.chg (G:=[]) A2 hm haF (fun b hb=>.inl (hsub b hb)) (by simp) ?_);exact⟨_,h1,a,_,G',rfl,Uf,g2.put hH (fun z=>hn (g1 a z)),fun z=>hn (g1 a z),rfl⟩
noncomputable def pApp(x y:PV):Rr PV:=match x with
 |.lst xs=>if xs.length<1000000 then .ok (.lst (xs++[y])) else .bad
 |_=>.bad
theorem Dn.pApp(d:Dn (pApp x y) ok ex): ∃xs,x=.lst xs/\xs.length<1000000/\ok (.lst (xs++[y])):=by
 unfold L2.pApp at d
 split at d
 ·rename_i xs
  by_cases h:xs.length<1000000
  ·rw[Da h] at d;exact⟨xs,rfl,h,d⟩
  ·rw[Qa h] at d;exact d.elim
 ·exact d.elim
theorem Dn.asL(d:Dn (asL x) ok ex): ∃xs,x=.lst xs/\ok xs:=by
 cases x with
 |lst xs=>exact⟨xs,rfl,d⟩
 |_=>exact d.elim
theorem UH(hm:Γ[i]?=some .O)(hm2:Γ2[i]?=some .O)(he:DE K EX Γ Γ2 .F te f):
  DS K EX Γ ⟨Γ2,Γ1,Γ3,k⟩ (JC (W4 K "list" CY (Bg i) (Dk te Sl))) (fun ρ=>(asL (gv i ρ)).thenS fun xs=>(f ρ).thenS fun y=>(pApp (.lst xs) y).thenS fun z=>.next (ρ.set i z)):=fun B H0 H σ ρ F D A d=>by
 obtain⟨v,h1,h2⟩:=A.getO hm;refine⟨v,h1, ?_⟩;obtain⟨xs,e1,d⟩:=Dn.asL d.thenS;rw[show ρ.getD i .non=.lst xs from e1] at h2;obtain⟨a,vs,G,rfl,hH,ht,hn,hF⟩:=h2;refine⟨.inl ⟨rfl,_,Yb.of hH⟩,he B H0 H σ ρ F [] _ A (d.thenS.imp (fun y _ d w H2 s2 r2=>?_) fun e q=>q)⟩;obtain⟨F2,f2,G2,y1,y2,A2⟩:=r2;obtain⟨xs',e2,Ge,d⟩:=Dn.pApp d.thenS;cases e2;obtain⟨v',h1',h2'⟩:=A2.getO hm2;rw[h1] at h1';cases h1';rw[show ρ.getD i .non=.lst xs from e1] at h2';obtain⟨a',vs',G',e,hH',Ad,hn',hF'⟩:=h2';cases e;refine⟨a,vs',w,rfl,rfl,hH',by rw[Ad.length];exact Mg Ge (by decide), ?_⟩;have haF:a∈F2 i:=by rw[hF'];simp
 have dj:∀b∈G',b ∉ G2:=fun b hb z=>A2.disjR i b (by rw[hF'];simp[hb]) (Zf _ z);have na:a ∉ G2:=fun z=>A2.disjR i a haF (Zf _ z);have hsub:∀b∈a::(G'++G2),b∈F2 i\/b∈G2:=fun b hb=>by
  rw[hF'];rcases Vd.mp hb with rfl|hb
  ·simp
  ·rcases Nc.mp hb with z|z
   ·simp[z]
   ·exact .inr z
 have hna:a ∉ G'++G2:=fun z=>(Nc.mp z).elim hn' na;refine d σ _ (Ae F2 i (a::(G'++G2))) (N2 s2 f2 haF fun b hb=>?_) (Ag.chg (G:=G2) (R:=[]) A2 hm2 haF hsub (by simp) ?_)
 ·rcases hsub b hb with z|z
  ·exact .inr ⟨i,f2 i b z⟩
  ·exact(y2 b z).2
 ·exact⟨_,h1,a,_,G'++G2,rfl,Uf,(Trees.append Ad (Trees.one y1) dj).put hH' hna,hna,rfl⟩
def DG(K:ZlR)(EX:PX->Hp->Prop)(Γ Γ':List Md)(g:TG)(h:PV->LI5->Rr LI5):Prop:=
 ∀(B:Ja->Prop) (H0 H:Hp) (σ:St) (ρ:LI5) (F:Nat->LI2) (v:V) (x:PV) (N:St->Hp->Prop),Ag K B H0 H σ Γ ρ F []->Ta K H (NO B F []) x v ->
  Dn (h x ρ) (fun ρ'=>∀σ' F',(∀i,∀a∈F' i,a∈F i)->Ag K B H0 H σ' Γ' ρ' F' []->N σ' H) (fun e=>∀H',La H0 H'->EX e H')->g v σ H N
theorem ZeO(hi:i<Γ.length): DG K EX Γ (Γ.set i .P) (Ti i) (fun x ρ=>(grd x).bind fun x=>.ok (ρ.set i x)):=fun B H0 H σ ρ F v x N A r d=>by
 unfold grd at d;dsimp only at d;by_cases h:x.flat=true
 ·rw[Da h] at d
  exact d _ (Ae F i []) Zx (Ag.put (G:=[]) (R:=[]) A hi (by simp) ⟨rfl,v,rfl,h,r.any⟩)
 ·rw[Qa h] at d;exact d.elim
noncomputable def DW(xs ρ:LI5):Rr LI5:=match xs with
 |[]=>.ok ρ
 |_=>.bad
noncomputable def CU(h:PV->LI5->Rr LI5)(hs:LI5->LI5->Rr LI5)(xs:LI5)(ρ:LI5):Rr LI5:=match xs with
 |x::r=>(h x ρ).bind fun ρ'=>hs r ρ'
 |[]=>.bad
noncomputable def asT(n:Nat)(x:PV):Rr LI5:=match x with
 |.tup xs=>if xs.length=n then .ok xs else .bad
 |_=>.bad
theorem Dn.asT(d:Dn (asT n x) ok ex): ∃xs,x=.tup xs/\xs.length=n/\ok xs:=by
 cases x with
 |tup xs =>
  unfold L2.asT at d;by_cases h:xs.length=n
  ·simp only[Da h] at d;exact⟨xs,rfl,h,d⟩
  ·simp only[Qa h] at d;exact d.elim
 |_=>exact d.elim
def F6(K:ZlR)(EX:PX->Hp->Prop)(Γ Γ':List Md)(g:TG)(h:PV->LI5->Rr LI5):Prop:=
 ∀(B:Ja->Prop) (H0 H:Hp) (σ:St) (ρ:LI5) (F:Nat->LI2) (G R:LI2) (v:V) (x:PV) (N:St->Hp->Prop),Ag K B H0 H σ Γ ρ F (G++R)->(∀a∈G,a ∉ R)->Dc K H x v G ->
  Dn (h x ρ) (fun ρ'=>∀σ' F',(∀i,∀a∈F' i,a∈F i\/a∈G)->Ag K B H0 H σ' Γ' ρ' F' R->N σ' H) (fun e=>∀H',La H0 H'->EX e H')->g v σ H N
def G6(K:ZlR)(EX:PX->Hp->Prop)(Γ Γ':List Md)(g:Ot)(h:LI5->LI5->Rr LI5):Prop:=
 ∀(B:Ja->Prop) (H0 H:Hp) (σ:St) (ρ:LI5) (F:Nat->LI2) (G R:LI2) (vs:List V) (xs:LI5) (N:St->Hp->Prop),Ag K B H0 H σ Γ ρ F (G++R)->(∀a∈G,a ∉ R)->Trees K H xs vs G ->
  Dn (h xs ρ) (fun ρ'=>∀σ' F',(∀i,∀a∈F' i,a∈F i\/a∈G)->Ag K B H0 H σ' Γ' ρ' F' R->N σ' H) (fun e=>∀H',La H0 H'->EX e H')->g vs σ H N
theorem AS(hi:i<Γ.length): F6 K EX Γ (Γ.set i .P) (Ti i) (fun x ρ=>(grd x).bind fun x=>.ok (ρ.set i x)):=fun B H0 H σ ρ F G R v x N A hG r d=>by
 unfold grd at d;dsimp only at d;by_cases h:x.flat=true
 ·rw[Da h] at d
  exact d _ (Ae F i []) (fun j a ha=>.inl (Zx j a ha)) (Ag.put (G:=[]) (A.less fun a ha=>Td _ ha) hi (by simp) ⟨rfl,v,rfl,h,r.rep fun _ _=>trivial⟩)
 ·rw[Qa h] at d;exact d.elim
theorem ZeQ:G6 K EX Γ Γ NH DW:=fun B H0 H σ ρ F G R vs xs N A hG r d=>by
 cases xs with
 |nil=>exact⟨r.1,d σ F (fun _ _ h=>.inl h) (A.less fun a ha=>Td _ ha)⟩
 |cons x xs=>exact d.elim
theorem BS{g:TG}{gs:Ot}{h:PV->LI5->Rr LI5}{hs:LI5->LI5->Rr LI5}(h1:F6 K EX Γ Γ1 g h)(h2:G6 K EX Γ1 Γ2 gs hs):G6 K EX Γ Γ2 (P7 g gs) (CU h hs):=fun B H0 H σ ρ F G R vs xs N A hG r d=>by
 cases xs with
 |nil=>exact d.elim
 |cons x xs =>
  obtain⟨v,r',G1,G2,rfl,r1,r2,dj,rfl⟩:=r;refine⟨v,r',rfl,h1 B H0 H σ ρ F G1 (G2++R) v x _ (by rw[<- Qf];exact A) (fun a ha z=>?_) r1 ((show Dn ((h x ρ).bind fun ρ'=>hs xs ρ') _ _ from d).bind.imp (fun ρ' _ d σ' F' f' A'=>?_) fun e q=>q)⟩
  ·rcases Nc.mp z with z|z
   ·exact dj a ha z
   ·exact hG a (Zf _ ha) z
  ·refine h2 B H0 H σ' ρ' F' G2 R r' xs _ A' (fun a ha=>hG a (Td _ ha)) r2 (d.imp (fun ρ2 _ d σ2 F2 f2 A2=>d σ2 F2 (fun j a ha=>?_) A2) fun e q=>q)
   rcases f2 j a ha with z|z
   ·rcases f' j a z with w|w
    ·exact .inl w
    ·exact .inr (Zf _ w)
   ·exact .inr (Td _ z)
theorem ZeP(h2:G6 K EX Γ Γ2 gs hs): F6 K EX Γ Γ2 (OH K n gs) (fun x ρ=>(asT n x).bind fun xs=>hs xs ρ):=fun B H0 H σ ρ F G R v x N A hG r d=>by
 obtain⟨xs,rfl,hl,d⟩:=Dn.asT d.bind;obtain⟨a,vs,rfl,hn,hr⟩:=r;exact⟨a,vs,rfl,hn.sqT,by rw[hr.length];exact hl,h2 B H0 H σ ρ F G R vs xs N A hG hr d⟩
theorem ZeY(he:DE K EX Γ Γ1 .F te f)(hg:F6 K EX Γ1 Γ2 gt h): DS K EX Γ ⟨Γ2,Γ3,Γ',k⟩ (Xm te gt) (fun ρ=>(f ρ).thenS fun x=>(h x ρ).thenS fun ρ'=>.next ρ'):=fun B H0 H σ ρ F D A d=>by
 refine he B H0 H σ ρ F [] _ A (d.thenS.imp (fun x _ d v H1 s1 r1=>?_) fun e q=>q);obtain⟨F1,f1,G,h1,h2,A1⟩:=r1;refine hg B H0 H1 σ ρ F1 G [] v x _ A1 (by simp) h1 (d.thenS.imp (fun ρ' _ d σ' F' f' A'=>d σ' H1 F' (fun a o ho n=>⟨s1 a o ho,fun j z=>?_⟩) A') fun e q=>q);rcases f' j a z with w|w
 ·exact n j (f1 j a w)
 ·rcases (h2 a w).2 with q|⟨l,q⟩
  ·rw[ho] at q;cases q
  ·exact n l q
end
noncomputable def RS.turn:RS->(LI5->RS)->RS
 |.next ρ,f=>f ρ
 |.cont ρ,f=>f ρ
 |.brk ρ,_=>.next ρ
 |r,_=>r
noncomputable def Vh(b:PV->LI5->RS):LI5->LI5->RS
 |[],ρ=>.next ρ
 |x::xs,ρ=>(b x ρ).turn (Vh b xs)
noncomputable def Ki(c:LI5->Rr Bool)(b:LI5->RS):Nat->LI5->Option RS
 |0,_=>none
 |n+1,ρ=>match c ρ with
  |.ok true=>match b ρ with
   |.next ρ'=>Ki c b n ρ'
   |.cont ρ'=>Ki c b n ρ'
   |.brk ρ'=>some (.next ρ')
   |r=>some r
  |.ok false=>some (.next ρ)
  |.exc e=>some (.exc e)
  |.bad=>some .bad
open Classical in
noncomputable def Jn(c:LI5->Rr Bool)(b:LI5->RS)(ρ:LI5):RS:=if h:∃n r,Ki c b n ρ=some r then h.choose_spec.choose else .bad
theorem W7: ∀{n m:Nat}{ρ:LI5}{r:RS},n<=m->Ki c b n ρ=some r->Ki c b m ρ=some r
 |0,_,_,_,_,h=>by cases h
 |n+1,0,_,_,hl,_=>by lia
 |n+1,m+1,ρ,r,hl,h=>by
  unfold Ki at h ⊢;cases hc:c ρ with
  |ok b' =>
   cases b' with
   |true =>
    rw[hc] at h;cases hb:b ρ with
    |next ρ'=>rw[hb] at h;exact W7 (by lia) h
    |cont ρ'=>rw[hb] at h;exact W7 (by lia) h
    |brk ρ'=>rw[hb] at h;exact h
    |ret x=>rw[hb] at h;exact h
    |exc e=>rw[hb] at h;exact h
    |bad=>rw[hb] at h;exact h
   |false=>rw[hc] at h;exact h
  |exc e=>rw[hc] at h;exact h
  |bad=>rw[hc] at h;exact h
theorem ZgE(h:Ki c b n ρ=some r)(h':Ki c b m ρ=some r'): r=r':=by
 rcases Nat.le_total n m with q|q
 ·have:=W7 q h;rw[h'] at this;exact(Option.some.inj this).symm
 ·have:=W7 q h';rw[h] at this;exact Option.some.inj this
theorem ZaQ(h:Ki c b n ρ=some r): Jn c b ρ=r:=by
 unfold Jn;have hx:∃n r,Ki c b n ρ=some r:=⟨n,r,h⟩
 rw[Xl hx];exact ZgE hx.choose_spec.choose_spec h
section
variable {K:ZlR}{B:Ja->Prop}{EX:PX->Hp->Prop}{H0 H H':Hp}{σ:St}{Γ Γ1 Γ2 Γ3 Γl Γt:List Md}{ρ:LI5}{F F':Nat->LI2}{k:Kd}{x:PV}{v:V}{te ti:TE}{f fc fe:LI5->Rr PV}{t u:TS}{g:LI5->RS}{D:Jm}
theorem Ip(hi:DI K EX Γ Γ1 wi fi)(hw:Zi Γ1 Γl=true)(hg:DG K EX Γl Γt gt h)(hb:DS K EX Γt ⟨Γl,Γl,Γl,k⟩ t g):
  DS K EX Γ ⟨Γl,Γ2,Γ3,k⟩ (ZM wi gt t) (fun ρ=>(fi ρ).thenS fun xs=>Vh (fun x ρ=>(h x ρ).thenS g) xs ρ):=fun B H0 H σ ρ F D A d=>by
 refine hi B H0 H σ ρ F [] _ A (d.thenS.imp (fun xs _ d J H1 F1 s1 f1 A1 it=>?_) fun e q=>q);obtain⟨Fl,fl,Al⟩:=A1.weak hw;have fr0:Kc H F H1 Fl:=Kc.of s1 fun j a ha=>f1 j a (fl j a ha);have fr1:Kc H1 F1 H1 Fl:=Kc.of (La.refl _) fl;refine⟨fun i m σ' H'=>∃ρ' F',m=xs.length-i/\i<=xs.length/\Kc H1 F1 H' F'/\Ag K B H0 H' σ' Γl ρ' F' []/\Si K B EX ⟨Γl,Γ2,Γ3,k⟩ H0 H' F' D (Vh (fun x ρ=>(h x ρ).thenS g) (xs.drop i) ρ'),
  ⟨xs.length,ρ,Fl,by simp,Ng _,fr1,Al,by simpa using Si.shift fr0 d⟩, ?_⟩
 rintro i m σ' H' ⟨ρ',F',rfl,hi',fr,A',dn⟩;have itp:=it H' F' fr i;cases hx:xs[i]? with
 |none =>
  refine .inl ⟨itp.2 hx, ?_⟩;have hd:xs.drop i=[]:=Ez (Ts.mp hx);rw[hd] at dn;exact dn σ' H' F' Kc.refl A'
 |some x =>
  have hlt:i<xs.length:=(Cd.mp hx).1;obtain⟨go,yl⟩:=itp.1 x hx;have hdx:xs.drop i=x::xs.drop (i+1):=by
   rw[Tl hlt];rw[Yc hlt] at hx;cases hx;rfl
  rw[hdx] at dn;simp only[Vh] at dn;refine .inr ⟨go,fun σ2 H2=>∃ρ2 F2,Kc H1 F1 H2 F2/\Ag K B H0 H2 σ2 Γl ρ2 F2 []/\Si K B EX ⟨Γl,Γ2,Γ3,k⟩ H0 H2 F2 D (Vh (fun x ρ=>(h x ρ).thenS g) (xs.drop (i+1)) ρ2),
   fun σ2 H2 ⟨ρ2,F2,a1,a2,a3⟩=>⟨xs.length-(i+1),by lia,ρ2,F2,rfl,hlt,a1,a2,a3⟩,fun v H3 y=>?_⟩
  obtain⟨s3,rx⟩:=yl v H3 y;have fr3:Kc H' F' H3 F':=Kc.of s3 fun _ _ h=>h;refine hg B H0 H3 σ' ρ' F' v x _ (A'.grow s3) (Ta.mono (fun a us s r=>⟨r,s.1⟩) (fun a us r=>r) rx) ?_;cases e:h x ρ' with
  |ok ρt =>
   rw[e] at dn;refine fun σt Ft ft At=>hb B H0 H3 σt ρt Ft _ At ?_;have frt:Kc H' F' H3 Ft:=Kc.of s3 ft;simp only[Rr.thenS_ok] at dn;cases e2:g ρt with
   |next ρ2=>rw[e2] at dn;exact fun σ2 H2 F2 fr2 A2=>⟨ρ2,F2,fr.trans (frt.trans fr2),A2,Si.shift (frt.trans fr2) dn⟩
   |cont ρ2=>rw[e2] at dn;exact fun σ2 H2 F2 fr2 A2=>⟨ρ2,F2,fr.trans (frt.trans fr2),A2,Si.shift (frt.trans fr2) dn⟩
   |brk ρ2=>rw[e2] at dn;exact fun σ2 H2 F2 fr2 A2=>dn σ2 H2 F2 (frt.trans fr2) A2
   |ret y=>rw[e2] at dn;exact dn
   |exc q=>rw[e2] at dn;exact dn
   |bad=>rw[e2] at dn;exact dn
  |exc q=>rw[e] at dn;exact dn
  |bad=>rw[e] at dn;exact dn
theorem L7{fc: LI5->Rr Bool}(hc:DT K EX Γ Γ c fc)(hb:DS K EX Γ ⟨Γ,Γ,Γ,k⟩ t g): DS K EX Γ ⟨Γ,Γ2,Γ3,k⟩ (ZaB c t) (fun ρ=>Jn fc g ρ):=fun B H0 H σ ρ F D A d=>by
 dsimp only at d;have ex:∃n,Ki fc g n ρ=some (Jn fc g ρ):=by
  by_cases hx:∃n r,Ki fc g n ρ=some r
  ·obtain⟨n,r,e⟩:=hx
   exact⟨n,by rw[ZaQ e];exact e⟩
  ·unfold Jn at d
   rw[dif_neg hx] at d;exact d.elim
 obtain⟨n0,e0⟩:=ex;generalize hr:Jn fc g ρ=r at e0 d;refine⟨fun m σ' H'=>∃ρ' F',Kc H F H' F'/\Ag K B H0 H' σ' Γ ρ' F' []/\Ki fc g m ρ'=some r,⟨n0,ρ,F,Kc.refl,A,e0⟩, ?_⟩;rintro m σ' H' ⟨ρ',F',fr,A',e⟩;cases m with
 |zero=>cases e
 |succ m =>
  unfold Ki at e;refine hc B H0 H' σ' ρ' F' [] _ A' ?_;cases e1:fc ρ' with
  |ok b =>
   rw[e1] at e;refine fun H2 F2 s2 f2 A2=>?_;have fr2:Kc H' F' H2 F2:=Kc.of s2 f2;cases b with
   |true =>
    refine⟨fun σ3 H3=>∃ρ3 F3,Kc H F H3 F3/\Ag K B H0 H3 σ3 Γ ρ3 F3 []/\Ki fc g m ρ3=some r,fun σ3 H3 h=>⟨m,HD _,h⟩, ?_⟩;refine hb B H0 H2 σ' ρ' F2 _ A2 ?_;cases e2:g ρ' with
    |next ρ2=>rw[e2] at e;exact fun σ3 H3 F3 fr3 A3=>⟨ρ2,F3,fr.trans (fr2.trans fr3),A3,e⟩
    |cont ρ2=>rw[e2] at e;exact fun σ3 H3 F3 fr3 A3=>⟨ρ2,F3,fr.trans (fr2.trans fr3),A3,e⟩
    |brk ρ2 =>
     rw[e2] at e;have e':RS.next ρ2=r:=Option.some.inj e;rw[<- e'] at d;exact fun σ3 H3 F3 fr3 A3=>d σ3 H3 F3 (fr.trans (fr2.trans fr3)) A3
    |ret y =>
     rw[e2] at e;have e':RS.ret y=r:=Option.some.inj e;rw[<- e'] at d;exact d
    |exc q =>
     rw[e2] at e;have e':RS.exc q=r:=Option.some.inj e;rw[<- e'] at d;exact d
    |bad =>
     rw[e2] at e;have e':RS.bad=r:=Option.some.inj e;rw[<- e'] at d;exact d
   |false =>
    have e':RS.next ρ'=r:=Option.some.inj e;rw[<- e'] at d;exact d σ' H2 F2 (fr.trans fr2) A2
  |exc q =>
   rw[e1] at e;have e':RS.exc q=r:=Option.some.inj e;rw[<- e'] at d;exact d
  |bad =>
   rw[e1] at e;have e':RS.bad=r:=Option.some.inj e;rw[<- e'] at d;exact d
theorem Trees.get:∀{xs:LI5}{vs:List V}{G:LI2}{j:Nat}{x:PV},Trees K H xs vs G->xs[j]?=some x->∃v G',vs[j]?=some v/\Dc K H x v G'/\∀a∈G',a∈G
 |[],_,_,_,_,_,e=>by simp at e
 |y::xs,_,_,0,x,h,e=>by
  obtain⟨v,r,G1,G2,rfl,h1,h2,h3,rfl⟩:=h;simp at e;subst e;exact⟨v,G1,rfl,h1,fun a ha=>by simp[ha]⟩
 |y::xs,_,_,j+1,x,h,e=>by
  obtain⟨v,r,G1,G2,rfl,h1,h2,h3,rfl⟩:=h;obtain⟨w,G',e1,e2,e3⟩:=Trees.get (j:=j) h2 (by simpa using e);exact⟨w,G',by simpa using e1,e2,fun a ha=>by simp[e3 a ha]⟩
theorem ZkW{i: Int}(h:Trees K H xs vs G)(e:Dg xs i=some z): ∃u G',Dg vs i=some u/\Dc K H z u G'/\∀a∈G',a∈G:=by
 unfold Dg at e ⊢;rw[h.length];cases q:Jk xs.length i with
 |none=>rw[q] at e;cases e
 |some j=>rw[q] at e;exact h.get e
theorem Zfa(hm:Γ2[i]?=some .O)(hmΓ:Γ[i]?=some .O)(hi:DE K EX Γ Γ2 .A ti f)(he:DE K EX Γ2 Γ2 .A te fe):
  DS K EX Γ ⟨Γ2,Γ1,Γ3,k⟩ (Zak (Bg i) ti te (B4 K) (UI h) IK) (fun ρ=>(f ρ).thenS fun j=>(pIx (gv i ρ) j).thenS fun z=>(asL (gv i ρ)).thenS fun _=>(fe ρ).thenS fun y=>(oI (fun _ _=>true) (fun a b=>.int (h a b)) z y).thenS fun w=>(pSet (gv i ρ) j w).thenS fun z=>.next (ρ.set i z)):=fun B H0 H σ ρ F D A d=>by
 obtain⟨v,h1,h2⟩:=A.getO hmΓ;refine⟨v,h1,hi B H0 H σ ρ F [] _ A (d.thenS.imp (fun j _ d jv H1 s1 r1=>?_) fun e q=>q)⟩;obtain⟨F1,f1,p1,A1⟩:=r1;obtain⟨z,ez,d⟩:=Dn.pIx d.thenS;obtain⟨xs,ex,d⟩:=Dn.asL d.thenS;rw[ex] at ez;obtain⟨v',h1',h2'⟩:=A1.getO hm;rw[h1] at h1';cases h1';rw[show ρ.getD i .non=.lst xs from ex] at h2';obtain⟨a,vs,G,rfl,hH,ht,hn,hF⟩:=h2';obtain⟨j,rfl⟩:∃j',j=PV.int j':=by cases j<;>first|exact⟨_,rfl⟩|(simp only[pIx] at ez;cases ez;done)
 cases p1;simp only[pIx] at ez;cases e1:Dg xs j with
 |none=>rw[e1] at ez;cases ez
 |some z' =>
  rw[e1] at ez;cases ez;obtain⟨u,G2,e2,e3,e4⟩:=ZkW ht e1;refine⟨a,vs,j,u,rfl,rfl,Yb.of hH,e2,he B H0 H1 σ ρ F1 [] _ A1 (d.thenS.imp (fun y _ d w H2 s2 r2=>?_) fun e q=>q)⟩;obtain⟨F2,f2,p2,A2⟩:=r2;obtain⟨zi,yi,rfl,rfl⟩:∃zi yi,z=PV.int zi/\y=PV.int yi:=by cases z<;>cases y<;>first|exact⟨_,_,rfl,rfl⟩|(exact d.elim;done)
  obtain⟨e5,_⟩:=e3;subst e5;cases p2;refine⟨zi,yi,rfl,rfl, ?_⟩;obtain⟨xs',jj,n,ex',e6,e7,d⟩:=Dn.pSet (show Si _ _ _ _ _ _ _ _ ((pSet (gv i ρ) (.int j) (.int (h zi yi))).thenS _) from d).thenS;cases e6;rw[ex] at ex';cases ex';obtain⟨v',h1',h2'⟩:=A2.getO hm;rw[h1] at h1';cases h1';rw[show ρ.getD i .non=.lst xs from ex] at h2';obtain⟨a',vs',G',e,hH',Ad,hn',hF'⟩:=h2';cases e;refine⟨a,vs',j,n,rfl,rfl,hH',by rw[Ad.length];exact e7, ?_⟩;obtain⟨G'',g1,g2⟩:=Trees.setP (j:=n) (y:=.int (h zi yi)) (w:=.int (h zi yi)) Ad ⟨rfl,rfl⟩;have haF:a∈F2 i:=by rw[hF'];simp
  have hsub:∀b∈a::G'',b∈F2 i:=fun b hb=>by
   rw[hF'];rcases Vd.mp hb with rfl|hb
   ·simp
   ·simp[g1 b hb]
  refine d σ _ (Ae F2 i (a::G'')) (N2 (s1.trans s2) (fun j b hb=>f1 j b (f2 j b hb)) haF fun b hb=>.inr ⟨i,f1 i b (f2 i b (hsub b hb))⟩) (Ag.chg (G:=[]) A2 hm haF (fun b hb=>.inl (hsub b hb)) (by simp) ?_);exact⟨_,h1,a,_,G'',rfl,Uf,g2.put hH' (fun z=>hn' (g1 a z)),fun z=>hn' (g1 a z),rfl⟩
end
noncomputable def RS.out:RS->Rr PV
 |.next _=>.ok .non
 |.ret x=>.ok x
 |.exc e=>.exc e
 |.brk _=>.bad
 |.cont _=>.bad
 |.bad=>.bad
@[simp] theorem RS.out_next: (RS.next ρ).out=.ok .non:=rfl
@[simp] theorem RS.out_ret: (RS.ret x).out=.ok x:=rfl
@[simp] theorem RS.out_exc: (RS.exc e).out=.exc e:=rfl
def Fv(r r':Rr PV):Prop:=r=.bad\/r=r'
structure Pm where
 α:Type
 enc:α->LI5
 pre:α->Prop
 out:α->Rr PV
open Classical in
noncomputable def Pm.fn(m:Pm)(xs:LI5):Rr PV:=if h:∃a,m.enc a=xs/\m.pre a then m.out h.choose else .bad
theorem Pm.fn_eq(m:Pm)(a:m.α)(h:m.pre a)(inj:∀b,m.enc b=m.enc a->m.out b=m.out a):m.fn (m.enc a)=m.out a:=by
 unfold Pm.fn;have hx:∃b,m.enc b=m.enc a/\m.pre b:=⟨a,rfl,h⟩
 rw[Xl hx];exact inj _ hx.choose_spec.1
theorem Pm.ref(m:Pm){g:LI5->Rr PV}(h:∀a,m.pre a->g (m.enc a)=m.out a)(xs:LI5):Fv (m.fn xs) (g xs):=by
 unfold Pm.fn;by_cases hx:∃a,m.enc a=xs/\m.pre a
 ·rw[Xl hx]
  have h2:=hx.choose_spec;right;have:=h _ h2.2;rw[h2.1] at this;exact this.symm
 ·rw[dif_neg hx];exact .inl rfl
section
variable {K:ZlR}{B:Ja->Prop}{H:Hp}
theorem Ag.init(h:Reps K H B xs vs): Ag K (fun a=>B a\/H a=none) H H (vs.map some++List.replicate n none) (List.replicate xs.length .S++List.replicate n .U) (xs++List.replicate n .non) (fun _=>[]) []:=by
 refine⟨La.refl _,fun a h=>.inr h,by simp,by simp,by simp,by simp,by simp,by simp,by simp[h.length],by simp,fun i=>?_⟩;by_cases hi:i<xs.length
 ·have e1:(List.replicate xs.length Md.S++List.replicate n Md.U).getD i .U=.S:=by
   rw[Cb,Lh (by simpa using hi),Zbj hi];rfl
  have e2:(xs++List.replicate n PV.non).getD i .non=xs[i]:=by
   rw[Cb,Lh hi,Yc hi];rfl
  rw[e1,e2];obtain⟨v,h1,h2⟩:=h.get (Yc hi);refine⟨rfl,v, ?_,Ta.mono (fun a us s r=>⟨r,.inl s,by simp,by simp⟩) (fun a us r=>r) h2⟩;rw[Lh (by rw[Pb,h.length];exact hi),Dd,h1];rfl
 ·have e1:(List.replicate xs.length Md.S++List.replicate n Md.U).getD i .U=.U:=by
   rw[Cb,Lg (by simpa using hi)];by_cases q:i-(List.replicate xs.length Md.S).length<n
   ·rw[Zbj q];rfl
   ·rw[Bi (by simpa using q)];rfl
  rw[e1];exact rfl
end
section
variable {P:Bc}{w:Jc}{K:ZlR}{mg:Str->Option Va}{base:Heap}
theorem Xb.okP{x qual:Str}{st:Kb}{f:Ja}{fd:Fk}{N ps:List Str}{k n l:Nat}{kd:Kd}{m:LI5->Rr PV}(F:Xb K x qual st f fd)(S:Uc N ps (Mb st))(hn:ps.length=n)(hl:N.length-n=l)(hbody:∀(Lb:Va) (A:Pd) (outer:List Env) (s:Ga) (H:Hp) (E:XK),Fe k (A.deeper (envOfC qual (Mb st) s.heap.objs.size f Lb)) ->
   ∃t g Y,Y.r=kd/\Wg (Gi Fc P w K mg base N qual (Mb st) f Lb A outer s H E).nox (Dl st) t/\DS K X0 (List.replicate n .S++List.replicate l .U) Y t g/\∀xs,Fv (m xs) (g (xs++List.replicate l .non)).out)(hkN:kd≠.N:=by nofun)(hkM:kd≠.M:=by nofun) :
  Wb P w K mg base Fc (k+1) f fd ps (Tb K n kd W0 m):=by
 refine F.ok S (fun vs H Q E h=>?_) (fun Lb A outer s H vs Q E hr h=>?_)
 ·obtain⟨B,xs,h1,h2,_⟩:=h
  rw[h1.length,h2,hn]
 ·obtain⟨B,xs,h1,h2,dn⟩:=h
  obtain⟨t,g,Y,hY,ht,hd,href⟩:=hbody Lb A outer s H E hr;refine⟨t,ht, ?_⟩;have A0:=Ag.init (n:=l) h1;have est:Dj N vs=vs.map some++List.replicate l none:=by
   unfold Dj;rw[h1.length,h2,hl]
  rw[est];rw[h2] at A0;refine hd _ H H _ _ _ _ A0 ?_;have hdn:Dn (g (xs++List.replicate l .non)).out (fun x=>∀v H',La H H'->Ul K B H kd x v H'->Q v H') (fun e=>∀H',La H H'->W0 e E H'):=by
   rcases href xs with e|e
   ·rw[e] at dn;exact dn.elim
   ·rw[<- e];exact dn
  have retK:∀{x v H'},Ul K (fun a=>B a\/H a=none) H kd x v H'->Ul K B H kd x v H':=fun {x v H'} h=>by
   cases kd with
   |P=>exact h
   |F=>exact h
   |T=>exact Ta.mono (fun a us s r=>⟨r,s.elim id .inr⟩) (fun a us r=>r) h
   |Z=>exact Ta.mono (fun a us s r=>⟨r,s.elim id .inr⟩) (fun a us r=>r) h
   |A=>exact Ta.mono (fun a us s r=>⟨r,s.elim id .inr⟩) (fun a us r=>r) h
   |N=>exact h
   |M=>exact h
  cases e:g (xs++List.replicate l .non) with
  |next ρ =>
   rw[e] at hdn;refine fun σ' H' F' fr A'=>hdn .non H' A'.same ?_;cases kd with
   |P=>exact⟨rfl,rfl⟩
   |F=>exact⟨[],⟨rfl,rfl⟩,by simp⟩
   |T=>exact rfl
   |Z=>exact rfl
   |A=>exact rfl
   |N=>exact Eb rfl hkN
   |M=>exact Eb rfl hkM
  |ret x=>rw[e] at hdn;exact fun v H' s r=>hdn v H' s (retK (hY▸r))
  |exc q=>rw[e] at hdn;exact fun H' s=>hdn H' s
  |brk ρ=>rw[e] at hdn;exact hdn.elim
  |cont ρ=>rw[e] at hdn;exact hdn.elim
  |bad=>rw[e] at hdn;exact hdn.elim
end
section
variable {K:ZlR}{n:Nat}{m:LI5->Rr PV}{e:Expr}{ta:TA}{Γ Γ':List Md}{fa:LI5->Rr LI5}
theorem Zey(hn:Nh fa n)(ha:Ce K X0 Γ Γ' ta fa):DE K X0 Γ Γ' .F (Rl (Tb K n .F W0 m) ta) (fun ρ=>(fa ρ).bind m):=WR (E:=E0) (W:=W0) (fun σ H Q h=>h) (fun e H' h=>h) hn ha
theorem Zez(hn:Nh fa n)(ha:Ce K X0 Γ Γ' ta fa):DE K X0 Γ Γ' .P (Rl (Tb K n .P W0 m) ta) (fun ρ=>(fa ρ).bind m):=YR (E:=E0) (W:=W0) (fun σ H Q h=>h) (fun e H' h=>h) hn ha
theorem TR(hn:Nh fa n)(ha:Av K X0 Γ Γ' ta fa):DE K X0 Γ Γ' .Z (Rl (Tb K n .Z W0 m) ta) (fun ρ=>(fa ρ).bind m):=Ze0 (E:=E0) (W:=W0) (fun σ H Q h=>h) (fun e H' h=>h) hn ha
end
theorem Zhq{K:ZlR}{H:Hp}{a:Ja}{ns:LI0}{m:LI5->Rr PV}(hm:m [.lst (ns.map PV.int)]=.ok (.bl true))(hS:Yb K H a (ns.map V.int)):Tb K 1 .P W0 m [.ref a] H (fun v _=>v=.bl true) fun _ _ _=>False:=by
 refine⟨fun _=>True,[.lst (ns.map PV.int)],Reps.one ⟨a,_,rfl,hS.elim (fun h=>.inl ⟨h,trivial⟩) .inr,NU ns⟩,rfl, ?_⟩;rw[hm];exact fun v H' _ r=>r.2
section
variable {X:Cx}{K:ZlR}{EX:PX->Hp->Prop}{Γ Γ':List Md}{ta:TA}{fa:LI5->Rr LI5}
theorem Zd2(hc:X.calm=true)(e:X.K=K:=by rfl):Og X (.builtin "min") (MY K):=by subst e;exact Zd1 hc
theorem HP:Gh "max"=some (.builtin "max"):=by decide +kernel
noncomputable def U9(xs:LI5):Rr PV:=match xs with
 |[.int i,.int j]=>.ok (.int (if j>i then j else i))
 |_=>.bad
theorem ZeC(ha:Ce K EX Γ Γ' ta fa):DE K EX Γ Γ' .P (Zj (fun xs H Q=>∃i j,xs=[.int i,.int j]/\Q (.int (if j>i then j else i)) H) ta) (fun ρ=>(fa ρ).bind U9):=by
 refine Sv (fun {H xs vs Q} h z e=>?_) (fun xs e h=>?_) ha
 ·unfold U9 at e
  split at e<;>first|(cases e;done)|skip
  cases e;obtain⟨v,w,rfl,h1,h2⟩:=SK h;cases h1;cases h2;exact⟨rfl,fun q=>⟨_,_,rfl,q _ rfl⟩⟩
 ·unfold U9 at h;split at h<;>cases h
end
def RS.good(r:RS)(I:LI5->Prop):Prop:=match r with
 |.next ρ=>I ρ
 |.cont ρ=>I ρ
 |_=>False
theorem RS.good_ex{r: RS}(h:r.good I): ∃ρ',(r=.next ρ'\/r=.cont ρ')/\I ρ':=by
 cases r with
 |next ρ=>exact⟨ρ,.inl rfl,h⟩
 |cont ρ=>exact⟨ρ,.inr rfl,h⟩
 |ret x=>exact h.elim
 |brk ρ=>exact h.elim
 |exc e=>exact h.elim
 |bad=>exact h.elim
theorem OT{xs: LI5}(I:Nat->LI5->Prop)(h0:I 0 ρ)(h:∀i x ρ,xs[i]?=some x->I i ρ->(b x ρ).good (I (i+1))):
  ∃ρ',Vh b xs ρ=.next ρ'/\I xs.length ρ':=by
 have key:∀n i ρ,xs.length=i+n->I i ρ->∃ρ',Vh b (xs.drop i) ρ=.next ρ'/\I xs.length ρ':=by
  intro n
  induction n with
  |zero =>
   intro i ρ hl hI;rw[Ez (by lia)];exact⟨ρ,rfl,by rw[hl];exact hI⟩
  |succ n ih =>
   intro i ρ hl hI;have hi:i<xs.length:=by lia
   rw[Tl hi];obtain⟨ρ',h1,h2⟩:=RS.good_ex (h i _ ρ (Yc hi) hI);obtain⟨ρ2,h3,h4⟩:=ih (i+1) ρ' (by lia) h2;refine⟨ρ2, ?_,h4⟩;simp only[Vh];rcases h1 with h1|h1<;>(rw[h1];exact h3)
 exact key xs.length 0 ρ (by lia) h0
theorem Fs{lo: Int}(h:(Cj lo n)[i]?=some x): i<n/\x=.int (lo+i):=by
 unfold Cj at h;rw[Dd] at h;by_cases hi:i<n
 ·rw[Rq hi] at h;cases h;exact⟨hi,rfl⟩
 ·rw[Bi (by simpa using hi)] at h;cases h
@[simp] theorem Sy{lo: Int}: (Cj lo n).length=n:=by simp[Cj]
theorem RI{α β:Type}{f:α->Rr β}{g:α->β}:∀{xs:List α},(∀x∈xs,f x=.ok (g x))->Xh f xs=.ok (xs.map g)
 |[],_=>rfl
 |x::xs,h=>by
  simp only[Xh,h x (by simp),Rr.bind_ok,RI (xs:=xs) fun y hy=>h y (by simp[hy]),Ed]
@[simp] theorem Zgk: gv 0 (x::ρ)=x:=rfl
@[simp] theorem Zgj: gv (i+1) (x::ρ)=gv i ρ:=rfl
theorem MJ{ns:LI0}{k:Int}(h0:0<=k)(h1:k<ns.length):pIx (.lst (ns.map PV.int)) (.int k)=.ok (.int (ns.getD k.toNat 0)):=by
 have:Dg (ns.map PV.int) k=some (.int (ns.getD k.toNat 0)):=by
  unfold Dg;rw[Pb,X7 h0 h1];show (ns.map PV.int)[k.toNat]?=_;rw[Dd,Yc (by lia),Cb,Yc (by lia)];rfl
 simp only[pIx,this]
theorem TJ{ns:LI0}{k y:Int}(h0:0<=k)(h1:k<ns.length):pSet (.lst (ns.map PV.int)) (.int k) (.int y)=.ok (.lst ((ns.set k.toNat y).map PV.int)):=by
 simp only[pSet,Pb,X7 h0 h1,List.map_set]
theorem Xw{ns:LI0}(h:ns.length<=1000000):newF (ns.map PV.int)=.ok (.lst (ns.map PV.int)):=by
 unfold newF;rw[PV.flats_ints,Pb,Hb h];rfl
theorem SR(ns:LI0):PV.dats (ns.map PV.int)=ns.map PyData.int:=by
 induction ns with
 |nil=>rfl
 |cons n ns ih=>simp[PV.dats,PV.dat,ih]
theorem Zd8(ns:LI0):PyData.canLayAll0 (ns.map PyData.int)=true:=by
 induction ns with
 |nil=>rfl
 |cons n ns ih=>simp[PyData.canLayAll0,PyData.canLay0,ih]
theorem LW(i:Int):Aj (.int i)=true:=by simp[Aj,PV.noX,PV.dat,PyData.canLay0,PyData.depth]
theorem MW(ns:LI0):Aj (.lst (ns.map PV.int))=true:=by
 have hd:PyData.depthAll (ns.map PyData.int)=0:=by
  induction ns with
  |nil=>rfl
  |cons n ns ih=>simp[PyData.depthAll,PyData.depth,ih]
 simp[Aj,PV.noX,PV.noXs_ints,PV.dat,SR,PyData.canLay0,Zd8,PyData.depth,hd]
theorem MS:∀(ns ms:LI0),PyData.eqvAll (ns.map PyData.int) (ms.map PyData.int)=decide (ns=ms)
 |[],[]=>by simp[PyData.eqvAll]
 |[],m::ms=>by simp[PyData.eqvAll]
 |n::ns,[]=>by simp[PyData.eqvAll]
 |n::ns,m::ms=>by
  simp only[Ed,PyData.eqvAll,PyData.eqv,MS ns ms,List.cons.injEq,Bool.decide_and];rw[Bool.beq_eq_decide_eq]
theorem YW(ns ms:LI0): Ji g (.lst (ns.map PV.int)) (.lst (ms.map PV.int))=.ok (.bl (g (decide (ns=ms)))):=by
 unfold Ji;rw[MW,MW];simp only[Bool.and_self,if_true,PV.dat,SR,PyData.eqv,MS]
theorem ZiN(i j:Int): Ji g (.int i) (.int j)=.ok (.bl (g (decide (i=j)))):=by
 unfold Ji;rw[LW,LW];simp only[Bool.and_self,if_true,PV.dat,PyData.eqv];rw[Bool.beq_eq_decide_eq]
theorem Zjb(ns:LI0):Vq [.lst (ns.map PV.int)]=.ok (.int ns.length):=by simp[Vq]
theorem Zjr(ns:LI0):WJ [.lst (ns.map PV.int)]=.ok (.int ns.sum):=by simp[WJ,Eo]
theorem Zji(h:ns≠[]): PJ [.lst (ns.map PV.int)]=.ok (.int (Ll ns)):=by simp[PJ,Eo,h]
theorem Zje{ns:LI0}(h:ns.length<=1000000):Uq [.lst (ns.map PV.int)]=.ok (.lst (ns.map PV.int)):=by
 simp only[Uq];exact Xw h
theorem AJ{ns ms:LI0}(h:ns.length+ms.length<=1000000):newF (ns.map PV.int++ms.map PV.int)=.ok (.lst ((ns++ms).map PV.int)):=by
 rw[<- Po];exact Xw (by simpa using h)
theorem ZdC{i j:Int}(a b:Nat)(h1:i.natAbs<=10^a)(h2:j.natAbs<=10^b)(ha:a<=4000:=by decide)(hb:b<=4000:=by decide):Bt i j:=by
 have t:∀c:Nat,c<=4000->(10:Nat)^c<2^60000:=fun c hc=>Sq (NN (by decide) hc) (by decide +kernel);exact⟨Sq h1 (t a ha),Sq h2 (t b hb)⟩
theorem ZR{i j:Int}(b:Nat)(h1:0<j)(h2:j.natAbs<=10^b)(hb:b<=2000:=by decide):Qt i j:=by
 have t:∀c:Nat,c<=2000->(10:Nat)^c<2^9000:=fun c hc=>Sq (NN (by decide) hc) (by decide +kernel);exact⟨h1,Sq h2 (t b hb)⟩
theorem XW{i j:Int}(h:Qt i j):HJ (.int i) (.int j)=.ok (.int (i/j)):=K3 (Hb h)
theorem Q9{i j:Int}(h:Bt i j):SJ (.int i) (.int j)=.ok (.int (i*j)):=K3 (Hb h)
theorem RJ{i j:Int}(h:0<j):QX (.int i) (.int j)=.ok (.int (i%j)):=K3 (Hb h)
theorem Ax{i j:Int}(h:Vv i j):Qx (.int i) (.int j)=.ok (.int (i^j.toNat)):=K3 (Hb h)
@[simp] theorem ZiE{i j:Int}:EJ (.int i) (.int j)=.ok (.int (i+j)):=rfl
@[simp] theorem Zjq{i j:Int}:DX (.int i) (.int j)=.ok (.int (i-j)):=rfl
@[simp] theorem Zjf{i j:Int}:UX (.int i) (.int j)=.ok (.bl (decide (i<j))):=rfl
@[simp] theorem Zja{i j:Int}:pLe (.int i) (.int j)=.ok (.bl (decide (i<=j))):=rfl
@[simp] theorem ZiQ{i j:Int}:VX (.int i) (.int j)=.ok (.bl (decide (j<i))):=rfl
@[simp] theorem ZiP{i j:Int}:JX (.int i) (.int j)=.ok (.bl (decide (j<=i))):=rfl
@[simp] theorem Zgf{i:Int}:grd (.int i)=.ok (.int i):=rfl
@[simp] theorem Zgg: grd (.str i)=.ok (.str i):=rfl
@[simp] theorem ZbZ: asB (.bl b)=.ok b:=rfl
@[simp] theorem Zcb: asL (.lst xs)=.ok xs:=rfl
@[simp] theorem Zca{i:Int}:asI (.int i)=.ok i:=rfl
@[simp] theorem ZiT{x: Int}: J9 n (.int x)=.ok (.bl (Op (Oo (.int x)) n)):=rfl
@[simp] theorem ZiU: J9 n (.lst x)=.ok (.bl (Op (Oo (.lst x)) n)):=rfl
@[simp] theorem Zjk{i:Int}:A9 (.int i)=.ok (.int (-i)):=rfl
@[simp] theorem ZiY: pIx (.tup (x::xs)) (.int 0)=.ok x:=by simp[pIx,Dg,Jk]
@[simp] theorem ZiZ: pIx (.tup (x::y::xs)) (.int 1)=.ok y:=by
 have:Dg (x::y::xs) 1=some y:=by unfold Dg;rw[X7 (by lia) (by simp only[Ci];lia)];rfl
 simp only[pIx,this]
theorem AX{j:Int}(h:-(2^62)<=j/\j<2^62):B9 [.int j]=.ok (Cj 0 j.toNat):=by simp only[B9,Mr,Hb h,if_true]
theorem Zjl{i j:Int}(h:-(2^62)<=i/\i<2^62)(h':-(2^62)<=j/\j<2^62):C9 [.int i,.int j]=.ok (Cj i (j-i).toNat):=by simp only[C9,Mr,Hb h,Hb h',Bool.and_self,if_true]
theorem Sw(h:xs.length<=1000000): lenM xs=.ok ():=by simp only[lenM,Da h]
@[simp] theorem ZgC:Op (Oo (.int i)) "int"=true:=rfl
@[simp] theorem ZgB:Op (Oo (.int i)) "bool"=false:=rfl
@[simp] theorem ZgD:Op (Oo (.lst xs)) "list"=true:=rfl
theorem Wi(h:I ρ): (RS.next ρ).good I:=h
theorem Zgw: CU h hs (x::xs) ρ=(h x ρ).bind fun ρ'=>hs xs ρ':=rfl
theorem Zit: DW [] ρ=.ok ρ:=rfl
theorem Nj{ns ms:LI0}(e:ns.map PV.int=ms.map PV.int):ns=ms:=by
 have:=Ef Kr e;simpa using this
theorem ZiJ{i j:Int}(h0:0<j)(h1:j<1000000000000):HJ (.int i) (.int j)=.ok (.int (i/j)):=XW (ZR 12 h0 (by lia))
theorem ZiB:Qx (.int 10) (.int 60)=.ok (.int (10^60)):=by rw[Ax (by decide)];rfl
theorem Zie(h:xs.length<=1000): mkT xs=.ok (.tup xs):=Da h
theorem Zid(h:xs.length<=1000): mkL xs=.ok (.lst xs):=Da h
noncomputable def KD{α:Type}:Sem α->Prop
 |.pure _=>True
 |.raise _=>True
 |.unsupported _=>True
 |.finish _=>True
 |.rule _ k=>KD (k ())
 |.at _ k=>KD (k ())
 |.load _ _ k=>∀o,KD (k o)
 |.update _ _ f k=>(∀o:Obj,(f o).dict=o.dict/\(o.isFreed=false->(f o).isFreed=false))/\KD (k ())
 |.alloc _ k=>∀a,KD (k a)
 |.loadIfAlive _ k=>∀o,KD (k o)
 |.point _ k=>KD (k ())
 |.register _ _=>True
 |.fresh k=>∀t,KD (k t)
 |.ask k=>∀x,KD (k x)
 |.choose _ _ k=>∀n,KD (k n)
 |.os _ _ k=>∀r,KD (k r)
 |.call _ _ _ _ _=>False
 |.handled _ k=>∀x,KD (k x)
 |.newGen _ k=>∀g,KD (k g)
 |.genState _ k=>∀x,KD (k x)
 |.resume _ _ _ _=>False
 |.yield _ _ _ _=>True
 |.stack k=>∀x,KD (k x)
 |.fork _ _=>True
 |.thread k=>∀x,KD (k x)
 |.await _ _ _ _ _=>True
def DK(h h':Heap):Prop:=∀b o,h.get? b=some o->∃o',h'.get? b=some o'/\o'.dict=o.dict
theorem DK.refl(h:Heap):DK h h:=fun b o e=>⟨o,e,rfl⟩
theorem DK.trans(a:DK h1 h2)(b:DK h2 h3): DK h1 h3:=fun x o e=>by
 obtain⟨o1,e1,d1⟩:=a x o e;obtain⟨o2,e2,d2⟩:=b x o1 e1;exact⟨o2,e2,d2.trans d1⟩
theorem ZgU: ∀(t:Sem α) (p:Pos) (s:Ga),KD t->DK h0 s.heap->Sem.wp M Γ t Q E p s ->
  Sem.wp M Γ t (fun a p' s'=>Q a p' s'/\DK h0 s'.heap) (fun e p' s'=>E e p' s'/\DK h0 s'.heap) p s:=by
 intro t
 induction t with
 |pure a=>intro p s _ d h;exact⟨h,d⟩
 |raise e=>intro p s _ d h;exact⟨h,d⟩
 |unsupported w=>intro p s _ _ h;exact h
 |finish e=>intro p s _ _ h;exact h
 |rule t k ih=>intro p s k d h;exact ih () p s k d h
 |«at» q k ih=>intro p s k d h;exact ih () q s k d h
 |load a q k ih=>intro p s k d h;obtain⟨o,e,h⟩:=h;exact⟨o,e,ih o p s (k o) d h⟩
 |update a q f k ih =>
  intro p s k d h;refine⟨h.1,ih () p _ k.2 (d.trans fun b o e=>?_) h.2⟩;by_cases hb:a=b
  ·subst hb
   exact⟨_,Heap.get?_update_self f e ((k.1 o).2 (Heap.get?_some_iff.mp e).2),(k.1 o).1⟩
  ·exact⟨o,(Heap.get?_update_other _ f hb).trans e,rfl⟩
 |alloc o k ih=>intro p s k d h;exact ih _ p _ (k _) (d.trans fun b o' e=>⟨o',Heap.get?_push_of_some _ e,rfl⟩) h
 |loadIfAlive a k ih=>intro p s k d h;exact ih _ p s (k _) d h
 |point l k ih=>intro p s k d h;exact ih () p s k d h
 |register a k ih=>intro p s _ _ h;exact h
 |fresh k ih=>intro p s k d h;exact ih _ p _ (k _) d h
 |ask k ih=>intro p s k d h;exact ih _ p _ (k _) d h
 |choose a n k ih=>intro p s k d h;exact⟨h.1,ih _ p _ (k _) d h.2⟩
 |os q l k ih=>intro p s k d h;exact ih _ p _ (k _) d h
 |call c h g l k ih=>intro p s k d h;exact k.elim
 |handled o k ih=>intro p s k d h;exact ih _ p _ (k _) d h
 |newGen c k ih=>intro p s k d h;exact ih _ p _ (k _) d h
 |genState g k ih=>intro p s k d h;obtain⟨st,e,h⟩:=h;exact⟨st,e,ih _ p s (k _) d h⟩
 |resume g r l k ih=>intro p s k d h;exact k.elim
 |yield v g l k ih=>intro p s _ _ h;exact h
 |stack k ih=>intro p s k d h;exact ih _ p _ (k _) d h
 |fork c k ih=>intro p s _ _ h;exact h
 |thread k ih=>intro p s k d h;exact ih _ p _ (k _) d h
 |await a t d l k ih=>intro p s _ _ h;exact h
theorem U3(k:KD t)(h:Ra M A t Q E s): Ra M A t (fun a s'=>Q a s'/\DK s.heap s'.heap) (fun e s'=>E e s'/\DK s.heap s'.heap) s:=
 fun Γ p hΓ=>ZgU t p s k (DK.refl _) (h Γ p hΓ)
theorem Sf: ∀(m:Sem α) {f:α->Sem β},KD m->(∀a,KD (f a))->KD (m >>= f):=by
 intro m f;show KD m->_->KD (m.bind f)
 induction m with
 |pure a=>intro _ h;exact h a
 |raise e=>intro _ _;trivial
 |unsupported w=>intro _ _;trivial
 |finish e=>intro _ _;trivial
 |rule t k ih=>intro k h;exact ih () k h
 |«at» q k ih=>intro k h;exact ih () k h
 |load a q k ih=>intro k h o;exact ih o (k o) h
 |update a q g k ih=>intro k h;exact⟨k.1,ih () k.2 h⟩
 |alloc o k ih=>intro k h a;exact ih a (k a) h
 |loadIfAlive a k ih=>intro k h o;exact ih o (k o) h
 |point l k ih=>intro k h;exact ih () k h
 |register a k ih=>intro _ _;trivial
 |fresh k ih=>intro k h a;exact ih a (k a) h
 |ask k ih=>intro k h a;exact ih a (k a) h
 |choose a n k ih=>intro k h a;exact ih a (k a) h
 |os q l k ih=>intro k h a;exact ih a (k a) h
 |call c h g l k ih=>intro k h;exact k.elim
 |handled o k ih=>intro k h a;exact ih a (k a) h
 |newGen c k ih=>intro k h a;exact ih a (k a) h
 |genState g k ih=>intro k h a;exact ih a (k a) h
 |resume g r l k ih=>intro k h;exact k.elim
 |yield v g l k ih=>intro _ _;trivial
 |stack k ih=>intro k h a;exact ih a (k a) h
 |fork c k ih=>intro _ _;trivial
 |thread k ih=>intro k h a;exact ih a (k a) h
 |await a t d l k ih=>intro _ _;trivial
theorem Wh: KD (pure a:Sem α):=trivial
theorem Vo: KD (unsupported w:Sem α):=trivial
theorem QI: KD (load a):=fun _=>trivial
theorem ZgQ(g:Array Va->Array Va)(o:Obj):(Obj.mapFields g o).dict=o.dict/\(o.isFreed=false->(Obj.mapFields g o).isFreed=false):=by
 obtain⟨c,d,dt,sl⟩:=o;cases dt<;>exact⟨rfl,fun h=>h⟩
theorem ZgN(v:Va):KD (fieldsOf v):=by
 unfold fieldsOf;cases v<;>try exact Vo
 refine Sf _ QI fun o=>?_;cases o.data<;>first|exact Wh|exact Vo
theorem Y7(v:Va)(i:Nat):KD (field v i):=by
 unfold field;refine Sf _ (ZgN v) fun vs=>?_;cases vs[i]?<;>first|exact Wh|exact Vo
theorem AI(v:Va)(i:Nat)(x:Va):KD (setField v i x):=by
 unfold setField;cases v<;>try exact Vo
 unfold updateField;refine Sf _ QI fun o=>?_;cases o.data<;>try exact Vo
 dsimp only
 split
 ·exact⟨fun o=>ZgQ _ o,trivial⟩
 ·exact Vo
theorem BI(e:Va)(f:Option Ja):KD (setFlight e f):=by
 unfold setFlight;refine Sf _ (Y7 e 1) fun tb=>?_
 split
 ·exact AI _ _ _
 ·exact Wh
theorem ZgR(ty:String)(vs:LI3):KD (newFields ty vs):=by
 unfold newFields newObj newObjAsIs;dsimp only;have al:∀(o:Obj),KD (alloc o):=fun _ _=>trivial
 split
 ·exact Sf _ Vo fun _=>Sf _ (al _) fun _=>Wh
 ·exact Sf _ (al _) fun _=>Wh
theorem ZgM(env:Env)(outer:List Env):KD (behindIsImport env outer):=by
 unfold behindIsImport
 split
 ·exact Wh
 ·split
  ·exact Wh
  ·exact Sf _ (Y7 _ _) fun _=>Wh
theorem ZgP(env:Env)(i:Bool)(outer:List Env):KD (keptBack env i outer):=by
 cases outer with
 |nil =>
  have u:KD underTheClaimsCaller:=by
   unfold underTheClaimsCaller;exact Sf _ (show KD stack from fun _=>trivial) fun _=>Wh
  rw[keptBack]
  split
  ·exact Wh
  ·exact Sf _ u fun _=>Wh
 |cons c r=>unfold keptBack;exact Wh
theorem ZgT{o: Obj}: ({ o with slots:=sl }:Obj).dict=o.dict/\(o.isFreed=false->({ o with slots:=sl }:Obj).isFreed=false):=by
 obtain⟨c,d,dt,s⟩:=o;cases dt<;>exact⟨rfl,fun h=>h⟩
theorem QV:∀(l:List Env),KD (readyFrames l)
 |[]=>trivial
 |env::outer=>by
  unfold readyFrames;cases env.frame with
  |none=>exact Vo
  |some f =>
   dsimp only;refine Sf _ QI fun o=>?_
   split
   ·exact Wh
   ·refine Sf _ (ZgM _ _) fun _=>Sf _ (ZgP _ _ _) fun _=>Sf _ ⟨fun o=>ZgT,trivial⟩ fun _=>QV outer
theorem ZgO(env:Env):KD (PySem.frameOf env):=by
 unfold PySem.frameOf;refine Sf _ ?_ fun l=>Sf _ ?_ fun r=>?_
 ·unfold frameEnvs
  exact Sf _ (fun _=>trivial) fun _=>Wh
 ·cases (List.dropWhile (fun x=>x.frame != env.frame) l) with
  |nil=>exact Wh
  |cons a r=>exact Sf _ (QV _) fun _=>Wh
 ·cases r<;>first|exact Wh|exact Vo
theorem ZgS(f:Ja)(b:Bool):KD (entryPlaceOf f b):=by
 unfold entryPlaceOf;refine Sf _ (show KD stack from fun _=>trivial) fun acts=>?_
 split<;>exact Wh
theorem UV(e:Va)(env:Env):KD (noteFrame e env):=by
 unfold noteFrame;cases env.frame with
 |none=>exact Vo
 |some f =>
  dsimp only;refine Sf _ (Y7 _ _) fun head=>?_;have tail:∀(hd:Bool),KD (do setField e 1 (<- EntryCells.newEntry head (<- PySem.frameOf env) .none (rawInt f) .none (<- entryPlaceOf f hd))):=fun hd =>
   Sf _ (ZgO env) fun _=>Sf _ (ZgS _ _) fun _=>Sf _ (ZgR _ _) fun _=>AI _ _ _
  split
  ·refine Sf _ (Y7 _ _) fun x=>?_
   split
   ·exact Wh
   ·exact Sf _ (AI _ _ _) fun _=>tail _
  ·exact tail _
theorem JV(env:Env)(e:Va):KD (leaving env e):=Sf _ (UV e env) fun _=>BI e none
theorem Wf.there(x:Wf P w H h a o): ∃u,h.get? a=some u:=by
 cases o with
 |lst xs=>obtain⟨_,_,_,_,e⟩:=x;exact⟨_,e⟩
 |tup xs=>obtain⟨_,_,_,_,e,_⟩:=x;exact⟨_,e⟩
 |dK Ub=>obtain⟨_,_,_,_,o,_,_,e,_⟩:=x;exact⟨_,e⟩
 |dT Ub=>obtain⟨_,_,_,_,o,_,_,e,_⟩:=x;exact⟨_,e⟩
 |set S n=>obtain⟨o,_,_,_,e,_⟩:=x;exact⟨_,e⟩
 |ins C dx fs=>obtain⟨_,_,_,e,_⟩:=x;exact⟨_,e⟩
 |own y=>obtain⟨_,e⟩:=x;exact⟨_,e⟩
 |xd fs=>obtain⟨_,⟨_,_,_,e,_⟩,_⟩:=x;exact⟨_,e⟩
 |rng lo hi=>obtain⟨_,_,_,e⟩:=x;exact⟨_,e⟩
 |frz ob u=>exact⟨_,x.1⟩
 |tbl ps q=>obtain⟨_,e,_⟩:=x;exact⟨_,e⟩
 |met f y=>exact⟨_,x⟩
 |ext φ=>exact x.2.1
def Et(H:Hp)(ea k:Ja)(o:Obj):Prop:=(o.dict=none/\k=ea)\/(o.dict=some k/\∃fs,H k=some (.xd fs))
structure JE(P:Bc)(w:Jc)(outer:List Env)(H:Hp)(s:Ga)(ea k:Ja)(cls:Va)(H':Hp)(s':Ga):Prop where
 os:s'.os=s.os
 bare:AllBare s'.gens
 un:Un (Pe outer) [] H H' s.heap s'.heap
 hok:He P w H' s'.heap
 new:H' ea=none
 dict:∃o,s'.heap.get? ea=some o/\Et H' ea k o
 fly:∃(Bh:Heap) (t:Ja),Heap.FlyingW Bh outer ea cls (.ref t) s'.heap/\(∀b u,H' b=some u->∀o,s'.heap.get? b=some o->Bh.get? b=some o)/\∀b o,s.heap.get? b=some o->b ∉ Pe outer->∃o',Bh.get? b=some o'
noncomputable def Cg(P:Bc)(w:Jc):Gn:=fun outer H s E e s'=>∃ea k cls H',e=.ref ea/\JE P w outer H s ea k cls H' s'/\E cls (some k) H'
section
variable {P:Bc}{w:Jc}{K:ZlR}{mg:Str->Option Va}{base:Heap}{N:List Str}{qual:Str}{scope:Scope}{f:Ja}{cd:Va}{A:Pd}{outer:List Env}{s:Ga}{H:Hp}{E:XK}{Za:List (Ja×Obj)}{σ:St}{H1 H':Hp}{s1 s':Ga}{g h'' Bh:Heap}{ea k t:Ja}{cls:Va}
theorem QT(I:Ca (Gi (Cg P w) P w K mg base N qual scope f cd A outer s H E) Za σ H1 s1)(os:s'.os=s1.os)(bare:AllBare s'.gens)(un:Un (s.heap.objs.size::Pe outer) [] H1 H' s1.heap g)(hok:He P w H' g)(up:g.UpToSlots h'')(fl:Heap.FlyingW Bh outer ea cls (.ref t) h'')(st:Bh.StaysIn g)(c1:∀b u,H' b=some u->∀o,g.get? b=some o->Bh.get? b=some o)(c2:∀b o,s.heap.get? b=some o->b ∉ s.heap.objs.size::Pe outer->∃o',Bh.get? b=some o')(new:H' ea=none)(dn:∃o,g.get? ea=some o/\Et H' ea k o)(dk:DK g h''):JE P w outer H s ea k cls H' { s' with heap:=h'' }:=by
 have neL:∀b o,s.heap.get? b=some o->b≠s.heap.objs.size:=fun b o e=>Jf (Heap.lt_size e);have nin:∀b o,s.heap.get? b=some o->b ∉ Pe outer->b ∉ s.heap.objs.size::Pe outer:=fun b o e n z=>(Vd.mp z).elim (neL b o e) n;have b0:Un (Pe outer) [] H H1 s.heap s1.heap:=I.base;have fr0:∀b∈Pe outer,H b=none:=I.ok.frf;have slot:∀b o,s.heap.get? b=some o->H b=none->b∈Pe outer->∃sl,h''.get? b=some { o with slots:=sl }:=fun b o q n hb=>by
  obtain⟨s2,e1⟩:=b0.slot b o q n hb (by simp);obtain⟨s3,e2⟩:=un.slot b _ e1 (b0.free b o q n (by simp)) (Jj _ hb) (by simp);obtain⟨_,o',ho',hnf⟩:=Heap.FunFrames.mem (show s.heap.FunFrames base outer from I.ok.funs) hb;rw[q] at ho';cases ho';obtain⟨s4,e3⟩:=up b _ e2 hnf;exact⟨s4,e3⟩
 have keepB:∀b o,s.heap.get? b=some o->H b=none->b ∉ Pe outer->Bh.get? b=some o:=fun b o q n hb=>by
  have e1:=b0.keep b o q n hb (by simp);have e2:=un.keep b o e1 (b0.free b o q n (by simp)) (nin b o q hb) (by simp);obtain⟨o',e3⟩:=c2 b o q (nin b o q hb);have e4:=st b o' e3;rw[e2] at e4;cases e4;exact e3
 have thereB:∀b o,s.heap.get? b=some o->b ∉ Pe outer->∃o',Bh.get? b=some o':=fun b o q hb=>by
  exact c2 b o q (nin b o q hb)
 refine⟨os.trans I.os,bare,⟨fun b o q n hb _=>fl.1 b o (keepB b o q n hb),fun b o q n hb _=>slot b o q n hb,fun b o q n _=>?_,fun b o q _=>?_,fun b xs q=>un.tups b xs (b0.tups b xs q),fun b o xs q=>un.frzs b o xs (b0.frzs b o xs q),fun b ps w' q=>?_⟩,fun b u e=>?_,new,(let ⟨o,e,d⟩:=dn;let ⟨o',e',d'⟩:=dk ea o e;⟨o',e',by unfold Et at d ⊢;rw[d'];exact d⟩),Bh,t,fl,fun b u e o q=>?_,thereB⟩
 ·obtain⟨o1,e1⟩:=b0.there b o q (by simp)
  exact un.free b o1 e1 (b0.free b o q n (by simp)) (by simp)
 ·by_cases hb:b∈Pe outer
  ·obtain⟨sl,e⟩:=slot b o q (fr0 b hb) hb
   exact⟨_,e⟩
  ·obtain⟨o',e⟩:=thereB b o q hb
   exact⟨o',fl.1 b o' e⟩
 ·exact un.tbls b ps w' (b0.tbls b ps w' q)
 ·refine(hok b u e).stay (fun c v hc q=>?_) (fun _ q=>q) fun _ _ q=>q
  rcases hc with rfl|hc
  ·exact fl.1 c v (c1 c u e v q)
  ·exact fl.1 c v (c1 c _ hc v q)
 ·obtain⟨o1,e1⟩:=(hok b u e).there
  have e2:=c1 b u e o1 e1;have e3:=fl.1 b o1 e2;rw[e3] at q;cases q;exact e2
def UF(X:Cx)(E:St->XK):Prop:=∀(Za:List (Ja×Obj)) (σ:St) (H:Hp) (s:Ga) (e:Va) (s':Ga),Ca X Za σ H s->Cg X.prog X.w X.stack H s (E σ) e s'->X.xe e s'
def SO(X:Cx)(E:St->XK):Prop:=∀(Za:List (Ja×Obj)) (σ:St) (H:Hp) (s:Ga) (h':Heap) (ea:Ja) (cls:Va) (args:LI3),Ca X Za σ H s->Heap.MadeExcOf s.heap h' ea cls args->E σ cls (some ea) H->X.xe (.ref ea) { s with heap:=h' }
theorem Rm:UF (Gi (Cg P w) P w K mg base N qual scope f cd A outer s H E) (fun _=>E):=fun Za σ H1 s1 e s' I hq=>by
 obtain⟨ea,k,cls,H',rfl,F,hE⟩:=hq;obtain⟨Bh,t,fl,c1,c2⟩:=F.fly;refine Vf (U3 (JV _ _) (wpAny_leaves_onW (Q:=fun _ s''=>∃h'',s''={ s' with heap:=h'' }/\Heap.FlyingW Bh outer ea cls (.ref t) h''/\s'.heap.UpToSlots h'') I.ok.frames rfl fl fun h'' fl'' up=>⟨h'',rfl,fl'',up⟩)) (fun _ s'' q=>?_) fun _ _ q=>q.1;obtain⟨⟨h'',rfl,fl'',up⟩,dk⟩:=q;exact⟨ea,k,cls,H',rfl,QT I F.os F.bare F.un F.hok up fl'' fl.1 c1 (fun b o e n=>let ⟨o1,e1⟩:=(show Un (Pe outer) [] H H1 s.heap s1.heap from I.base).there b o e (by simp);c2 b o1 e1 n) F.new F.dict dk,hE⟩
theorem Tw:SO (Gi (Cg P w) P w K mg base N qual scope f cd A outer s H E) (fun _=>E):=fun Za σ H1 s1 h' ea cls args I hx hE=>by
 have hin:∀env∈(Gi (Cg P w) P w K mg base N qual scope f cd A outer s H E).stack,∀b,env.frame=some b->b∈Pe (Gi (Cg P w) P w K mg base N qual scope f cd A outer s H E).stack:=fun env he b hb=>CN.mpr ⟨env,he,hb⟩;have Jz:∀b u,H1 b=some u->b ∉ Pe (Gi (Cg P w) P w K mg base N qual scope f cd A outer s H E).stack:=fun b u e z=>by rw[I.stkFree b z] at e;cases e
 have new:H1 ea=none:=by
  cases q:H1 ea with
  |none=>rfl
  |some u=>obtain⟨o,e⟩:=(I.hok ea u q).there;rw[hx.new] at e;cases e
 refine Vf (U3 (JV _ _) (wpAny_leaves_madeW (Q:=fun _ s''=>∃h'' t,s''={ s1 with heap:=h'' }/\Heap.FlyingW (PySem.W.hideAll s1.heap (Pe (Gi (Cg P w) P w K mg base N qual scope f cd A outer s H E).stack)) outer ea cls (.ref t) h''/\h'.UpToSlots h'')
  (base:=PySem.W.hideAll s1.heap (Pe (Gi (Cg P w) P w K mg base N qual scope f cd A outer s H E).stack)) (h:=s1.heap) I.ok.frames rfl (fun b o q=>PySem.W.of_hideAll _ q) (PySem.W.funFrames_hide I.stack hin) hx fun h'' t fl _ _ up=>⟨h'',t,rfl,fl,up⟩)) (fun _ s'' q=>?_) fun _ _ q=>q.1
 obtain⟨⟨h'',t,rfl,fl,up⟩,dk⟩:=q;have dn:∃o,h'.get? ea=some o/\Et H1 ea ea o:=by obtain⟨t,e,_⟩:=hx.there;exact⟨_,e,.inl ⟨rfl,rfl⟩⟩
 refine⟨ea,ea,cls,H1,rfl,QT (g:=h') (t:=t) (s':={ s1 with heap:=h' }) I rfl I.bare (Un.kept hx.keeps) (I.hok.kept hx.keeps) up fl (fun b o q=>hx.keeps b o (PySem.W.of_hideAll _ q)) (fun b u e o q=>?_) (fun b o q n=>let ⟨o1,e1⟩:=(show Un (Pe outer) [] H H1 s.heap s1.heap from I.base).there b o q (by simp);⟨o1,PySem.W.hideAll_get _ e1 n⟩) new dn dk,hE⟩;obtain⟨o1,e1⟩:=(I.hok b u e).there;have e2:=hx.keeps b o1 e1;rw[q] at e2;cases e2;exact PySem.W.hideAll_get _ e1 (Jz b u e)
end
noncomputable def ZG:LI3:=[.type "ValueError",.type "Exception",.type "BaseException",.type "object"]
noncomputable def Za5(C:Ja)(E:St->XK)(ta:TA):TS:=fun D σ H=>ta σ H fun vs H1=>vs.length<=1000/\∀ea,H1 ea=none->E σ (.ref C) (some ea) H1
theorem Zfo{K: ZlR}{h₀: Heap}(X:K.In h₀)(q:PySem.W.excIn K C bmB newId=true):
  ∃tl N nm qn bs hdct sn sub ab col dd k0 k1 k2 k3 k5 mN,h₀.get? C=some (excClassObj nm qn C N bs tl hdct sn sub ab col dd k0 k1 k2 k3 k5 newId)/\h₀.Ns N mN/\mN "__init__"=none/\OwnTail h₀ bmB tl:=by
 unfold PySem.W.excIn at q
 split at q
 ·rename_i dd cd sl ho
  split at q
  ·rename_i C' bm k0 k1 k2 k3 n k5 hm hs
   simp only[Bool.and_eq_true,beq_iff_eq,Bool.not_eq_true'] at q;obtain⟨⟨⟨⟨⟨rfl,rfl⟩,hdel⟩,ht⟩,hok⟩,hni⟩:=q;obtain⟨nm,bs,mro,ns,qn,hd,sn,sub,ab,col,del⟩:=cd;dsimp only at hm hdel hok hni;subst hm hdel;have hsl:sl=#[k0,k1,k2,k3,some (.builtin n),k5]:=by
    obtain⟨l⟩:=sl;simp only at hs;rw[hs]
   subst hsl;exact⟨bm,ns,nm,qn,bs,hd,sn,sub,ab,col,dd,k0,k1,k2,k3,k5,_,X _ _ ho,.of_isNs (PySem.W.isNs_of_in X hok),PySem.W.nsMap_none_of_in X hok hni,PySem.W.tail_of_in X ht⟩
  ·cases q
 ·cases q
section
variable {X:Cx}{E:St->XK}{x:Str}{C:Ja}{np cpos pos:Pos}{e:Expr}{es:List Expr}{ta:TA}
theorem Py(hM:SO X E)(hq:PySem.W.excIn X.K C ZG "ValueError.__new__"=true)(hg:Gl X x)(hm:X.mg x=some (.ref C))(hc:X.calm=true)(ha:PA X (e::es) ta)(hdb:(x==("__debug__":Str))=false:=by decide)(he:Tc (e::es) X.env=(false,eval e X.env)::Tc es X.env:=by rfl)(hpl:(Fh cpos (Tc es X.env)).any (·.1)=false:=by rfl) :
  PS X (.Raise (some (.Call (.Name x np) (e::es) [] cpos)) none pos) (Za5 C E ta):=by
 intro Za s σ H D I h;obtain⟨tl,N,nm,q,bs,hdct,sn,sub,ab,col,dd,k0,k1,k2,k3,k5,mN,hC,hN,hni,T⟩:=Zfo I.ok.mod.kin hq;refine wpAny_Raise_call_subT (C:=C) (nm:=nm) (q:=q) (N:=N) (bs:=bs) (bm:=tl) (hdct:=hdct) (sn:=sn) (sub:=sub) (ab:=ab) (col:=col) (dd:=dd) (k0:=k0) (k1:=k1) (k2:=k2) (k3:=k3) (k5:=k5)
  PySem.F.excBase_ValueError (mN:=mN) (T.hasType PySem.F.excBase_ValueError.hasBase) (I.ok.hd hc) (by rw[he];show (false || (Fh cpos (Tc es X.env)).any (·.1))=false;rw[hpl];rfl) hni (Rw I hg hm ⟨rfl, ?_⟩ hdb)
 have h2:=ha cpos Za s σ H _ I h;rw[he] at h2 ⊢;refine Calls.evalArgs_plain (Vf h2 (fun us s₂ z=>?_) fun _ _ y=>y);obtain⟨vs,H1,I1,r,hl,hE⟩:=z;have hnew:∀{h':Heap}{ea:Ja}{args:LI3},Heap.MadeExcOf s₂.heap h' ea (.ref C) args->H1 ea=none:=fun {h' ea args} hx=>by
  cases q:H1 ea with
  |none=>rfl
  |some u=>obtain⟨o,e⟩:=(I1.hok ea u q).there;rw[hx.new] at e;cases e
 exact⟨rfl,Se (by rw[<- r.length];exact hl) (by decide),I1.bk _ _ hC,hN.keeps I1.bk,T.keeps I1.bk,fun h' ea hx=>hM Za σ H1 s₂ h' ea _ _ I1 hx (hE ea (hnew hx))⟩
end
theorem Zfv(F:JE P w outer H s ea k cls H' s')(fl:Heap.FlyingW Bh outer ea cls (.ref t) s'.heap)(c1:∀b u,H' b=some u->∀o,s'.heap.get? b=some o->Bh.get? b=some o)(c2:∀b o,s.heap.get? b=some o->b ∉ Pe outer->∃o',Bh.get? b=some o')(st:Bh.StaysIn h'')(up:s'.heap.UpToSlots h''):
  Un (Pe outer) [] H H' s.heap h''/\He P w H' h'':=by
 refine⟨⟨fun b o q n hb _=>?_,fun b o q n hb _=>?_,fun b o q n hx=>F.un.free b o q n hx,fun b o q _=>?_,F.un.tups,F.un.frzs,F.un.tbls⟩,fun b u e=>?_⟩
 ·have e2:=F.un.keep b o q n hb (by simp)
  obtain⟨o',e3⟩:=c2 b o q hb;have e4:=fl.1 b o' e3;rw[e2] at e4;cases e4;exact st b o e3
 ·obtain⟨s2,e2⟩:=F.un.slot b o q n hb (by simp)
  obtain⟨_,o',ho',hnf⟩:=Heap.FunFrames.mem fl.2.2.1 hb;rw[e2] at ho';cases ho';obtain⟨s3,e3⟩:=up b _ e2 hnf;exact⟨s3,e3⟩
 ·by_cases hb:b∈Pe outer
  ·obtain⟨_,o',ho',hnf⟩:=Heap.FunFrames.mem fl.2.2.1 hb
   obtain⟨sl,e⟩:=up b _ ho' hnf;exact⟨_,e⟩
  ·obtain⟨o',e⟩:=c2 b o q hb
   exact⟨o',st b o' e⟩
 ·refine(F.hok b u e).stay (fun c v hc q=>?_) (fun _ q=>q) fun _ _ q=>q
  rcases hc with rfl|hc
  ·exact st c v (c1 c u e v q)
  ·exact st c v (c1 c _ hc v q)
section
variable {X:Cx}{Za:List (Ja×Obj)}{σ:St}{H:Hp}{s:Ga}
theorem Ca.track(I:Ca X Za σ H s)(e:s.heap.get? ea=some oe)(hn:H ea=none)(hL:ea≠X.env.locals)(hC:∀x c,X.env.cells.lookup x=some c->c≠ea)(hp:∀p∈X.pn++Za,p.1≠ea)(h0:X.s₀.heap.get? ea=none):
  Ca X Za σ (upd H ea (.frz oe (.own ea))) s:=by
 refine⟨I.ok,I.os,I.bare,⟨I.base.keep,I.base.slot,fun b o q n hx=>?_,I.base.there,fun b xs q=>?_,fun b o u q=>?_,fun b ps w' q=>?_⟩,I.loc,I.cell, ?_,fun x c q=>?_,fun p hq=>?_,fun b u q=>?_,I.len⟩
 ·rw[Rb (fun z=>by rw[z,h0] at q;cases q)];exact I.base.free b o q n hx
 ·have:=I.base.tups b xs q
  rw[Rb (Qg this hn)];exact this
 ·have:=I.base.frzs b o u q
  rw[Rb (Qg this hn)];exact this
 ·have this:=I.base.tbls b ps w' q
  rw[Rb (Qg this hn)];exact this
 ·rw[Rb (Ne.symm hL)];exact I.free
 ·rw[Rb (hC x c q)];exact I.freeC x c q
 ·obtain⟨a,b,c,d,e⟩:=I.pin p hq
  exact⟨a,by rw[Rb (hp p hq)];exact b,c,d,e⟩
 ·by_cases hb:b=ea
  ·subst hb
   rw[Uf] at q;cases q;exact⟨e,oe,e⟩
  ·rw[Rb hb] at q
   exact(I.hok b u q).stay (fun c v _ z=>z) (fun c z=>by rw[Rb (Qg z hn)];exact z) fun c xs z=>by rw[Rb (Qg z hn)];exact z
theorem Ca.gone(I:Ca X Za σ H s)(hN:X.N.Nodup)(hi:X.N[i]?=some n)(hm:∀(j:Nat) (x:Str) (v:V),X.N[j]?=some x->σ[j]?=some (some v)->V1 X.env.scope x->∃u,Ob v u/\RO X.env s.heap m x u)(hn:h'.Ns X.env.locals (fun x=>if x=n then v else m x))(hs:Heap.SameBut X.env.locals s.heap h')(hoL:∃o,s.heap.get? X.env.locals=some o): Ca X Za (σ.set i none) H { s with heap:=h',toks:=t' }:=by
 have tracked:He X.prog X.w H h':=fun b ob e=>by
  refine(I.hok b ob e).stay (fun c w' hc q=>(hs.2 c ?_).trans q) (fun _ q=>q) fun _ _ q=>q;intro z;rw[z] at hc;rcases hc with hc|hc
  ·rw[<- hc,I.free] at e;cases e
  ·rw[I.free] at hc;cases hc
 have neL:∀b o,X.s₀.heap.get? b=some o->b≠X.env.locals:=fun b o e=>Jf (Mg (Heap.lt_size e) I.ok.above);refine⟨I.ok,I.os,I.bare,⟨fun b o e n hb hx=>?_,fun b o e n hb hx=>?_,I.base.free,fun b o e hx=>?_,I.base.tups,I.base.frzs,I.base.tbls⟩,⟨_,hn,fun j y v' e1 e2 e3=>?_⟩,fun y c e=>?_,I.free,I.freeC,fun p hp=>?_,tracked,by simpa using I.len⟩
 ·exact(hs.2 b (neL b o e)).trans (I.base.keep b o e n hb hx)
 ·obtain⟨sl,e1⟩:=I.base.slot b o e n hb hx
  exact⟨sl,(hs.2 b (neL b o e)).trans e1⟩
 ·obtain⟨o',e1⟩:=I.base.there b o e hx
  exact⟨o',(hs.2 b (neL b o e)).trans e1⟩
 ·by_cases hj:j=i
  ·subst hj
   rw[List.getElem?_set] at e2;simp only[if_true] at e2
   split at e2<;>cases e2
  ·rw[Tk (Ne.symm hj)] at e2
   obtain⟨u',r',q⟩:=hm j y v' e1 e2 e3;refine⟨u',r', ?_⟩;rcases q with ⟨k,e⟩|⟨k,c,e,z⟩
   ·refine .inl ⟨k, ?_⟩
    have:y≠n:=fun e=>hj (CJ hN e1 (e▸hi));simp[this,e]
   ·exact .inr ⟨k,c,e,z.sameBut hs (I.cne y c e)⟩
 ·obtain⟨w',z⟩:=I.cell y c e
  exact⟨w',z.sameBut hs (I.cne y c e)⟩
 ·obtain⟨e,n,ne,nf,d⟩:=I.pin p hp
  exact⟨(hs.2 p.1 ne).trans e,n,ne,nf,d⟩
end
noncomputable def IM(D:Jm)(i:Nat):Jm:=⟨fun σ H=>D.nx (σ.set i none) H,D.rt,fun σ H=>D.bk (σ.set i none) H,fun σ H=>D.ct (σ.set i none) H⟩
noncomputable def M7(K:ZlR)(C:Ja)(i:Nat)(th:TS)(D:Jm):St->XK:=fun σ1 cls ea H1=>PySem.W.exmOne K cls (.ref C)=some true/\∃k,ea=some k/\∀(a:Ja) (oe:Obj),H1 a=none->oe.cls=cls->Et H1 a k oe->PySem.W.notCls oe=true->th (IM D i) (σ1.set i (some (.ref a))) (upd H1 a (.frz oe (.own a)))
noncomputable def ZaA(K:ZlR)(C:Ja)(i:Nat)(tb:(St->XK)->TS)(th:TS):TS:=fun D σ H=>tb (M7 K C i th D) D σ H
noncomputable abbrev Cx.inTry(X:Cx)(xe:Va->Ga->Prop)(pn:List (Ja×Obj)):Cx:={ X with xe:=xe,pn:=pn }
noncomputable abbrev Cx.inExc(X:Cx)(A:Pd):Cx:={ X with A:=A,calm:=false,xe:=fun _ _=>False }
section
variable {X:Cx}{Za:List (Ja×Obj)}{σ:St}{H:Hp}{s:Ga}
theorem Ca.tryIn(I:Ca X Za σ H s): Ca (X.inTry xe (X.pn++Za)) [] σ H s:=
 ⟨⟨I.ok.mod,I.ok.kind,I.ok.glob,I.ok.blt,I.ok.above,I.ok.inj,I.ok.has,I.ok.cab,I.ok.hd,I.ok.frames,I.ok.stk,I.ok.exf,I.ok.bs,I.ok.bsz,I.ok.noex,I.ok.exfs,I.ok.funs,I.ok.frf,I.ok.tab⟩,I.os,I.bare,I.base,I.loc,I.cell,I.free,I.freeC,fun p hp=>I.pin p (by simpa using hp),I.hok,I.len⟩
theorem Ca.tryOut(I:Ca (X.inTry xe (X.pn++Za)) pins' σ H s): Ca X Za σ H s:=
 ⟨⟨I.ok.mod,I.ok.kind,I.ok.glob,I.ok.blt,I.ok.above,I.ok.inj,I.ok.has,I.ok.cab,I.ok.hd,I.ok.frames,I.ok.stk,I.ok.exf,I.ok.bs,I.ok.bsz,I.ok.noex,I.ok.exfs,I.ok.funs,I.ok.frf,I.ok.tab⟩,I.os,I.bare,I.base,I.loc,I.cell,I.free,I.freeC,fun p hp=>I.pin p (Zf _ hp),I.hok,I.len⟩
theorem Ca.excIn(I:Ca X Za σ H s): Ca (X.inExc (X.A.mark (some e))) Za σ H s:=
 ⟨⟨I.ok.mod,I.ok.kind,I.ok.glob,I.ok.blt,I.ok.above,I.ok.inj,I.ok.has,I.ok.cab,fun z=>(by cases z),I.ok.frames,I.ok.stk,I.ok.exf,I.ok.bs,I.ok.bsz,I.ok.noex,I.ok.exfs,I.ok.funs,I.ok.frf,I.ok.tab⟩,I.os,I.bare,I.base,I.loc,I.cell,I.free,I.freeC,I.pin,I.hok,I.len⟩
theorem Ca.excOut(h:X.Ok)(I:Ca (X.inExc (X.A.mark (some e))) Za σ H s): Ca X Za σ H s:=⟨h,I.os,I.bare,I.base,I.loc,I.cell,I.free,I.freeC,I.pin,I.hok,I.len⟩
end
section
variable {X:Cx}{C:Ja}{i:Nat}{tb:(St->XK)->TS}{th:TS}{c n:Str}{np hpos pos:Pos}{body suite:List Kb}{b₀:Kb}
theorem ZjW(hb:∀(xe:Va->Ga->Prop) (pn:List (Ja×Obj)) (E:St->XK),UF (X.inTry xe pn) E->Wg (X.inTry xe pn) body (tb E))(hh:∀A,Wg (X.inExc A) (b₀::suite) th)(hN:X.N.Nodup)(hi:X.N[i]?=some n)(hl:X.env.scope.names.lookup n=some .local)(hg:Gl X c)(hm:X.mg c=some (.ref C))(hst:X.stack=X.env::X.outer)(hf:X.env.frame=some X.env.locals)(hex:X.ex=[])(hdb:(c==("__debug__":Str))=false:=by decide) :
  PS X (.Try body [.ExceptHandler (some (.Name c np)) (some n) (b₀::suite) hpos] [] [] pos) (ZaA X.K C i tb th):=by
 intro Za s σ H D I h;refine wpAny_Try_except ?_;refine Vf (hb (fun e s'=>∃σ1 H1 s1,Ca X Za σ1 H1 s1/\Cg X.prog X.w X.stack H1 s1 (M7 X.K C i th D σ1) e s') (X.pn++Za) (M7 X.K C i th D) (fun pins' σ1 H1 s1 e s' I' hq=>⟨σ1,H1,s1,I'.tryOut,hq⟩) [] s σ H D I.tryIn h) (fun f s1 q=>?_) (fun e s1 q=>?_)
 ·cases f with
  |next=>obtain⟨σ',H',I',q⟩:=q;exact C6 ⟨σ',H',I'.tryOut,q⟩
  |brk=>obtain⟨σ',H',I',q⟩:=q;exact⟨σ',H',I'.tryOut,q⟩
  |cont=>obtain⟨σ',H',I',q⟩:=q;exact⟨σ',H',I'.tryOut,q⟩
  |ret u=>obtain⟨v,σ',H',I',r,q⟩:=q;exact⟨v,σ',H',I'.tryOut,r,q⟩
 ·obtain⟨σ1,H1,s0,I1,ea,kk,cls,H',rfl,F,hx,a,ha,hth⟩:=q
  cases ha;obtain⟨Bh,t,fl,c1,c2⟩:=F.fly;have hfr:X.A.frames=some (X.env::X.outer):=by rw[<- hst];exact I.ok.frames
  have fl0:=fl;rw[hst] at fl;have new0:s0.heap.get? ea=none:=by
   cases q:s0.heap.get? ea with
   |none=>rfl
   |some o =>
    exfalso;by_cases hb:ea∈Pe X.stack
    ·obtain⟨_,o',ho',hnf⟩:=Heap.FunFrames.mem fl0.2.2.1 hb
     obtain⟨oe,vs,hoe,_,hd,_⟩:=fl0.first;rw[hoe] at ho';cases ho';exact hnf vs hd
    ·obtain⟨o',e⟩:=c2 ea o q hb
     rw[fl0.2.1] at e;cases e
  have neL:ea≠X.env.locals:=fun z=>by
   obtain⟨m,⟨o,_,_,ho,_⟩,_⟩:=I1.loc;rw[<- z,new0] at ho;cases ho
  have neC:∀x c,X.env.cells.lookup x=some c->c≠ea:=fun x c e z=>by
   obtain⟨v,o,ho,_⟩:=I1.cell x c e;rw[z,new0] at ho;cases ho
  have neP:∀p∈X.pn++Za,p.1≠ea:=fun p hp z=>by
   have:=(I1.pin p hp).1;rw[z,new0] at this;cases this
  have new1:X.s₀.heap.get? ea=none:=by
   cases q:X.s₀.heap.get? ea with
   |none=>rfl
   |some o=>obtain⟨o',e⟩:=I1.base.there ea o q (by rw[hex];simp);rw[new0] at e;cases e
  have land:∀{h'':Heap},Bh.StaysIn h''->s1.heap.UpToSlots h''->Ca X Za σ1 H' { s1 with heap:=h'' }:=fun {h''} st up=>by
   obtain⟨u,hok⟩:=Zfv F fl0 c1 c2 st up;exact I1.call' (s':={ s1 with heap:=h'' }) (ch:=[]) F.os u hok F.bare (fun b z=>Eb z (by simp))
  refine Vf (U3 (UV _ _) (wpAny_looks_onW (Q:=fun _ s''=>∃h4,s''={ s1 with heap:=h4 }/\Heap.HeldW Bh (X.env::X.outer) ea cls (.ref t) X.env.locals h4/\s1.heap.UpToSlots h4) hfr hf fl fun h4 held4 up4=>⟨h4,rfl,held4,up4⟩)) (fun _ s'' q=>?_) fun _ _ q=>q.1;obtain⟨⟨h4,rfl,held4,up4⟩,dk4⟩:=q;refine Vf (U3 (BI _ _) (wpAny_landsW (Q:=fun _ s''=>∃h5,s''={ s1 with heap:=h5 }/\Heap.FlyingW Bh (X.env::X.outer) ea cls (.ref t) h5/\h4.UpToSlots h5) held4 fun h5 fl5 up5=>⟨h5,rfl,fl5,up5⟩)) (fun _ s'' q=>?_) fun _ _ q=>q.1;obtain⟨⟨h5,rfl,fl5,up5⟩,dk5⟩:=q;have up5':s1.heap.UpToSlots h5:=up4.trans up5;have I5:=land fl5.1 up5';refine wpAny_handleBy_cons (codeAny_handlers_test ?_) (by intro q;cases q);refine Rw (X:=X.inExc (X.A.mark (some (.ref ea)))) I5.excIn hg hm ?_ hdb;obtain⟨oe5,hoe5,hc5⟩:=fl5.there;have LT:PySem.W.Looks (Na X.prog X.w) h5 (typeOf (.ref ea)) cls:=by
   subst hc5;exact(PySem.W.Looks.ld hoe5).andThen .now
  refine PySem.W.Looks.here (s:={ s1 with heap:=h5 }) (PySem.W.exm_one I5.kIn LT hx) ?_;refine codeAny_handlers_suite_as ?_;refine Vf (U3 (BI _ _) (lands_againW (Q:=fun _ s''=>∃h6,s''={ s1 with heap:=h6 }/\Heap.FlyingW Bh (X.env::X.outer) ea cls (.ref t) h6/\h5.UpToSlots h6) fl5 fun h6 fl6 up6=>⟨h6,rfl,fl6,up6⟩)) (fun _ s'' q=>?_) fun _ _ q=>q.1;obtain⟨⟨h6,rfl,fl6,up6⟩,dk6⟩:=q;have I6:=land fl6.1 (up5'.trans up6);obtain⟨oe,ws,hoe,hc,hfd,_⟩:=fl6.first;have hdn:Et H' ea kk oe:=by
   obtain⟨o1,e1,d1⟩:=F.dict;obtain⟨o2,e2,d2⟩:=dk4 ea o1 e1;obtain⟨o3,e3,d3⟩:=dk5 ea o2 e2;obtain⟨o4,e4,d4⟩:=dk6 ea o3 e3;have e4':h6.get? ea=some o4:=e4;rw[hoe] at e4';cases e4';unfold Et at d1 ⊢;rw[d4,d3,d2];exact d1
  have hnc:PySem.W.notCls oe=true:=by unfold PySem.W.notCls;rw[hfd]
  have I7:=I6.track (ea:=ea) (oe:=oe) hoe F.new neL neC neP new1;refine P4 (X:=X) I7 hN hi (.inl hl) (v:=.ref ea) rfl (fun s8 I8=>?_) (.inr hl);refine Vf (hh (X.A.mark (some (.ref ea))) Za s8 _ _ (IM D i) I8.excIn (hth ea oe F.new hc hdn hnc)) (fun f s9 q=>?_) (fun _ _ z=>False.elim z);have hcls:(X.env.scope.kind==.class || (X.env.scope.kind==.module&&X.env.locals != X.env.globals))=false:=by rw[I.ok.kind];rfl
  have go:∀{σ9:St}{H9:Hp},Ca (X.inExc (X.A.mark (some (.ref ea)))) Za σ9 H9 s9->∀{Q:Unit->Ga->Prop},(∀s',Ca X Za (σ9.set i none) H9 s'->Q () s') ->
    Ra (Na X.prog X.w) X.A (do bindName X.env n .none;unbindBehindTheSuite X.env n hpos) Q X.xe s9:=fun {σ9 H9} J {Q} hQ=>by
   have J':=Ca.excOut I.ok J;obtain⟨m,hn,hlook⟩:=id J'.loc;obtain⟨o,_,_,ho,_⟩:=id hn;exact wpAny_nameGoes_keeps hl hn hcls fun h' v hn' hs'=>hQ _ (J'.gone hN hi hlook hn' hs' ⟨o,ho⟩)
  cases f with
  |next=>obtain⟨σ',H',I',q⟩:=q;exact go I' fun s' J=>⟨_,_,J,q⟩
  |brk=>obtain⟨σ',H',I',q⟩:=q;exact go I' fun s' J=>⟨_,_,J,q⟩
  |cont=>obtain⟨σ',H',I',q⟩:=q;exact go I' fun s' J=>⟨_,_,J,q⟩
  |ret u=>obtain⟨v,σ',H',I',r,q⟩:=q;exact go I' fun s' J=>⟨v,_,_,J,r,q⟩
end
end L2
namespace PySem.W
open PySem PySem.Spec PySem.Calls PyProof.Rows
section
variable {prog:Bc}{w:Jc}{A:Pd}{E:Va->Ga->Prop}{s:Ga}{K:Frag}{x D:Ja}{ox:Obj}{od:Option Obj}
theorem Zd9:Manifest.canonical "BaseException.__getattribute__" = "object.__getattribute__":=by decide +kernel
theorem method_exc(X:K.In s.heap)(I:InstAt s.heap x ox D od)(hga:findIn K (.ref D) "__getattribute__"=some (some (.builtin "BaseException.__getattribute__")))(hk:findIn K (.ref D) "__getattr__"=some none)(hown:∀o,od=some o->lookIn name o=some none)(hf:findIn K (.ref D) name=some (some (.ref f)))(ht:typeIn K (.ref f)=some (.type "function"))(h:Q (.ref f,[.ref x]) s): Ra (Na prog w) A (getMethod (.ref x) name pl) Q E s:=by
 have hcan:=Zd9;unfold getMethod specialOf;refine Ia (Ia (I.type.here ((looks_findIn X hga).here ?_)));dsimp only;rw[hcan,Qa (by decide)];refine Ia (Ia (I.type.here ((looks_findIn X hk).here ?_)));refine Ia (Ia (I.type.here ((looks_findIn X hf).here (Ia ((looks_typeIn X ht).here ?_)))));rw[Qa (by decide +kernel)];refine Ia (wpAny_loadPart I.at_ ?_);have hd:=I.dict;cases e:ox.dict with
 |none=>exact Ia (Fn (Ib h))
 |some dx =>
  rw[e] at hd;cases od with
  |none=>exact hd.elim
  |some o =>
   dsimp only;refine Ia (Ia (wpAny_loadPart hd ?_));rw[nsLook_of (hown o rfl)];exact Ib (Ia (Fn (Ib h)))
theorem ZdA(X:K.In s.heap)(I:InstAt s.heap x ox D od)(hb:mroIn K D (.type "BaseException")=some true)(hq:Q () s): Ra M A (checkBuiltinCall "BaseException.__getattribute__" ⟨[.ref x,nameV],[]⟩) Q E s:=by
 have hk:builtinKind "BaseException.__getattribute__"=some .slot:=by decide +kernel
 have hsplit:splitId "BaseException.__getattribute__"=some ("BaseException", "__getattribute__"):=by decide +kernel
 have ha:=F.args_bexc_ga (.ref x) nameV;have L:Looks M s.heap (isInstance (.ref x) (.type "BaseException")) true:=(I.type (M:=M)).andThen (looks_mroIn X hb);simp only[checkBuiltinCall,hk,hsplit];refine Ia ?_;refine L.here ?_;obtain⟨h,g,d,t,os⟩:=s
 repeat (first|wp_step)
 all_goals exact hq
theorem Zfn(X:K.In s.heap)(I:InstAt s.heap x ox D od)(hga:findIn K (.ref D) "__getattribute__"=some (some (.builtin "BaseException.__getattribute__")))(hk:findIn K (.ref D) "__getattr__"=some none)(hb:mroIn K D (.type "BaseException")=some true)(hf:findObj K D od "__class__"=some (.bind (.builtin "getset_descriptor.__get__") (.builtin "object.__class__")))(hm:mroIn K D (.type "object")=some true)(h:Q (some (.ref D)) { s with toks:=s.toks+1 }): Ra (Na prog w) A (getAttr? (.ref x) "__class__") Q E s:=by
 obtain⟨hh,g,d,t,os⟩:=s;have L0:=I.type (M:=Na prog w);have L1:=looks_findIn (M:=Na prog w) X hga;have L2:=looks_findIn (M:=Na prog w) X hk;have L3:=looks_find (M:=Na prog w) X I hf;unfold getAttr? getAttrBy? getAttrBy;refine Ia (wpAny_mkText (Ia (Z0 (Tj (Ia (L0.at (Ia (L1.at ?_))))))));dsimp only;have hne:(onTheHeap (Value.ref D)&&Value.builtin "BaseException.__getattribute__" == Value.builtin "object.__getattribute__")=false:=by
  have hx2:(Value.builtin "BaseException.__getattribute__" == Value.builtin "object.__getattribute__")=false:=by decide +kernel
  rw[hx2];rfl
 rw[Qa (by rw[hne];decide)];unfold getAttrByItsOwn hookBefore;rw[show onTheHeap (Value.ref D)=true from rfl,Da rfl];refine Ia (L2.at ?_);refine Ia (Z0 (Tj ?_));unfold callGetattribute;rw[Qa (by decide)];unfold boundAndCalled;refine Ia (wpAny_of_eq (PySem.F.attrBase_ValueError.ga.bind (.ref x)) ?_);refine J0 (codeAny_call_builtin PySem.F.attrBase_ValueError.ga.plain F.entry_bexc_ga (ZdA X I hb ?_));unfold Builtin.«object.__getattribute__»;refine Ia (Ib ?_);refine Ia (Ib ?_);refine Ia (L0.at (Ia (L3.at ?_)));show Ra _ _ (holding [Value.builtin "object.__class__"] (call (.builtin "getset_descriptor.__get__") [.builtin "object.__class__",.ref x,.ref D]) >>= fun v=>ret v) _ _ _;refine Ia (Tj (J0 (class_get (s:=⟨hh,g,d,t+1,os⟩) (ox:=ox) (od:=od) X I hm ?_)));exact Ib (handed_on rfl (Ib h))
noncomputable def exOk(K:Frag)(D:Ja):Bool:=(findIn K (.ref D) "__getattribute__" == some (some (.builtin "BaseException.__getattribute__")))&&(findIn K (.ref D) "__getattr__" == some none)&&(mroIn K D (.type "BaseException")==some true)&&(mroIn K D (.type "object")==some true) &&
 (findIn K (.ref D) "__class__" == some (some (.builtin "object.__class__")))&&(specialIn K (.builtin "object.__class__") "__get__" == some (some (.builtin "getset_descriptor.__get__")))&&(takesIn K (.builtin "object.__class__")==some true)&&(clsIn K D).isSome
theorem Zfq(hc:(clsIn K C).isSome=true)(ha:findIn K (.ref C) name=some (some a))(hg:specialIn K a "__get__"=some (some g))(ht:takesIn K a=some true): findObj K C od name=some (.bind g a):=by
 obtain⟨cd,hc⟩:=PN.mp hc;unfold findObj;rw[hc,LD,ha,LD];simp only[hg,ht,LD]
theorem kitx_exc(h:exOk K D=true):KitX K (.ref x) (.ref D) (fun h=>∃ox od,InstAt h x ox D od):=by
 simp only[exOk,Bool.and_eq_true,beq_iff_eq] at h;obtain⟨⟨⟨⟨⟨⟨⟨h1,h2⟩,h3⟩,h4⟩,h5⟩,h6⟩,h7⟩,h8⟩:=h;have hob:∃c' d' cd' sl',K.lookup D=some ⟨c',d',.cls cd',sl'⟩:=by
  obtain⟨cd,e⟩:=PN.mp h8;unfold clsIn at e
  split at e
  ·rename_i c' d' cd' sl' ho;exact⟨_,_,_,_,ho⟩
  ·cases e
 obtain⟨c',d',cd',sl',ho⟩:=hob;refine⟨fun M h _ ⟨ox,od,I⟩=>I.type,fun M h X _=>?_,fun h tp dd its n sl X htp=>?_,fun X ⟨ox,od,I⟩ k=>Zfn X I h1 h2 h3 (Zfq h8 h5 h6 h7) h4 k⟩
 ·intro A' Q' E' s' k q
  unfold isType loadHead;exact Ia (wpAny_loadPart (k _ _ (X _ _ ho)) (Ib q))
 ·refine Bool.eq_false_iff.mpr fun q=>?_
  have e:D=tp:=Value.ref.inj (beq_iff_eq.mp q);subst e;have z:=(X _ _ ho).symm.trans htp;cases z
end
end PySem.W
namespace L2
open PySem PySem.Spec PyProof.Rows
def YO(P:Bc)(w:Jc)(K:ZlR)(mg:Str->Option Va)(base:Heap)(k:Nat)(x:Str)(ps:List Str)(sp:Sp):Prop:=
 ∃f fd,Wb P w K mg base (Cg P w) k f fd ps sp/\mg x=some (.ref f)/\PySem.W.keepIn K (.ref f)=true/\Wo K fd ps []
theorem Qk{P:Bc}{w:Jc}{K:ZlR}{mg:Str->Option Va}{base:Heap}{k:Nat}{x:Str}{st:Kb}{ps:List Str}{sp:Sp}(d:Oc K mg x st)(b:Rc x st ps)(h:∀{f fd},Xb K x x st f fd->Wb P w K mg base (Cg P w) k f fd ps sp):YO P w K mg base k x ps sp:=by
 obtain⟨f,fd,F,hm⟩:=d;exact⟨f,fd,h F,hm,F.kp,F.binds b⟩
section
variable {X:Cx}{k:Nat}{x:Str}{ps:List Str}{sp:Sp}{p pos:Pos}{e:Expr}{es:List Expr}{t:TA}{E:St->XK}
noncomputable def X4(sp:Sp)(E:St->XK)(t:TA):TE:=fun σ H Q=>t σ H fun vs H1=>sp vs H1 Q (E σ)
theorem Oj(G:YO X.prog X.w X.K X.mg X.base k x ps sp)(hr:Fe k X.A)(hg:Gl X x)(hx:UF X E)(ha:PA X (e::es) t)(hdb:(x==("__debug__":Str))=false:=by decide)(he:Tc (e::es) X.env=(false,eval e X.env)::Tc es X.env:=by rfl)(hpl:(Fh pos (Tc es X.env)).any (·.1)=false:=by rfl):PE X (.Call (.Name x p) (e::es) [] pos) (X4 sp E t):=by
 obtain⟨f,fd,F,hm,hk,hb⟩:=G;intro Za s σ H Q I h;refine Yu (Rw I hg hm ?_ hdb);refine PySem.W.callWith_K (h₀:=X.base) I.ok.mod.kin hk (Qb (ha pos Za s σ H _ I h) fun us s1 ⟨vs,H1,I1,r,q⟩=>⟨I1.kIn, ?_⟩) he hpl;have hl:(us++[]).length=ps.length:=by rw[Rs,<- r.length];exact F.len _ _ _ _ q
 have hb':=hb s1 us I1.kIn hl;rw[Rs] at hb';refine J0 (codeAny_mono (F.run X.A X.stack s1 H1 ⟨us,[]⟩ us vs Q (E σ) hr I1.env0 hb' r q) fun r s' hq=>?_);cases r with
 |error e=>exact hx Za σ H1 s1 e s' I1 hq
 |ok fl =>
  cases fl with
  |ret u=>exact I1.after hq
  |next=>exact False.elim hq
  |brk=>exact False.elim hq
  |cont=>exact False.elim hq
end
noncomputable def ZbK:PV->Hp->Ja->Prop
 |.non,H,k=>H k=none
 |.int i,H,k=>∃fs,H k=some (.xd fs)/\fs=[(("at":Str),V.int i)]
 |_,_,_=>False
def W1(K:ZlR):PX->XK->Hp->Prop:=fun e E H'=>∀C k,Xg K e.1 C->ZbK e.2 H' k->E (.ref C) (some k) H'
section
variable {P:Bc}{w:Jc}{K:ZlR}{mg:Str->Option Va}{base:Heap}
theorem Xb.okX{x qual:Str}{st:Kb}{f:Ja}{fd:Fk}{N ps:List Str}{k n l:Nat}{kd:Kd}{m:LI5->Rr PV}(F:Xb K x qual st f fd)(S:Uc N ps (Mb st))(hn:ps.length=n)(hl:N.length-n=l)(hbody:∀(Lb:Va) (A:Pd) (outer:List Env) (s:Ga) (H:Hp) (E:XK),Fe k (A.deeper (envOfC qual (Mb st) s.heap.objs.size f Lb)) ->
   ∃t g Y,Y.r=kd/\Wg (Gi (Cg P w) P w K mg base N qual (Mb st) f Lb A outer s H E) (Dl st) t/\DS K (fun e H'=>W1 K e E H') (List.replicate n .S++List.replicate l .U) Y t g/\∀xs,Fv (m xs) (g (xs++List.replicate l .non)).out)(hkN:kd≠.N:=by nofun)(hkM:kd≠.M:=by nofun) :
  Wb P w K mg base (Cg P w) (k+1) f fd ps (Tb K n kd (W1 K) m):=by
 obtain⟨oc,od,kV,doc,pm,an,Lb,ct,osl,rfl,lk,hcd⟩:=F.ex;refine HH lk hcd S (fun vs H Q E h=>?_) fun A outer s H vs Q E hr h=>?_
 ·obtain⟨B,xs,h1,h2,_⟩:=h
  rw[h1.length,h2,hn]
 ·obtain⟨B,xs,h1,h2,dn⟩:=h
  obtain⟨t,g,Y,hY,ht,hd,href⟩:=hbody Lb A outer s H E hr;refine⟨t,ht, ?_⟩;have A0:=Ag.init (n:=l) h1;have est:Dj N vs=vs.map some++List.replicate l none:=by
   unfold Dj;rw[h1.length,h2,hl]
  rw[est];rw[h2] at A0;refine hd _ H H _ _ _ _ A0 ?_;have hdn:Dn (g (xs++List.replicate l .non)).out (fun x=>∀v H',La H H'->Ul K B H kd x v H'->Q v H') (fun e=>∀H',La H H'->W1 K e E H'):=by
   rcases href xs with e|e
   ·rw[e] at dn;exact dn.elim
   ·rw[<- e];exact dn
  have retK:∀{x v H'},Ul K (fun a=>B a\/H a=none) H kd x v H'->Ul K B H kd x v H':=fun {x v H'} h=>by
   cases kd with
   |P=>exact h
   |F=>exact h
   |T=>exact Ta.mono (fun a us s r=>⟨r,s.elim id .inr⟩) (fun a us r=>r) h
   |Z=>exact Ta.mono (fun a us s r=>⟨r,s.elim id .inr⟩) (fun a us r=>r) h
   |A=>exact Ta.mono (fun a us s r=>⟨r,s.elim id .inr⟩) (fun a us r=>r) h
   |N=>exact h
   |M=>exact h
  cases e:g (xs++List.replicate l .non) with
  |next ρ =>
   rw[e] at hdn;refine fun σ' H' F' fr A'=>hdn .non H' A'.same ?_;cases kd with
   |P=>exact⟨rfl,rfl⟩
   |F=>exact⟨[],⟨rfl,rfl⟩,by simp⟩
   |T=>exact rfl
   |Z=>exact rfl
   |A=>exact rfl
   |N=>exact Eb rfl hkN
   |M=>exact Eb rfl hkM
  |ret x=>rw[e] at hdn;exact fun v H' s r=>hdn v H' s (retK (hY▸r))
  |exc q=>rw[e] at hdn;exact fun H' s=>hdn H' s
  |brk ρ=>rw[e] at hdn;exact hdn.elim
  |cont ρ=>rw[e] at hdn;exact hdn.elim
  |bad=>rw[e] at hdn;exact hdn.elim
end
section
variable {K:ZlR}{n:Nat}{m:LI5->Rr PV}{ta:TA}{Γ Γ':List Md}{fa:LI5->Rr LI5}{E:XK}
noncomputable abbrev Zm(K:ZlR)(E:XK):PX->Hp->Prop:=fun e H'=>W1 K e E H'
theorem Zfi(hn:Nh fa n)(ha:Ce K (Zm K E) Γ Γ' ta fa):DE K (Zm K E) Γ Γ' .F (X4 (Tb K n .F (W1 K) m) (fun _=>E) ta) (fun ρ=>(fa ρ).bind m):=WR (E:=E) (W:=W1 K) (fun σ H Q h=>h) (fun e H' h=>h) hn ha
theorem Zfj(hn:Nh fa n)(ha:Ce K (Zm K E) Γ Γ' ta fa):DE K (Zm K E) Γ Γ' .P (X4 (Tb K n .P (W1 K) m) (fun _=>E) ta) (fun ρ=>(fa ρ).bind m):=YR (E:=E) (W:=W1 K) (fun σ H Q h=>h) (fun e H' h=>h) hn ha
theorem Br(hn:Nh fa n)(hm:∀xs q,m xs≠.exc q)(ha:Ce K EX Γ Γ' ta fa): DE K EX Γ Γ' .F (Rl (Tb K n .F W0 m) ta) (fun ρ=>(fa ρ).bind m):=fun B H0 H σ ρ F R Q A d=>by
 refine ha B H0 H σ ρ F R _ A (d.bind.imp (fun xs hx d vs H1 F1 s1 f1 p1 A1=>?_) fun e q=>q);refine⟨fun _=>True,xs,p1,hn ρ xs hx, ?_⟩;cases e:m xs with
 |ok x =>
  rw[e] at d;intro v H2 s2 r;obtain⟨G,r1,r2⟩:=r;exact d v H2 (s1.trans s2) ⟨F1,f1,G,r1,fun a ha=>⟨(A1.fresh (r2 a ha)).1,.inl (s1.free (r2 a ha))⟩,A1.more s2 r2 r1.alive⟩
 |exc q=>exact(hm xs q e).elim
 |bad=>rw[e] at d;exact d.elim
theorem Cw(hn:Nh fa n)(hm:∀xs q,m xs≠.exc q)(ha:Ce K EX Γ Γ' ta fa): DE K EX Γ Γ' .P (Rl (Tb K n .P W0 m) ta) (fun ρ=>(fa ρ).bind m):=fun B H0 H σ ρ F R Q A d=>by
 refine ha B H0 H σ ρ F R _ A (d.bind.imp (fun xs hx d vs H1 F1 s1 f1 p1 A1=>?_) fun e q=>q);refine⟨fun _=>True,xs,p1,hn ρ xs hx, ?_⟩;cases e:m xs with
 |ok x=>rw[e] at d;exact fun v H2 s2 r=>d v H2 (s1.trans s2) ⟨F1,f1,r.1,r.2,A1.grow s2⟩
 |exc q=>exact(hm xs q e).elim
 |bad=>rw[e] at d;exact d.elim
def Pm.calm(m:Pm):Prop:=∀a q,m.out a≠.exc q
theorem Pm.calm_fn{m:Pm}(h:m.calm)(xs:LI5)(q:PX):m.fn xs≠.exc q:=by
 unfold Pm.fn;by_cases hx:∃a,m.enc a=xs/\m.pre a
 ·rw[Xl hx];exact h _ q
 ·rw[dif_neg hx];exact fun z=>by cases z
theorem Qw(hC:Xg K x C)(hn:Nh fa n)(hl:n<=1000)(ha:Ce K (Zm K E) Γ Γ' ta fa): DS K (Zm K E) Γ Y (Za5 C (fun _=>E) ta) (fun ρ=>(fa ρ).thenS fun _=>.exc (x,.non)):=fun B H0 H σ ρ F D A d=>by
 refine ha B H0 H σ ρ F [] _ A (d.thenS.imp (fun xs hx d vs H1 F1 s1 f1 p1 A1=>?_) fun e q=>q);exact⟨by rw[p1.length,hn ρ xs hx];exact hl,fun ea hea=>d H1 A1.same C ea hC hea⟩
end
theorem PS.nox{X:Cx}{st:Kb}{t:TS}(h:PS X.nox st t):PS X st t:=fun Za s σ H D I hw =>
 Vf (h Za s σ H D (I.wish _) hw) (fun _ _ q=>q.unwish) fun _ _ z=>False.elim z
noncomputable def LG:V->Va
 |.ref a=>.ref a
 |.ty n=>.type n
 |_=>.none
noncomputable def PU:V->Bool
 |.ref _=>true
 |.ty _=>true
 |_=>false
theorem ZdJ(h:PU c=true)(r:Ob c u): u=LG c:=by
 cases c<;>first|exact r|cases h
structure HE(K:ZlR)(c:V)(L:List (Str×Bool)):Prop where
 cls:PU c=true
 non:PySem.W.kitOne K (.type "NoneType") (LG c)=some false
 own:∀n b,L.lookup n=some b->∀D,Xg K n D->PySem.W.exOk K D=true/\PySem.W.kitOne K (.ref D) (LG c)=some b
def M6(K:ZlR)(H:Hp)(n:Str)(v:V):Prop:=ZE K H n v\/∃i,YD K H n i v
theorem M6.inst(I:Ca X Za σ H s)(h:M6 X.K H n v): ∃a o C od,v=.ref a/\Xg X.K n C/\PySem.W.InstAt s.heap a o C od/\∀u,od=some u->PySem.W.lookIn ("called":Str) u=some none:=by
 rcases h with ⟨a,o,C,rfl,h1,h2,h3,h4,h5⟩|⟨i,a,o,C,d,fs,rfl,h1,h1d,h2,h3,h4,h5,rfl⟩
 ·exact⟨a,o,C,none,rfl,h5,⟨(I.hok a _ h1.1).1,h2,h4,by rw[h3];trivial⟩,fun u z=>by cases z⟩
 ·obtain⟨m,n1,n2⟩:=I.hok d _ h1d.1
  obtain⟨ou,hu,hl⟩:=ZhA n1;refine⟨a,o,C,some ou,rfl,h5,⟨(I.hok a _ h1.1).1,h2,h4,by rw[h3];exact hu⟩,fun u z=>?_⟩;cases z;rw[hl];have z:=n2 ("called":Str);cases q:m ("called":Str) with
  |none=>rfl
  |some y=>rw[q] at z;exact z.elim
def GY(K:ZlR)(c:V)(L:List (Str×Bool)):List V->Hp->VK->Prop:=fun xs H Q=>∃x,xs=[x,c]/\((x=.non/\Q (.bl false) H)\/∃n b,M6 K H n x/\L.lookup n=some b/\Q (.bl b) H)
theorem R1{X:Cx}{K:ZlR}{c:V}{L:List (Str×Bool)}(T:HE K c L)(e:X.K=K:=by rfl):Og X (.builtin "isinstance") (GY K c L):=by
 subst e;intro Za s σ H xs us Q I r h;obtain⟨x,rfl,h⟩:=h;obtain⟨u,w',rfl,rx,rn⟩:=NM r;obtain rfl:=ZdJ T.cls rn;rcases h with ⟨rfl,q⟩|⟨n,b,hx,hb,q⟩
 ·cases rx
  exact PySem.W.kia_one PySem.W.kitx_none I.kIn True.intro T.non (fun z=>nomatch z) fun tk=>⟨.bl false,H,I.tok _,rfl,q⟩
 ·obtain⟨a,o,C,od,rfl,h5,hI,-⟩:=hx.inst I
  cases rx;obtain⟨t1,t2⟩:=T.own n b hb C h5;exact PySem.W.kia_one (PySem.W.kitx_exc t1) I.kIn ⟨o,od,hI⟩ t2 (fun z=>nomatch z) fun tk=>⟨.bl b,H,I.tok _,rfl,q⟩
noncomputable def Yf(L:List (Str×Bool))(x:PV):Rr PV:=match x with
 |.non=>.ok (.bl false)
 |.exc n=>(match L.lookup n with|some b=>.ok (.bl b)|none=>.bad)
 |.exa n _=>(match L.lookup n with|some b=>.ok (.bl b)|none=>.bad)
 |_=>.bad
section
variable {K:ZlR}{EX:PX->Hp->Prop}{Γ Γ':List Md}{te:TE}{f:LI5->Rr PV}
theorem V2(he:DE K EX Γ Γ' .A te f): DE K EX Γ Γ' .P (Zj (GY K c L) (Dk te (Dk (tC c) Sl))) (fun ρ=>(f ρ).bind (Yf L)):=fun B H0 H σ ρ F R Q A d=>by
 refine he B H0 H σ ρ F R _ A (d.bind.imp (fun x _ d v H1 s1 r1=>?_) fun e q=>q);obtain⟨F1,f1,p1,A1⟩:=r1;cases x with
 |non=>exact⟨v,rfl,.inl ⟨p1,d _ H1 s1 ⟨F1,f1,rfl,rfl,A1⟩⟩⟩
 |exc n =>
  simp only[Yf] at d;cases hb:L.lookup n with
  |some b=>rw[hb] at d;exact⟨v,rfl,.inr ⟨n,b,.inl p1,hb,d _ H1 s1 ⟨F1,f1,rfl,rfl,A1⟩⟩⟩
  |none=>rw[hb] at d;exact d.elim
 |exa n i =>
  simp only[Yf] at d;cases hb:L.lookup n with
  |some b=>rw[hb] at d;exact⟨v,rfl,.inr ⟨n,b,.inr ⟨i,p1⟩,hb,d _ H1 s1 ⟨F1,f1,rfl,rfl,A1⟩⟩⟩
  |none=>rw[hb] at d;exact d.elim
 |_=>exact d.elim
end
def Nt(P:Bc)(w:Jc)(K:ZlR)(mg:Str->Option Va)(base:Heap)(k:Nat)(m n:Str):Prop:=
 ∃C f fd,Xg K n C/\PySem.W.exOk K C=true/\PySem.W.findIn K (.ref C) m=some (some (.ref f))/\PySem.W.typeIn K (.ref f)=some (.type "function")/\PySem.W.keepIn K (.ref f)=true/\Wo K fd ["self"] [] /\
  Wb P w K mg base Fc k f fd ["self"] (Tb K 1 .P W0 fun _=>.ok (.str n))
noncomputable def Zam(K:ZlR)(L:List Str)(ta:TE):TE:=fun σ H Q=>ta σ H fun v H1=>∃n,n∈L/\M6 K H1 n v/\∀H2,La H1 H2->Q (.str n) H2
theorem ZjA(hM:∀n∈L,Nt X.prog X.w X.K X.mg X.base k "called" n)(hr:Fe k X.A)(he:PE X o ta)(ht:eval (.Call (.Attribute o "called" apos) [] [] pos) X.env=(do
   let ov <- eval o X.env
   standAt apos.atName
   let (f,first) <- holding [ov] (getMethod ov "called" pl)
   callWith pos f first (Fh pos (Tc [] X.env)) (backToKw pos (keywordEach [] X.env))):=by rfl):
  PE X (.Call (.Attribute o "called" apos) [] [] pos) (Zam X.K L ta):=by
 intro Za s σ H Q I h;refine PySem.W.methodCall_KW (pl:=pl) (Qb (he Za s σ H _ I h) fun u s1 ⟨x,H1,I1,rx,n,hn,hx,q⟩=>?_) ht;obtain⟨a,oe,C,od,rfl,h5,hI,hl⟩:=hx.inst I1;obtain rfl:u=Value.ref a:=rx;obtain⟨C',f,fd,c1,c2,c3,c4,c5,c6,c7⟩:=hM n hn;have hCC:C'=C:=by have z:=c1.symm.trans h5;simpa using z
 subst hCC;simp only[PySem.W.exOk,Bool.and_eq_true,beq_iff_eq] at c2;obtain⟨⟨⟨⟨⟨⟨⟨d1,d2⟩,d3⟩,d4⟩,d5⟩,d6⟩,d7⟩,d8⟩:=c2;refine PySem.W.method_exc I1.kIn hI d1 d2 hl c3 c4 ?_;refine PySem.W.callWith_K0 (first:=[.ref a]) I1.kIn c5 (VL (us:=[.ref a]) (vs:=[.ref a]) (dvs:=[]) (E:=E0) c7 hr c6 .nil YJ I1 (.cons rfl .nil) ?_);have fin:∀v H',La H1 H'->Ul X.K (fun _=>True) H1 .P (.str n) v H'->Q v H':=fun v H' sm r=>by
  obtain rfl:v=.str n:=r.2;exact q H' sm
 rcases hx with hx|⟨i,hx⟩
 ·exact⟨fun _=>True,[.exc n],⟨_,_,rfl,hx,rfl⟩,rfl,fin⟩
 ·exact⟨fun _=>True,[.exa n i],⟨_,_,rfl,hx,rfl⟩,rfl,fin⟩
noncomputable def Zq(L:List Str)(x:PV):Rr PV:=match x with
 |.exc n=>if n∈L then .ok (.str n) else .bad
 |.exa n _=>if n∈L then .ok (.str n) else .bad
 |_=>.bad
section
variable {K:ZlR}{EX:PX->Hp->Prop}{Γ Γ':List Md}{te:TE}{f:LI5->Rr PV}
theorem Ze1(he:DE K EX Γ Γ' .A te f): DE K EX Γ Γ' .P (Zam K L te) (fun ρ=>(f ρ).bind (Zq L)):=fun B H0 H σ ρ F R Q A d=>by
 refine he B H0 H σ ρ F R _ A (d.bind.imp (fun x _ d v H1 s1 r1=>?_) fun e q=>q);obtain⟨F1,f1,p1,A1⟩:=r1;cases x with
 |exc n =>
  simp only[Zq] at d;by_cases hn:n∈L
  ·rw[Da hn] at d;exact⟨n,hn,.inl p1,fun H2 s2=>d _ H2 (s1.trans s2) ⟨F1,f1,rfl,rfl,A1.grow s2⟩⟩
  ·rw[Qa hn] at d;exact d.elim
 |exa n i =>
  simp only[Zq] at d;by_cases hn:n∈L
  ·rw[Da hn] at d;exact⟨n,hn,.inr ⟨i,p1⟩,fun H2 s2=>d _ H2 (s1.trans s2) ⟨F1,f1,rfl,rfl,A1.grow s2⟩⟩
  ·rw[Qa hn] at d;exact d.elim
 |_=>exact d.elim
end
noncomputable def FW(Γ:List Md):Bool:=Γ.all fun m=>m==.U || m==.P || m==.S
theorem Ziu{K:ZlR}{B:Ja->Prop}{H0 H:Hp}{σ:St}{Γ:List Md}{ρ:LI5}{F:Nat->LI2}{R:LI2}(h:FW Γ=true)(A:Ag K B H0 H σ Γ ρ F R):∀i,F i=[]:=fun i=>by
 have sl:=A.slot i;by_cases hi:i<Γ.length
 ·have hm:=Ah.mp h Γ[i] (Iz hi)
  have e:Γ.getD i .U=Γ[i]:=by rw[Cb,Yc hi];rfl
  rw[e] at sl;simp only[Bool.or_eq_true,beq_iff_eq] at hm;rcases hm with (hm|hm)|hm
  ·rw[hm] at sl;exact sl
  ·rw[hm] at sl;exact sl.1
  ·rw[hm] at sl;exact sl.1
 ·have e:Γ.getD i .U=.U:=by rw[Cb,Bi (by lia)];rfl
  rw[e] at sl;exact sl
theorem Ag.near{K:ZlR}{B:Ja->Prop}{H0 H:Hp}{σ:St}{Γ:List Md}{ρ:LI5}{F:Nat->LI2}(A:Ag K B H0 H σ Γ ρ F [])(h:∀i,F i=[]):Ag K B H H σ Γ ρ F []:=
 ⟨La.refl _,fun a q=>A.own a (A.same.free q),fun i a ha=>by rw[h i] at ha;simp at ha,by simp,A.live,A.liveR,A.disj,A.disjR,A.lenS,A.lenR,A.slot⟩
theorem Ag.far{K:ZlR}{B:Ja->Prop}{H0 H1 H:Hp}{σ:St}{Γ:List Md}{ρ:LI5}{F:Nat->LI2}(A:Ag K B H1 H σ Γ ρ F [])(s:La H0 H1)(own:∀a,H0 a=none->B a):Ag K B H0 H σ Γ ρ F []:=
 ⟨s.trans A.same,own,fun i a ha=>s.free (A.young i a ha),by simp,A.live,A.liveR,A.disj,A.disjR,A.lenS,A.lenR,A.slot⟩
theorem La.newO(hp:H p=none): La H (L2.upd H p o):=fun b u h=>by rw[L2.Rb (Qg h hp)];exact h
theorem Ag.unset{K:ZlR}{B:Ja->Prop}{H0 H:Hp}{σ:St}{Γ Γ':List Md}{ρ:LI5}{F:Nat->LI2}(i:Nat)(A:Ag K B H0 H σ Γ ρ F [])(h:Zi (Γ.set i .U) Γ'=true) :
  ∃F',(∀i,∀a∈F' i,a∈F i)/\Ag K B H0 H (σ.set i none) Γ' ρ F' []:=by
 have h0:Zi Γ (Γ.set i .U)=true:=by
  have:∀(Γ:List Md) (i:Nat),Zi Γ (Γ.set i .U)=true:=fun Γ=>by
   induction Γ with
   |nil=>intro i;rfl
   |cons m ms ih =>
    intro i;have refl:∀l:List Md,Zi l l=true:=fun l=>by induction l with|nil=>rfl|cons a l ih=>simp[Zi,Uu,ih]
    cases i with
    |zero=>simp[Zi,Uu,refl]
    |succ i=>simp[Zi,Uu,ih i]
  exact this Γ i
 obtain⟨F1,f1,A1⟩:=A.weak h0;have hFi:F1 i=[]:=by
  have sl:=A1.slot i;by_cases hi:i<Γ.length
  ·have e:(Γ.set i .U).getD i .U=.U:=by rw[Cb,Sj hi];rfl
   rw[e] at sl;exact sl
  ·have e:(Γ.set i .U).getD i .U=.U:=by rw[Cb,Bi (by simp;lia)];rfl
   rw[e] at sl;exact sl
 have A2:Ag K B H0 H (σ.set i none) (Γ.set i .U) ρ F1 []:=⟨A1.same,A1.own,A1.young,A1.youngR,A1.live,A1.liveR,A1.disj,A1.disjR,by simpa using A1.lenS,A1.lenR,fun j=>by
  by_cases hj:j=i
  ·subst hj
   have e:(Γ.set j .U).getD j .U=.U:=by
    by_cases hi:j<Γ.length
    ·rw[Cb,Sj hi];rfl
    ·rw[Cb,Bi (by simp;lia)];rfl
   rw[e];exact hFi
  ·have sl:=A1.slot j
   rw[Tk (Ne.symm hj)];exact sl⟩
 obtain⟨F3,f3,A3⟩:=A2.weak h;exact⟨F3,fun j a ha=>f1 j a (f3 j a ha),A3⟩
noncomputable def Fw(e:PX):PV:=match e.2 with
 |.int i=>.exa e.1 i
 |_=>.exc e.1
noncomputable def DC(L:List Str)(i:Nat)(gb gh:LI5->RS)(ρ:LI5):RS:=match gb ρ with
 |.exc e=>if e.1∈L then gh (ρ.set i (Fw e)) else .bad
 |r=>r
section
variable {K:ZlR}{EX:PX->Hp->Prop}{Γ Γs:List Md}{Y Yh:W6}{tb:(St->XK)->TS}{th:TS}{gb gh:LI5->RS}{C:Ja}{i:Nat}{L:List Str}
theorem Zff(hL:∀n∈L,∀D,Xg K n D->PySem.W.exmOne K (.ref D) (.ref C)=some true)(hb:∀E:XK,DS K (Zm K E) Γs Y (tb fun _=>E) gb)(hloc:∀(E:St->XK) D σ H,tb (fun _=>E σ) D σ H->tb E D σ H)(hh:DS K EX (Γs.set i .P) Yh th gh)(hs:Zi Γ Γs=true)(ho:FW Γs=true)(hi:i<Γs.length)(hn:Zi (Yh.n.set i .U) Y.n=true)(hbk:Zi (Yh.b.set i .U) Y.b=true)(hct:Zi (Yh.c.set i .U) Y.c=true)(hr:Yh.r=Y.r) :
  DS K EX Γ Y (ZaA K C i tb th) (DC L i gb gh):=fun B H0 H σ ρ F D A d=>by
 obtain⟨F1,f1,A1⟩:=A.weak hs;have hF:=Ziu ho A1;have AN:=A1.near hF;refine hloc _ D σ H (hb (M7 K C i th D σ) B H H σ ρ F1 D AN ?_);have frm0:∀{H' F'},Kc H F1 H' F'->Kc H F H' F':=fun {H' F'} fr=>(Kc.of (La.refl _) f1).trans fr;unfold DC at d;cases e:gb ρ with
 |next ρ1=>rw[e] at d;exact fun σ' H' F' fr A'=>d σ' H' F' (frm0 fr) (A'.far A.same A.own)
 |brk ρ1=>rw[e] at d;exact fun σ' H' F' fr A'=>d σ' H' F' (frm0 fr) (A'.far A.same A.own)
 |cont ρ1=>rw[e] at d;exact fun σ' H' F' fr A'=>d σ' H' F' (frm0 fr) (A'.far A.same A.own)
 |ret x =>
  rw[e] at d;refine fun v H' s r=>d v H' (A.same.trans s) ?_;cases hk:Y.r with
  |P=>rw[hk] at r;exact r
  |F=>rw[hk] at r;obtain⟨G,r1,r2⟩:=r;exact⟨G,r1,fun a ha=>A.same.free (r2 a ha)⟩
  |T=>rw[hk] at r;exact Ta.mono (fun a us s r=>⟨r,s.elim .inl fun z=>.inr (A.same.free z)⟩) (fun a us r=>r) r
  |Z=>rw[hk] at r;exact Ta.mono (fun a us s r=>⟨r,s.elim .inl fun z=>.inr (A.same.free z)⟩) (fun a us r=>r) r
  |A=>rw[hk] at r;exact Ta.mono (fun a us s r=>⟨r,s.elim .inl fun z=>.inr (A.same.free z)⟩) (fun a us r=>r) r
  |N=>rw[hk] at r;obtain⟨y,a,s,xs,G1,G2,r1,r2,r3,r4,r5,r6⟩:=r;exact⟨y,a,s,xs,G1,G2,r1,r2,r3,r4,fun b hb=>A.same.free (r5 b hb),fun b hb=>A.same.free (r6 b hb)⟩
  |M=>rw[hk] at r;obtain⟨y,a0,x0,a1,x1,a2,x2,r1,r2,r3,r4,r5,r6,r7,r8,r9⟩:=r;exact⟨y,a0,x0,a1,x1,a2,x2,r1,r2,r3,r4,r5,r6,A.same.free r7,A.same.free r8,A.same.free r9⟩
 |bad=>rw[e] at d;exact d
 |exc q =>
  rw[e] at d;dsimp only at d;by_cases hq:q.1∈L
  ·rw[Da hq] at d
   intro H' sm C' k hC' hk;refine⟨hL q.1 hq C' hC',k,rfl,fun ea oe hea hc hdn hnc=>?_⟩;have s1:La H' (upd H' ea (.frz oe (.own ea))):=La.newO hea;have s2:La H (upd H' ea (.frz oe (.own ea))):=sm.trans s1;have A2:Ag K B H0 (upd H' ea (.frz oe (.own ea))) σ Γs ρ F1 []:=A1.grow s2;have key:∀S:Ja->Prop,PV.flat (Fw q)=true/\Ta K (upd H' ea (.frz oe (.own ea))) S (Fw q) (.ref ea):=fun S=>by
    obtain⟨qn,qv⟩:=q;cases qv with
    |non =>
     have hk:H' k=none:=hk;rcases hdn with ⟨z,_⟩|⟨_,fs,z⟩
     ·exact⟨rfl,ea,oe,C',rfl,⟨Uf,trivial⟩,hc,z,hnc,hC'⟩
     ·rw[hk] at z;cases z
    |int i =>
     obtain⟨fs,z1,z2⟩:=(show ∃fs,H' k=some (.xd fs)/\fs=[(("at":Str),V.int i)] from hk)
     rcases hdn with ⟨_,z⟩|⟨z,_⟩
     ·rw[z,hea] at z1;cases z1
     ·exact⟨rfl,ea,oe,C',k,fs,rfl,⟨Uf,trivial⟩,⟨s1 _ _ z1,trivial⟩,hc,z,hnc,hC',z2⟩
    |_=>exact hk.elim
   have A3:=Ag.put (i:=i) (m:=.P) (x:=Fw q) (v:=.ref ea) (G:=[]) (R:=[]) A2 hi (by simp) ⟨rfl,_,rfl,(key fun _=>True).1,(key _).2⟩;refine hh B H0 _ _ _ _ (IM D i) A3 ?_;have fr3:Kc H F (upd H' ea (.frz oe (.own ea))) (Ae F1 i []):=frm0 (O2 (G:=[]) s2 (fun _ _ h=>h) (by simp));cases e2:gh (ρ.set i (Fw q)) with
   |next ρ1 =>
    rw[e2] at d;intro σ' H2 F2 fr A';obtain⟨F4,f4,A4⟩:=A'.unset i hn;exact d _ H2 F4 (fr3.trans (fr.trans (Kc.of (La.refl _) f4))) A4
   |brk ρ1 =>
    rw[e2] at d;intro σ' H2 F2 fr A';obtain⟨F4,f4,A4⟩:=A'.unset i hbk;exact d _ H2 F4 (fr3.trans (fr.trans (Kc.of (La.refl _) f4))) A4
   |cont ρ1 =>
    rw[e2] at d;intro σ' H2 F2 fr A';obtain⟨F4,f4,A4⟩:=A'.unset i hct;exact d _ H2 F4 (fr3.trans (fr.trans (Kc.of (La.refl _) f4))) A4
   |ret x=>rw[e2] at d;exact fun v H2 s r=>d v H2 s (hr▸r)
   |exc q2=>rw[e2] at d;exact d
   |bad=>rw[e2] at d;exact d
  ·rw[Qa hq] at d;exact d.elim
end
noncomputable def Zbe(K:ZlR)(n:Str):Bool:=match PySem.W.nsIn K Tg n with
 |some (some (.ref C))=>PySem.W.exOk K C&&(PySem.W.kitOne K (.type "NoneType") (.ref C)==some false)&&(PySem.W.kitOne K (.ref C) (.type "ValueError")==some true)
 |_=>false
noncomputable def Zbg(K:ZlR)(q:Str×Str×Bool):Bool:=match PySem.W.nsIn K Tg q.1,PySem.W.nsIn K Tg q.2.1 with
 |some (some (.ref D)),some (some (.ref C))=>(PySem.W.kitOne K (.ref D) (.ref C)==some q.2.2)&&(PySem.W.exmOne K (.ref D) (.ref C)==some q.2.2)
 |_,_=>false
noncomputable def Mq(K:ZlR)(ns:List Str)(ss:List (Str×Str×Bool)):Bool:=(PySem.W.kitOne K (.type "NoneType") (.type "ValueError")==some false)&&(ns.all (Zbe K)&&ss.all (Zbg K))
section
variable {K:ZlR}{ns:List Str}{ss:List (Str×Str×Bool)}{n c:Str}
theorem Ps(h:Mq K ns ss=true)(hn:n∈ns):∃C,Xg K n C/\True/\PySem.W.exOk K C=true/\PySem.W.kitOne K (.type "NoneType") (.ref C)=some false/\PySem.W.kitOne K (.ref C) (.type "ValueError")=some true:=by
 simp only[Mq,Bool.and_eq_true] at h;have:=Ah.mp h.2.1 n hn;unfold Zbe at this
 split at this
 ·rename_i C e
  simp only[Bool.and_eq_true,beq_iff_eq] at this;exact⟨C,e,trivial,this.1.1,this.1.2,this.2⟩
 ·cases this
noncomputable def Zbd(K:ZlR)(ns:List Str):Bool:=ns.all fun n=>match PySem.W.nsIn K Tg n with
 |some (some (.ref C))=>PySem.W.excIn K C ZG "ValueError.__new__"
 |_=>false
theorem E5(h:Zbd K ns=true)(hn:n∈ns):∃C,Xg K n C/\PySem.W.excIn K C ZG "ValueError.__new__"=true:=by
 have:=Ah.mp h n hn
 split at this
 ·rename_i C e
  exact⟨C,e,this⟩
 ·cases this
theorem Xg.inj(a:Xg K n C)(b:Xg K n D): C=D:=by have z:=a.symm.trans b;simpa using z
theorem Zbf(h:Mq K ns ss=true)(hm:(n,c,b)∈ss)(hD:Xg K n D)(hC:Xg K c C): PySem.W.kitOne K (.ref D) (.ref C)=some b/\PySem.W.exmOne K (.ref D) (.ref C)=some b:=by
 simp only[Mq,Bool.and_eq_true] at h;have:=Ah.mp h.2.2 _ hm;unfold Zbg at this;have hD':PySem.W.nsIn K Tg n=some (some (.ref D)):=hD;have hC':PySem.W.nsIn K Tg c=some (some (.ref C)):=hC;simp only[hD',hC',Bool.and_eq_true,beq_iff_eq] at this;exact this
theorem QW{L: List (Str×Bool)}(h:L.lookup n=some b): (n,b)∈L:=PySem.mem_of_lookup h
theorem MC{L:List (Str×Bool)}(h:Mq K ns ss=true)(hc:c∈ns)(hL:(L.all fun p=>ns.contains p.1&&ss.contains (p.1,c,p.2))=true):∃C,Xg K c C/\HE K (.ref C) L:=by
 obtain⟨C,e,_,_,e2,_⟩:=Ps h hc;refine⟨C,e,rfl,e2,fun n b hb D hD=>?_⟩;have:=Ah.mp hL _ (QW hb);simp only[Bool.and_eq_true,Ru] at this;obtain⟨D',d1,_,d2,_⟩:=Ps h this.1;obtain rfl:=d1.inj hD;exact⟨d2,(Zbf h this.2 hD e).1⟩
theorem ZlB{L:List (Str×Bool)}(h:Mq K ns ss=true)(hL:(L.all fun p=>ns.contains p.1&&p.2)=true):HE K (.ty "ValueError") L:=by
 have h0:=h;simp only[Mq,Bool.and_eq_true,beq_iff_eq] at h0;refine⟨rfl,h0.1,fun n b hb D hD=>?_⟩;have:=Ah.mp hL _ (QW hb);simp only[Bool.and_eq_true,Ru] at this;obtain⟨D',d1,_,d2,_,d3⟩:=Ps h this.1;obtain rfl:=d1.inj hD;have hb':b=true:=this.2;rw[hb'];exact⟨d2,d3⟩
theorem ZlA{L: List Str}(h:Mq K ns ss=true)(hC:Xg K c C)(hL:(L.all fun n=>ss.contains (n,c,true))=true): ∀n∈L,∀D,Xg K n D->PySem.W.exmOne K (.ref D) (.ref C)=some true:=fun n hn D hD=>by
 have:=Ah.mp hL n hn;exact(Zbf h (Ru.mp this) hD hC).2
end
def Dv(K:ZlR)(n m qual:Str)(st:Kb):Prop:=∃C f fd,Xg K n C/\PySem.W.findIn K (.ref C) m=some (some (.ref f))/\PySem.W.typeIn K (.ref f)=some (.type "function")/\Xb K m qual st f fd
theorem ZcO:Gh "ValueError"=some (.type "ValueError"):=by decide +kernel
section
end
noncomputable def Mu(L:List Str)(i:Nat)(gh:LI5->RS)(ρ:LI5)(r:RS):RS:=match r with
 |.exc e=>if e.1∈L then gh (ρ.set i (Fw e)) else .bad
 |r=>r
@[simp] theorem ZkY: DC L i gb gh ρ=Mu L i gh ρ (gb ρ):=by
 unfold DC Mu;cases gb ρ<;>rfl
@[simp] theorem Zlb: Mu L i gh ρ (.next ρ')=.next ρ':=rfl
@[simp] theorem ZkZ: Mu L i gh ρ (.exc (n,.non))=if n∈L then gh (ρ.set i (.exc n)) else .bad:=rfl
theorem Hh(h:L.lookup n=some b): Yf L (.exc n)=.ok (.bl b):=by unfold Yf;simp only[h]
theorem R8(h:n∈L): Zq L (.exc n)=.ok (.str n):=by unfold Zq;simp only[Da h]
@[simp] theorem ZiR: Z9 g (.exc n)=.ok (.bl (g false)):=rfl
section
end
theorem NW(h:PyData.canLay0 (.str x)=true): Aj (.str x)=true:=by simp[Aj,PV.noX,PV.dat,PyData.depth,h]
theorem Y8(ha:PyData.canLay0 (.str a)=true)(hb:PyData.canLay0 (.str b)=true): Ji g (.str a) (.str b)=.ok (.bl (g (a==b))):=by
 unfold Ji;rw[NW ha,NW hb];simp only[Bool.and_self,if_true,PV.dat,PyData.eqv]
section
end
theorem Zg7{ns ms:LI0}:ns.map PV.int=ms.map PV.int ↔ ns=ms:=⟨Nj,fun h=>by rw[h]⟩
noncomputable def Ze(o:Option Str)(x:PV):Rr PV:=match o with
 |none=>.ok x
 |some n=>.exc (n,.non)
theorem Cr(hw:Vh b xs ρ=W)(I:Nat->LI5->Prop)(h0:I 0 ρ)(h:∀i x ρ,xs[i]?=some x->I i ρ->(b x ρ).good (I (i+1))):
  ∃ρ',W=.next ρ'/\I xs.length ρ':=by
 obtain⟨ρ',h1,h2⟩:=OT I h0 h;exact⟨ρ',hw.symm.trans h1,h2⟩
theorem ZfS(hw:Vh b xs ρ=W)(n:Nat)(I:Nat->LI5->Prop)(h0:I 0 ρ)(h:∀i x ρ,i<n->xs[i]?=some x->I i ρ->(b x ρ).good (I (i+1)))(hn:n<xs.length)(hr:∀x ρ,xs[n]?=some x->I n ρ->b x ρ=.ret v): W=.ret v:=by
 subst hw;have key:∀m i ρ,n=i+m->I i ρ->Vh b (xs.drop i) ρ=.ret v:=by
  intro m
  induction m with
  |zero =>
   intro i ρ hl hI;have hi:i<xs.length:=by lia
   rw[Tl hi];obtain rfl:n=i:=by lia
   simp only[Vh,hr _ ρ (Yc hi) hI];rfl
  |succ m ih =>
   intro i ρ hl hI;have hi:i<xs.length:=by lia
   rw[Tl hi];obtain⟨ρ',h1,h2⟩:=RS.good_ex (h i _ ρ (by lia) (Yc hi) hI);simp only[Vh];rcases h1 with h1|h1<;>(rw[h1];exact ih (i+1) ρ' (by lia) h2)
 exact key n 0 ρ (by lia) h0
theorem HC(hw:Jn c b ρ=W)(N:Nat)(I:Nat->LI5->Prop)(h0:I 0 ρ)(hs:∀i ρ,i<N->I i ρ->c ρ=.ok true/\(b ρ).good (I (i+1)))(he:∀ρ,I N ρ->c ρ=.ok false):
  ∃ρ',W=.next ρ'/\I N ρ':=by
 subst hw;have key:∀m i ρ,N=i+m->I i ρ->∃ρ',Ki c b (m+1) ρ=some (.next ρ')/\I N ρ':=by
  intro m
  induction m with
  |zero =>
   intro i ρ hl hI;obtain rfl:N=i:=by lia
   refine⟨ρ, ?_,hI⟩;unfold Ki;rw[he ρ hI]
  |succ m ih =>
   intro i ρ hl hI;obtain⟨h1,h2⟩:=hs i ρ (by lia) hI;obtain⟨ρ',h3,h4⟩:=RS.good_ex h2;obtain⟨ρ2,h5,h6⟩:=ih (i+1) ρ' (by lia) h4;refine⟨ρ2, ?_,h6⟩;unfold Ki;rw[h1];rcases h3 with h3|h3<;>(rw[h3];exact h5)
 obtain⟨ρ',h1,h2⟩:=key N 0 ρ (by lia) h0;exact⟨ρ',ZaQ h1,h2⟩
theorem WI{ns: LI0}(h:∀z∈ns,f (.int z)=.ok (.int (g z))): Xh f (ns.map PV.int)=.ok ((ns.map g).map PV.int):=by
 induction ns with
 |nil=>rfl
 |cons n ns ih =>
  simp only[Ed,Xh,h n (by simp),Rr.bind_ok,ih fun z hz=>h z (by simp[hz])]
theorem YV{ns: LI0}(h:∀z∈ns,f (.int z)=.ok (.bl (g z))): Xh f (ns.map PV.int)=.ok ((ns.map g).map PV.bl):=by
 induction ns with
 |nil=>rfl
 |cons n ns ih =>
  simp only[Ed,Xh,h n (by simp),Rr.bind_ok,ih fun z hz=>h z (by simp[hz])]
theorem E8{lo: Int}(h:∀i,i<n->f (.int (lo+(i:Nat)))=.ok (.int (g i))): Xh f (Cj lo n)=.ok (((List.range n).map g).map PV.int):=by
 unfold Cj;have:∀l:List Nat,(∀i∈l,i<n)->Xh f (l.map fun(k:Nat)=>PV.int (lo+(k:Int)))=.ok ((l.map g).map PV.int):=by
  intro l
  induction l with
  |nil=>intro _;rfl
  |cons a l ih =>
   intro hl;simp only[Ed,Xh,h a (hl a (by simp)),Rr.bind_ok,ih fun i hi=>hl i (by simp[hi])]
 exact this _ fun i hi=>Dh.mp hi
theorem ZiF(bs:List Bool):O3 [.lst (bs.map PV.bl)]=.ok (.bl (bs.all id)):=by simp only[O3,ZcL]
theorem BP{ns: LI0}[DecidablePred p]: (ns.map fun z=>decide (p z)).all id=decide (∀x∈ns,p x):=by
 rw[Bool.eq_iff_iff,Ah,decide_eq_true_iff];simp
theorem ZdI{ns:LI0}{h:Int}(h0:0<=h):Cp (ns.map PV.int) none (some h)=(ns.take h.toNat).map PV.int:=by
 unfold Cp HT.Gg;simp only[Pb,Su,Nat.sub_zero];rw[Qa (by lia),<- List.map_take];congr 1;rw[List.take_eq_take_iff];lia
theorem ZdH{ns:LI0}{l:Int}(h0:0<=l):Cp (ns.map PV.int) (some l) none=(ns.drop l.toNat).map PV.int:=by
 unfold Cp HT.Gg;simp only[Pb];rw[Qa (by lia),<- List.map_drop,<- List.map_take];congr 1;rw[Yk (by simp)];by_cases h:l.toNat<=ns.length
 ·rw[Nat.min_eq_left h]
 ·rw[Ez (by lia),Ez (by lia)]
theorem Zjj{i j:Int}(h1:-(10^80)<=i)(h2:i<=10^80)(h3:-(10^80)<=j)(h4:j<=10^80):SJ (.int i) (.int j)=.ok (.int (i*j)):=Q9 (ZdC 80 80 (by lia) (by lia))
theorem Zi8: Ze none x=.ok x:=rfl
theorem Zi9: Ze (some n) x=.exc (n,.non):=rfl
theorem Zis{z: Int}(h:ns.length<1000000): newF (ns.map PV.int++[.int z])=.ok (.lst ((ns++[z]).map PV.int)):=AJ (ms:=[z]) (by simp only[Ci,Kz,Gj];lia)
theorem Zir{z: Int}(h:ns.length<1000000): newF (.int z::ns.map PV.int)=.ok (.lst ((z::ns).map PV.int)):=AJ (ns:=[z]) (by simp only[Ci,Kz,Gj];lia)
theorem Zla(h:n∈L): Mu L i gh ρ (.exc (n,.non))=gh (ρ.set i (.exc n)):=by rw[ZkZ,Da h]
theorem Zkc: List.replicate (n+1) PV.non=PV.non::List.replicate n PV.non:=rfl
theorem Zkd:List.replicate 0 PV.non=[]:=rfl
section
end
theorem Zgi{b: Int}: grd (.tup [.str a,.int b])=.ok (.tup [.str a,.int b]):=rfl
theorem Zgh{a b:Int}:grd (.tup [.int a,.int b])=.ok (.tup [.int a,.int b]):=rfl
theorem ZiS: Z9 g .non=.ok (.bl (g true)):=rfl
theorem ZiO: Ji g (.lst (ns.map PV.int)) (.lst [])=.ok (.bl (g (decide (ns=[])))):=YW ns []
section
variable {X:Cx}{Za:List (Ja×Obj)}{σ:St}{H:Hp}{s:Ga}{h':Heap}
theorem Ca.turned2(I:Ca X Za σ H s)(k:∀b o,b≠e->b≠it->s.heap.get? b=some o->h'.get? b=some o)(f:∀b,b=e\/b=it->H b=none/\b≠X.env.locals/\(b∈X.ex\/X.s₀.heap.objs.size<=b)/\(∀x c,X.env.cells.lookup x=some c->c≠b)/\∀p∈X.pn++Za,p.1≠b): Ca X Za σ H { s with heap:=h',toks:=t' }:=by
 have nit:∀b u,H b=some u->b≠e/\b≠it:=fun b u q=>by
  refine⟨fun z=>?_,fun z=>?_⟩
  ·rw[z,(f e (.inl rfl)).1] at q;cases q
  ·rw[z,(f it (.inr rfl)).1] at q;cases q
 refine I.step (g':=s.gens) (d':=s.drawn) (ch:=[e,it]) (fun b hb=>?_) (fun b o _ _ hc q _=>k b o (fun z=>hc (by simp[z])) (fun z=>hc (by simp[z])) q) (fun b o _ _ hc q _=>⟨o.slots,k b o (fun z=>hc (by simp[z])) (fun z=>hc (by simp[z])) q⟩) (fun _ _ _ _ n=>n)
  (fun b o hc q=>⟨o,k b o (fun z=>hc (by simp[z])) (fun z=>hc (by simp[z])) q⟩) (fun _ _ q=>q) (fun _ _ _ q=>q) (fun b ps w q=>q) (fun m hm=>?_) (fun b u q=>?_) I.bare
 ·obtain⟨g0,g1,g2,g3,g4⟩:=f b (by simpa using hb)
  exact⟨g2,g1,g3,g4⟩
 ·obtain⟨o,es,ep,ho,r⟩:=hm
  exact⟨o,es,ep,k _ o (Ne.symm (f e (.inl rfl)).2.1) (Ne.symm (f it (.inr rfl)).2.1) ho,r⟩
 ·refine(I.hok b u q).stay (fun c v hc q2=>?_) (fun _ q2=>q2) fun _ _ q2=>q2
  have:c≠e/\c≠it:=by
   rcases hc with z|z
   ·rw[z];exact nit b u q
   ·exact nit c _ z
  exact k c v this.1 this.2 q2
theorem Ca.adoptT(I:Ca X Za σ H s)(hn:H D=none)(h1:X.s₀.heap.objs.size<=D)(hL:D≠X.env.locals)(hc:∀x c,X.env.cells.lookup x=some c->c≠D)(hp:∀p∈X.pn++Za,p.1≠D)(ho:s.heap.get? D=some { cls:=.type "tuple",data:=.seq its.toArray })(r:Ab ys its)(hz:ys.length<=Cc): Ca X Za σ (upd H D (.tup ys)) s:=by
 refine I.step (h':=s.heap) (g':=s.gens) (d':=s.drawn) (t':=s.toks) (ch:=[D]) (fun b hb=>?_) (fun b o _ _ _ e _=>e) (fun b o _ _ _ e _=>⟨o.slots,e⟩) (fun b o hb _ e=>?_) (fun b o _ e=>⟨o,e⟩)
  (fun b xs e=>?_) (fun b o u e=>?_) (fun b ps w e=>?_) (fun m hm=>hm) (fun b u e=>?_) I.bare
 ·have e:b=D:=by simpa using hb
  subst e;exact⟨.inr h1,hL,hc,hp⟩
 ·rw[Rb (by simpa using hb)];exact e
 ·rw[Rb (Qg e hn)];exact e
 ·rw[Rb (Qg e hn)];exact e
 ·rw[Rb (Qg e hn)];exact e
 ·by_cases hb:b=D
  ·subst hb
   rw[Uf] at e;cases e;exact⟨hz,its,r,_,ho,rfl,_,rfl⟩
  ·rw[Rb hb] at e
   exact(I.hok b u e).stay (fun c v _ q=>q) (fun c q=>by rw[Rb (Qg q hn)];exact q) fun c xs q=>by rw[Rb (Qg q hn)];exact q
end
noncomputable def IE(K:ZlR)(a:Ja):It:=
 ⟨fun i H=>∃xs x,Yb K H a xs/\xs[i]?=some x,fun i H v H'=>∃t x,v=.ref t/\H t=none/\H'=upd H t (.tup [.int i,x])/\∀xs,Yb K H a xs->xs[i]?=some x,fun i H=>∃xs,Yb K H a xs/\xs.length<=i⟩
theorem Zle{P:Bc}{w:Jc}{K:ZlR}{elts:List Expr}{x1:Nat}{tpos:Pos}(a e it:Ja)(hne:e≠it):Gv P w K (.Tuple elts x1 tpos) (IE K a) [e,it] e (fun i h=>∃old,IsEnum h e it i old/\h.IsListIter it a i) where
 mem:=by simp
 obj:=fun i h ⟨old,s1,s2⟩ b hb=>by
  rcases Vd.mp hb with z|z
  ·subst z
   exact⟨_,s1,fun v z=>by
    have z':Data.fields _=Data.cell v:=z;cases z'⟩
  ·have z:b=it:=by simpa using z
   subst z;obtain⟨o,e,c,d⟩:=s2;exact⟨o,e,fun v z=>by rw[d] at z;cases z⟩
 keep:=fun i h h' ⟨old,s1,s2⟩ k=>⟨old,k e (by simp) _ s1,s2.at fun o q=>k it (by simp) o q⟩
 item:=by
  intro X hP hw hK hc i Za s σ H E I hf ⟨old,s1,s2⟩ hg;subst hP hw hK;obtain⟨xs,x,hq,hx⟩:=hg;obtain⟨its,rv,p,hz⟩:=I.list hq;obtain⟨u,hu,ru⟩:=rv.get hx;have fz:∀b,b=e\/b=it->H b=none/\b≠X.env.locals/\(b∈X.ex\/X.s₀.heap.objs.size<=b)/\(∀x c,X.env.cells.lookup x=some c->c≠b)/\∀p∈X.pn++Za,p.1≠b:=fun b hb=>by
   obtain⟨f0,f1,f2,f3,f4,f5⟩:=hf b (by simpa using hb);exact⟨f0,f1,f3,f4,f5⟩
  refine wpAny_pyNext_enum_item s1 s2 p.isList (x:=u) (by simpa using hu) hne fun h1 e1 i1 t1 z1 k1=>?_;refine⟨_,rfl, ?_⟩;refine wpAny_letOwnedTupleGo_enum e1 fun h2 e2 sb2=>?_;have I2:Ca X Za σ H { s with heap:=h2,toks:=s.toks+1 }:=I.turned2 (fun b o n1 n2 q=>sb2.extBut b o n1 (k1 b o n1 n2 q)) fz;have hfr:=I.hok.fresh (Db s.heap.objs.size);have het:s.heap.objs.size≠e:=Oz (Heap.lt_size s1);have fsz:=I.fpOk (H':=H) (Db s.heap.objs.size) hfr;obtain⟨g0,g1,g2,g3,g4,g5⟩:=fsz;have I3:=I2.adoptT (D:=s.heap.objs.size) (ys:=[.int i,x]) (its:=[.int i s.toks,u]) hfr I.sz g1 g4 g5 (sb2.extBut _ _ het t1) (.cons ⟨_,rfl⟩ (.cons ru .nil)) (show 2<=Cc by decide);refine⟨.ref s.heap.objs.size,_,I3,rfl,⟨_,x,rfl,hfr,rfl,fun ys hy=>by rw[I.list_inj hy hq];exact hx⟩,⟨u,by
   have:((i+1:Nat):Int)=(i:Int)+1:=by lia
   rw[this];exact e2,i1.extBut sb2.extBut (Ne.symm hne)⟩,fun b hb=>?_⟩
  have hbn:b≠s.heap.objs.size:=by
   rcases Vd.mp hb with z|z
   ·rw[z];exact het.symm
   ·have z:b=it:=by simpa using z
    obtain⟨o,q,_⟩:=s2;rw[z];exact Jf (Heap.lt_size q)
  rw[Rb hbn];exact(hf b hb).1
 done:=by
  intro X hP hw hK hc i Za s σ H E I hf ⟨old,s1,s2⟩ hg;subst hP hw hK;obtain⟨xs,hq,hx⟩:=hg;obtain⟨its,rv,p,hz⟩:=I.list hq;obtain⟨f0,f1,f2,f3,f4,f5⟩:=hf it (by simp);have hl:=rv.length;exact wpAny_pyNext_enum_end (I.ok.hd hc) s1 s2 p.isList (by simp;lia) fun h' eb=>⟨rfl,I.turned (t':=s.toks) (fun b o hb q=>eb b o hb q) f0 f1 f3 f4 f5⟩
 self:=fun _ _ _ _ _ ⟨old,st,_⟩ h=>wpAny_pyIter_enum st h
section
variable {X:Cx}{elts:List Expr}{x1:Nat}{tpos:Pos}
noncomputable def YH(K:ZlR)(tl:TA):TI:=fun σ H R=>tl σ H fun vs H1=>∃a,vs=[.ref a]/\(∃xs,Yb K H1 a xs)/\R (IE K a) H1
theorem ZcQ:Gh "enumerate"=some (.type "enumerate"):=by decide +kernel
theorem ZjJ{l:Expr}{tl:TA}{p pos:Pos}(hg:Gl X "enumerate")(hm:X.mg "enumerate"=none)(ha:PA X [l] tl)(hs:Tc [l] X.env=[(false,eval l X.env)]:=by rfl):PI X (.Tuple elts x1 tpos) (.Call (.Name "enumerate" p) [l] [] pos) (YH X.K tl):=by
 intro Za s σ H R I h;refine Call_ (Lr I hg hm ZcQ (PyProof.Rows.callWith_type1 (Qb (ha pos Za s σ H _ I h) fun us s1 ⟨vs,H1,I1,r1,q1⟩=>?_) hs rfl));obtain⟨a,e,⟨xs,hq⟩,q⟩:=q1;subst e;cases r1 with
 |cons r rr =>
  cases rr;cases r;obtain⟨its,rv,pl,hz⟩:=I1.list hq;refine call_enumerate_list pl.isList fun h' e1 i1 z1 k1=>?_;refine wpAny_pyIter_enum e1 ?_;have I2:Ca X Za σ H1 { s1 with heap:=h' }:=I1.kept (t':=s1.toks) k1;refine⟨s1.heap.objs.size+1,[s1.heap.objs.size+1,s1.heap.objs.size],_,_,H1,rfl,I2,Zle a _ _ (Nat.succ_ne_self _),⟨_,e1,i1⟩,fun b hb=>?_,q⟩;have hb':s1.heap.objs.size<=b:=by
   rcases Vd.mp hb with z|z
   ·rw[z];exact Wu _
   ·have z:b=s1.heap.objs.size:=by simpa using z
    rw[z];exact Db _
  exact I1.fpOk hb' (I1.hok.fresh hb')
theorem ZjK{K:ZlR}{l:Expr}{tl:TA}{p pos:Pos}(hg:Gl X "enumerate")(hm:X.mg "enumerate"=none)(ha:PA X [l] tl)(hs:Tc [l] X.env=[(false,eval l X.env)]:=by rfl)(e:X.K=K:=by rfl):PI X (.Tuple elts x1 tpos) (.Call (.Name "enumerate" p) [l] [] pos) (YH K tl):=by subst e;exact ZjJ hg hm ha hs
end
noncomputable def Zo(xs:LI5):LI5:=xs.mapIdx fun i x=>.tup [.int (i:Nat),x]
section
variable {K:ZlR}{H:Hp}{EX:PX->Hp->Prop}{Γ Γ':List Md}
theorem ZgF(h:Ta K H S (.lst xs) (.ref a)): Hn K S (IE K a) (Zo xs) H:=by
 obtain⟨a',vs,e,hn,hr⟩:=h;cases e;intro i;constructor
 ·intro x hx
  unfold Zo at hx;rw[UN] at hx;cases hxi:xs[i]? with
  |none=>rw[hxi] at hx;cases hx
  |some y =>
   rw[hxi] at hx;cases hx;obtain⟨u,e1,e2⟩:=hr.get hxi;refine⟨⟨vs,u,Nf hn,e1⟩,fun v H' ⟨t,z,e3,e4,e5,e6⟩=>?_⟩;have:=e6 vs (Nf hn);rw[e1] at this;cases this;subst e3 e5;have sm:La H (upd H t (.tup [.int i,u])):=La.upd (La.refl H) e4;exact⟨sm,t,_,rfl,⟨Uf,trivial⟩,⟨_,_,rfl,rfl,_,_,rfl,e2.same sm,rfl⟩⟩
 ·intro hx
  unfold Zo at hx;rw[UN] at hx;have:xs[i]?=none:=by cases hxi:xs[i]? with
   |none=>rfl
   |some y=>rw[hxi] at hx;cases hx
  exact⟨vs,Nf hn,by rw[hr.length];exact Ts.mp this⟩
noncomputable def IJ(xs:LI5):Rr LI5:=match xs with
 |[.lst ys]=>.ok (Zo ys)
 |_=>.bad
theorem ZeR(ha:Av K EX Γ Γ' ta fa): DI K EX Γ Γ' (YH K ta) (fun ρ=>(fa ρ).bind IJ):=fun B H0 H σ ρ F R Q A d=>by
 refine ha B H0 H σ ρ F R _ A (d.bind.imp (fun xs _ d vs H1 F1 s1 f1 p1 A1=>?_) fun e q=>q);unfold IJ at d
 split at d
 ·rename_i ys
  obtain⟨v,rfl,h1⟩:=Xi p1;obtain⟨a,us,rfl,hn,hr⟩:=id h1;exact⟨a,rfl,⟨us,Nf hn⟩,d _ H1 F1 s1 f1 A1 fun H2 F2 h=>ZgF (h1.frm h A1)⟩
 ·exact d.elim
theorem ZiK: IJ [.lst ys]=.ok (Zo ys):=rfl
theorem Zfm(xs:LI5):(Zo xs).length=xs.length:=by simp[Zo]
variable {prog:Bc}{w:Jc}{A:Pd}{R:Result->Ga->Prop}{s:Ga}
theorem ZdD(I:Nat->Ga->Prop)(turn:∀n s,I n s->Ra (Na prog w) A (pyNext it) (fun r s₁=>match r with
   |none=>R (.ok .next) s₁
   |some v=>Ra (Na prog w) A (ND target it v) (fun _ s₁'=>Ra (Na prog w) A (assign target env v) (fun _ s₂ =>
     Ra (Na prog w) A (forIn ifs true fun c r=>if r=true then do let ok <- isTrue c env (eval c env);pure (ForInStep.yield ok) else pure (ForInStep.yield r)) (fun ok s₃ =>
      if ok=true then Ra (Na prog w) A (eval elt env) (fun x s₄ =>
       Ra (Na prog w) A (call (.builtin "list.append") [acc,x]) (fun _ s₅=>∃m,m<n/\I m s₅) (notedBy (Na prog w) A env fun e s'=>R (.error e) s') s₄) (notedBy (Na prog w) A env fun e s'=>R (.error e) s') s₃
      else ∃m,m<n/\I m s₃) (notedBy (Na prog w) A env fun e s'=>R (.error e) s') s₂) (notedBy (Na prog w) A env fun e s'=>R (.error e) s') s₁') (notedBy (Na prog w) A env fun e s'=>R (.error e) s') s₁) (notedBy (Na prog w) A env fun e s'=>R (.error e) s') s)(n:Nat)(h:I n s):
  codeAny (Na prog w) A (.compLoop (.ListComp elt [⟨target,iter,ifs,0⟩] scope pos) 0 it acc env) R s:=by
 refine codeAny_loop rfl I (fun n s hI=>?_) n h;show Ra _ A ((compTurn (.ListComp elt [⟨target,iter,ifs,0⟩] scope pos) 0 it acc env).onRaise (fun x=>do noteFrame x env;theTreesLotGoes x)) _ _ s;refine wpAny_noted ?_;rw[compTurn_list];refine Ia (wpAny_standAt (Ia (Vf (turn n s hI) (fun r s₁ h₁=>?_) fun _ _ h'=>h')));cases r with
 |none=>exact Ib h₁
 |some v =>
  refine Ia (Vf h₁ (fun _ s₁' h₁'=>?_) fun _ _ h'=>h');refine Ia (Vf h₁' (fun _ s₂ h₂=>Ia (Vf h₂ (fun ok s₃ h₃=>?_) fun _ _ h'=>h')) fun _ _ h'=>h');cases ok with
  |false=>exact Ib ⟨rfl,h₃⟩
  |true =>
   exact Ia (Ia (Vf h₃ (fun x s₄ h₄=>Ia (Vf h₄ (fun _ s₅ h₅=>Ib (Ib ⟨rfl,h₅⟩)) fun _ _ h'=>h')) fun _ _ h'=>h'))
end
noncomputable def Np(xs:List Str)(y:Str):Str:=if xs.contains y then "" else y
noncomputable def Te(X:Cx)(scope:Scope)(xs:List Str)(C:Ja)(ex:LI2)(s₂:Ga)(H₂:Hp):Cx:=
 { X with N:=X.N.map (Np xs)++xs,s₀:=s₂,H₀:=H₂,env:=compEnvC scope (Yg scope X.env) C X.env,outer:=X.stack,ex:=ex,fn:=fun _=>false,pn:=[],xe:=fun _ _=>False }
noncomputable abbrev TB:=V->Hp->List V->Prop
noncomputable def Ku:TB:=fun x _ vs=>vs=[x]
noncomputable def ZC(K:ZlR):TB:=fun x H vs=>∃t a b,x=.ref t/\Af K H t [a,b]/\vs=[a,b]
def PB(X:Cx)(scope:Scope)(xs:List Str)(tg:Expr)(Bd:TB):Prop:=∀C s₂ H₂ ex,∀(Za:List (Ja×Obj)) (s:Ga) (σ σx:St) (H:Hp) (x:V) (u:Va) (vs:List V) (E:Va->Ga->Prop),σ.length=X.N.length->σx.length=xs.length ->
 Ca (Te X scope xs C ex s₂ H₂) Za (σ++σx) H s->Ob x u->Bd x H vs->Ra (Na X.prog X.w) X.A (assign tg (Te X scope xs C ex s₂ H₂).env u) (fun _ s'=>Ca (Te X scope xs C ex s₂ H₂) Za (σ++vs.map some) H s') E s
def J1(X:Cx)(ifs:List Expr)(t:TT):Prop:=∀(Za:List (Ja×Obj)) (s:Ga) (σ:St) (H:Hp) (Q:Bool->Hp->Prop) (E:Va->Ga->Prop),Ca X Za σ H s->t σ H Q ->
 Ra (Na X.prog X.w) X.A (forIn ifs true fun c r=>if r=true then do let ok <- isTrue c X.env (eval c X.env);pure (ForInStep.yield ok) else pure (ForInStep.yield r)) (TP X Za σ Q) E s
noncomputable def Z5:TT:=fun _ H Q=>Q true H
theorem G9: J1 X [] Z5:=fun Za s σ H Q E I h=>wpAny_tests_nil ⟨_,I,h⟩
def Zao(σ:St)(Bd:TB)(tt:TT)(te:TE)(J:It)(H1:Hp)(Q:VK):Prop:=∃W:Nat->Nat->List V->Hp->Prop,(∃m,W 0 m [] H1)/\∀i m ys H2,W i m ys H2->ys.length<=Cc /\
 ((J.stop i H2/\∀p,H2 p=none->Q (.ref p) (upd H2 p (.lst ys))) \/
  (J.go i H2/\∃N:List V->Hp->Prop,(∀ys' H',N ys' H'->∃m',m'<m/\W (i+1) m' ys' H')/\∀x H3,J.yld i H2 x H3->∃vs,Bd x H3 vs/\tt (σ++vs.map some) H3 fun b H4=>if b=true then te (σ++vs.map some) H4 fun y H5=>N (ys++[y]) H5 else N ys H4))
noncomputable def Lu(wi:TI)(Bd:TB)(tt:TT)(te:TE):TE:=fun σ H Q=>wi σ H fun J H1=>Zao σ Bd tt te J H1 Q
noncomputable def Bp(N:List Str)(sc scope:Scope)(xs:List Str):Bool:=xs.all (fun x=>IG [] sc scope x)&&decide (N.map (Np xs)++xs).Nodup&&!xs.isEmpty&&(N.all fun y=>xs.contains y || !(scope.names.lookup y==some .local))&&(scope.names.lookup (Str.ofString "")==none)
structure VO(N:List Str)(sc scope:Scope)(xs:List Str):Prop where
 scs:∀x∈xs,Uv [] sc scope x
 nd:(N.map (Np xs)++xs).Nodup
 ex:∃x,x∈xs
 noN:∀y∈N,y ∉ xs->scope.names.lookup y≠some .local
 noE:scope.names.lookup (Str.ofString "")=none
theorem D7(h:Bp N sc scope xs=true): VO N sc scope xs:=by
 unfold Bp at h;simp only[Bool.and_eq_true,Ah,decide_eq_true_eq,Bool.not_eq_true',Bool.or_eq_true,beq_iff_eq,beq_eq_false_iff_ne] at h;obtain⟨⟨⟨⟨h1,h2⟩,h3⟩,h4⟩,h5⟩:=h;refine⟨fun x hx=>Uv.of (h1 x hx),h2, ?_,fun y hy hn=>?_,h5⟩
 ·cases xs with
  |nil=>simp at h3
  |cons a l=>exact⟨a,by simp⟩
 ·rcases h4 y hy with z|z
  ·exact Eb (Ru.mp z) hn
  ·exact z
section
variable {X:Cx}{Za:List (Ja×Obj)}{σ:St}{s₂:Ga}{H₂:Hp}{scope:Scope}{x:Str}{xs:List Str}{tg elt iter:Expr}{ifs:List Expr}{pos:Pos}{Bd:TB}{tt:TT}{te:TE}{J:It}{fp:LI2}{it:Ja}{tn:Nat->Heap->Prop}
theorem Rt(sc:Uv N0 X.env.scope scope x)(ok:X.Ok)(h:(Yg scope X.env).lookup y=some c): X.env.cells.lookup y=some c:=by
 have hm:=PySem.mem_of_lookup h;unfold Yg at hm;obtain⟨p,hp,e⟩:=Nd.mp hm;have hp':=An.mp (EN.mp hp);obtain⟨e1,e2⟩:=Prod.mk.inj e;have hk:=sc.fr p hp'.1 (beq_iff_eq.mp hp'.2);obtain⟨c',hc'⟩:=ok.has p.1 hk;rw[hc'] at e2;rw[<- e1,hc'];exact Ef some e2
theorem ZcK(I:Ca X Za σ H₂ s₂)(sc:Uv N0 X.env.scope scope x)(hC:s₂.heap.objs.size<=C)(ff:∀b∈fp,Um X Za H₂ b)(fo:∀b∈fp,∃o,s₂.heap.get? b=some o): (Te X scope xs C fp s₂ H₂).Ok where
 mod:=I.ok.mod
 kind:=sc.kind
 glob:=I.ok.glob
 blt:=I.ok.blt
 above:=hC
 inj:=fun y z c h1 h2=>I.ok.inj y z c (Rt sc I.ok h1) (Rt sc I.ok h2)
 has:=fun y hy=>by
  have hy':(En scope X.env).names.lookup y=some .cell\/(En scope X.env).names.lookup y=some .free:=hy;have hf:scope.names.lookup y=some .free:=by
   rcases hy' with z|z
   ·exact(Hq sc.nc z).2 (.inl rfl)
   ·exact(Hq sc.nc z).2 (.inr rfl)
  exact C7 hf
 cab:=fun y c h=>by cases h
 hd:=I.ok.hd
 frames:=I.ok.frames
 stk:=.inl rfl
 exf:=fun b hb=>by
  obtain⟨f0,f1,f2,f3,f4,f5⟩:=ff b hb;obtain⟨o,ho⟩:=fo b hb;exact⟨Jf (Mg (Heap.lt_size ho) hC),fun y c h=>f4 y c (Rt sc I.ok h)⟩
 bs:=I.bs
 bsz:=Se I.ok.bsz I.sz
 noex:=fun b o e hb=>by
  obtain⟨f0,f1,f2,f3,f4,f5⟩:=ff b hb;rcases f3 with z|z
  ·exact I.ok.noex b o e z
  ·exact Eb (Mg (Heap.lt_size e) (Se I.ok.bsz z)) (Zl _)
 exfs:=fun b hb z=>by
  obtain⟨f0,f1,f2,f3,f4,f5⟩:=ff b hb;rcases Vd.mp (I.stkSub b z) with e|e
  ·exact f1 e
  ·exact f2 e
 funs:=I.stack
 frf:=I.stkFree
 tab:=fun f c P h1=>I.base.tbls _ _ _ (I.ok.tab f c P h1)
theorem UR{E: Va->Ga->Prop}{RR: Va->Ja->Result->Ga->Prop}(I:Ca X Za σ H₂ s₂)(ck:VO X.N X.env.scope scope xs)(hx:x∈xs)(hNd:X.N.Nodup)(hc:X.calm=true)(T:Gv X.prog X.w X.K tg J fp it tn)(st:tn 0 s₂.heap)(ff:∀b∈fp,Um X Za H₂ b)(hw:Zao σ Bd tt te J H₂ Q)(hb:PB X scope xs tg Bd)(ht:∀C s₂ H₂ ex,J1 (Te X scope xs C ex s₂ H₂) ifs tt)(he:∀C s₂ H₂ ex,PE (Te X scope xs C ex s₂ H₂) elt te)(hvs:∀x H vs,Bd x H vs->vs.length=xs.length)(hRR:∀D C s' H' m',s₂.heap.objs.size<=C->Ca X Za σ H' s'->s'.heap.Ns C m'->H' C=none->Q (.ref D) H'->RR (.ref D) C (.ok .next) s'):
  Ra (Na X.prog X.w) X.A (newList []) (fun acc s₃=>Ra (Na X.prog X.w) X.A (newFunctionEnv scope X.env.globals (Yg scope X.env) [] X.env.qual none .none (some X.env)) (fun cenv s₄ =>
   codeAny (Na X.prog X.w) X.A (.compStart (.ListComp elt [⟨tg,iter,ifs,0⟩] scope pos) 0 (.ref it) acc { cenv with scope:=En scope X.env }) (RR acc cenv.locals) s₄) E s₃) E s₂:=by
 have sc:=ck.scs x hx;refine D6 (wpAny_newFunctionEnv sc.nc (by intro y hy;simp at hy) (fun h₁ hns₁ hsb₁=>?_) sc.kind);dsimp only at hns₁ hsb₁ ⊢;generalize hP2:s₂.heap.push { cls:=.type "list",dict:=none,data:=.seq ([]:LI3).toArray }=P2 at hns₁ hsb₁ ⊢;have hCs:P2.objs.size=s₂.heap.objs.size+1:=by rw[<- hP2,Heap.size_push]
 have hCle:s₂.heap.objs.size<=P2.objs.size:=by rw[hCs];exact Wu _
 have hDC:s₂.heap.objs.size≠P2.objs.size:=by rw[hCs];exact Jf (HD _)
 generalize hCe:P2.objs.size=C at hns₁ hsb₁ hCs hCle hDC ⊢;generalize hDe:s₂.heap.objs.size=D at hCs hCle hDC ⊢;have fo:∀b∈fp,∃o,s₂.heap.get? b=some o:=fun b hb=>let ⟨o,e,_⟩:=T.obj _ _ st b hb;⟨o,e⟩;have flt:∀b∈fp,b<D:=fun b hb=>by obtain⟨o,e⟩:=fo b hb;rw[<- hDe];exact Heap.lt_size e
 have old:∀b o,s₂.heap.get? b=some o->h₁.get? b=some o:=fun b o e=>by
  have hb:=Heap.lt_size e;exact hsb₁.extBut b o (Jf (by rw[hCs];exact GD (hDe▸hb))) (Heap.get?_push_of_some _ (hP2▸Heap.get?_push_of_some _ e))
 have hacc:h₁.get? D=some { cls:=.type "list",data:=.seq ([]:LI3).toArray 0 }:=hsb₁.extBut _ _ hDC (Heap.get?_push_of_some _ (hP2▸hDe▸Heap.get?_push_size _ rfl));have okB:=ZcK (x:=x) (xs:=xs) (C:=C) I sc (by rw[hDe];exact hCle) ff fo;have hfreshD:H₂ D=none:=I.hok.fresh (by rw[hDe];exact Db _);have hfreshC:H₂ C=none:=I.hok.fresh (by rw[hDe];exact hCle);have I0:Ca (Te X scope xs C fp s₂ H₂) [(D,{ cls:=.type "list",data:=.seq ([]:LI3).toArray 0 })] (σ++List.replicate xs.length none) H₂ { s₂ with heap:=h₁,toks:=s₂.toks+([]:List (Str×Va)).length }:=by
  refine⟨okB,rfl,I.bare,Un.kept old,⟨_,hns₁,fun i y v e1 e2 e3=>?_⟩,fun y c e=>?_,hfreshC,fun y c e=>I.freeC y c (Rt sc I.ok e),fun p hp=>?_,I.hok.kept old,by simp[Te,I.len]⟩
  ·have hi:i<σ.length:=by
    by_cases hi:i<σ.length
    ·exact hi
    ·rw[Lg (by lia)] at e2
     rw[R5] at e2
     split at e2<;>cases e2
   rw[Lh hi] at e2;have e1':(X.N.map (Np xs)++xs)[i]?=some y:=e1;rw[Lh (by rw[Pb,<- I.len];exact hi),Dd] at e1';have lk:scope.names.lookup y=some .local\/scope.names.lookup y=some .free:=by
    have e3':(En scope X.env).names.lookup y=some .local\/(En scope X.env).names.lookup y=some .cell\/(En scope X.env).names.lookup y=some .free:=e3;rcases e3' with z|z|z
    ·exact .inl ((Hq sc.nc z).1 rfl)
    ·exact .inr ((Hq sc.nc z).2 (.inl rfl))
    ·exact .inr ((Hq sc.nc z).2 (.inr rfl))
   obtain⟨y0,ey0,ey⟩:∃y0,X.N[i]?=some y0/\Np xs y0=y:=by
    cases q:X.N[i]? with
    |none=>rw[q] at e1';cases e1'
    |some y0=>rw[q] at e1';exact⟨y0,rfl,Option.some.inj e1'⟩
   have hy0:y0 ∉ xs:=fun z=>by
    have:y=Str.ofString "":=by rw[<- ey];unfold Np;rw[Da (Ru.mpr z)]
    rw[this,ck.noE] at lk;rcases lk with z|z<;>cases z
   have ey2:y0=y:=by rw[<- ey];unfold Np;rw[Qa (fun z=>hy0 (Ru.mp z))]
   rw[ey2] at ey0 hy0;have e1':X.N[i]?=some y:=ey0;have yN:y∈X.N:=Zd e1';have e3':(En scope X.env).names.lookup y=some .local\/(En scope X.env).names.lookup y=some .cell\/(En scope X.env).names.lookup y=some .free:=e3;have hcf:(En scope X.env).names.lookup y=some .cell\/(En scope X.env).names.lookup y=some .free:=by
    rcases e3' with z|z
    ·exact Eb ((Hq sc.nc z).1 rfl) (ck.noN y yN hy0)
    ·exact z
   have hfree:scope.names.lookup y=some .free:=by
    rcases hcf with z|z
    ·exact(Hq sc.nc z).2 (.inl rfl)
    ·exact(Hq sc.nc z).2 (.inr rfl)
   obtain⟨c,hcl⟩:=C7 (X:=X) hfree;have hcx:=Rt sc I.ok hcl;have hvis:=sc.fr _ (PySem.mem_of_lookup hfree) rfl;obtain⟨m,hn,hl⟩:=I.loc;obtain⟨u,ru,hlook⟩:=hl i y v e1' e2 (.inr hvis);refine⟨u,ru,.inr ⟨hcf,c,hcl, ?_⟩⟩;rcases hlook with ⟨k,_⟩|⟨k,c',ec,hcell⟩
   ·have k':X.env.scope.names.lookup y=some .local:=k
    have hv':X.env.scope.names.lookup y=some .cell\/X.env.scope.names.lookup y=some .free:=hvis;rw[k'] at hv';rcases hv' with z|z<;>cases z
   ·rw[hcx] at ec;cases ec
    obtain⟨o,ho,hd⟩:=hcell;exact⟨o,old _ _ ho,hd⟩
  ·obtain⟨v,o,ho,hd⟩:=I.cell y c (Rt sc I.ok e)
   exact⟨v,o,old _ _ ho,hd⟩
  ·have e:p=(D,{ cls:=.type "list",data:=.seq ([]:LI3).toArray 0 }):=by simpa[Te] using hp
   subst e;exact⟨hacc,hfreshD,hDC,(fun z=>by
    rcases Vd.mp (I.stkSub D z) with e|e
    ·exact Eb I.lt (by rw[<- e,hDe];exact Zl _)
    ·exact I.nofs (by rw[hDe];exact Db _) e),fun v z=>nomatch z⟩
 obtain⟨W,⟨m0,w0⟩,turn⟩:=hw;have fpB:∀{H':Hp}{o:Obj},(∀b∈fp,H' b=none)->∀b∈fp,Um (Te X scope xs C fp s₂ H₂) [(D,o)] H' b:=fun {H' o} hn b hb=>by
  obtain⟨f0,f1,f2,f3,f4,f5⟩:=ff b hb;obtain⟨g1,g2⟩:=okB.exf b hb;exact⟨hn b hb,g1,okB.exfs b hb,.inl hb,g2,fun p hp=>by
   have e:p=(D,o):=by simpa[Te] using hp
   subst e;exact(Jf (flt b hb)).symm⟩
 have hσ:σ.length=X.N.length:=I.len;have loop:∀s₃:Ga,s₃={ s₂ with heap:=h₁,toks:=s₂.toks+([]:List (Str×Va)).length } ->
   codeAny (Na X.prog X.w) X.A (.compLoop (.ListComp elt [⟨tg,iter,ifs,0⟩] scope pos) 0 (.ref it) (.ref D) (compEnvC scope (Yg scope X.env) C X.env)) (RR (.ref D) C) s₃:=by
  rintro s₃ rfl;refine ZdD
   (fun n s'=>∃i ys its k σx H',σx.length=xs.length/\Ca (Te X scope xs C fp s₂ H₂) [(D,{ cls:=.type "list",data:=.seq (List.toArray its) k })] (σ++σx) H' s'/\tn i s'.heap/\(∀b∈fp,H' b=none)/\Ab ys its/\W i n ys H') ?_ m0
   ⟨0,[],[],0,List.replicate xs.length none,H₂,by simp,I0,T.keep _ _ _ st (fun b hb o e=>old b o e),fun b hb=>(ff b hb).1,.nil,w0⟩
  rintro n s' ⟨i,ys,its,k,σx,H',hσx,I',Ba,fr',rv,w'⟩;obtain⟨hz,hcase⟩:=turn i n ys H' w';have hpinD:=I'.pin (D,{ cls:=.type "list",data:=.seq (List.toArray its) k }) (by simp[Te]);rcases hcase with ⟨stop,q⟩|⟨go,N,hN,step⟩
  ·refine Qb (T.done (Te X scope xs C fp s₂ H₂) rfl rfl rfl hc i _ s' _ H' _ I' (fpB fr') Ba stop) fun r s4 ⟨hr,I4⟩=>?_
   subst hr;have pD:=I4.pin (D,{ cls:=.type "list",data:=.seq (List.toArray its) k }) (by simp[Te]);obtain⟨m4,hn4,_⟩:=I4.loc;have IX:Ca X Za σ H' s4:=I.call' I4.os I4.base I4.hok I4.bare fun b hb=>by
    obtain⟨f0,f1,f2,f3,f4,f5⟩:=ff b hb;exact⟨f3,f1,f4,f5⟩
   have IX2:=IX.adopt (D:=D) (ys:=ys) (its:=its) (n:=k) hpinD.2.1 (by rw[<- hDe];exact I.sz) (by rw[<- hDe];exact Oz I.lt)
    (fun y c e z=>by
     obtain⟨v,o,ho,hd⟩:=I.cell y c e;have:=Heap.lt_size ho;rw[hDe,z] at this;exact Zl _ this)
    (fun p hp z=>by
     have:=Heap.lt_size (I.pin p hp).1;rw[hDe,z] at this;exact Zl _ this) pD.1 rv hz
   refine hRR D C s4 _ m4 (by rw[hDe];exact hCle) IX2 hn4 ?_ (q D hpinD.2.1);rw[Rb (Ne.symm hDC)];exact I4.free
  ·refine Qb (T.item (Te X scope xs C fp s₂ H₂) rfl rfl rfl hc i _ s' _ H' _ I' (fpB fr') Ba go) fun r s4 ⟨u,hr,h4⟩=>?_
   subst hr;refine Qb h4 fun _ s5 ⟨y,H5,I5,r5,y5,st5,fr5⟩=>?_;have I5':=I5.pinned (fpB fr5) (T.obj _ _ st5);obtain⟨vs,bd5,stp⟩:=step y H5 y5;refine Qb (hb C s₂ H₂ fp _ s5 σ σx H5 y u vs _ hσ hσx I5' r5 bd5) fun _ s6 I6=>?_;refine Qb (ht C s₂ H₂ fp _ s6 _ H5 _ _ I6 stp) fun ok s6' hok=>?_;obtain⟨H6',I6',q6'⟩:=hok;have hvl:=hvs _ _ _ bd5;have stay:∀{s9:Ga}{H9:Hp}{ys':List V}{its':LI3}{k':Nat},True:=fun {_ _ _ _ _}=>trivial;cases ok with
   |false =>
    rw[Qa Bool.false_ne_true] at q6' ⊢;have pD6:=I6'.pin (D,{ cls:=.type "list",data:=.seq (List.toArray its) k }) (by simp[Te]);obtain⟨m',hm,w8⟩:=hN _ _ q6';refine⟨m',hm,i+1,ys,its,k,vs.map some,H6',by simp[hvl],I6'.pins_of fun p hp=>?_, ?_,fun b hb'=>?_,rv,w8⟩
    ·have e:p=(D,{ cls:=.type "list",data:=.seq (List.toArray its) k }):=by simpa using hp
     subst e;exact⟨pD6.1,pD6.2.1,pD6.2.2.1,pD6.2.2.2.1,fun v z=>nomatch z⟩
    ·refine T.keep _ _ _ st5 fun b hb' o e=>?_
     exact(I6'.pin (b,o) (Td _ (Td _ (Ww hb' e)))).1
    ·obtain⟨o,e,d⟩:=T.obj _ _ st5 b hb'
     exact(I6'.pin (b,o) (Td _ (Td _ (Ww hb' e)))).2.1
   |true =>
   rw[Da rfl] at q6' ⊢;refine Vf (he C s₂ H₂ fp _ s6' _ H6' _ I6' q6') (fun u7 s7 h7=>?_) fun _ _ f=>f.elim;obtain⟨v7,H7,I7,r7,n7⟩:=h7;have pD7:=I7.pin (D,{ cls:=.type "list",data:=.seq (List.toArray its) k }) (by simp[Te]);have Ge:=rv.length;refine append_at (hsz:=by show its.toArray.size<=Cc;rw[Ve,<- Ge];exact hz) pD7.1 fun h8 hs8 hD8=>?_;obtain⟨m',hm,w8⟩:=hN _ _ n7;have hD8':h8.get? D=some { cls:=.type "list",data:=.seq (its++[u7]).toArray (k+1) }:=by rw[hD8,List.push_toArray]
   have I8:Ca (Te X scope xs C fp s₂ H₂) [] (σ++vs.map some) H7 { s7 with heap:=h8 }:=by
    refine(I7.pins_of (pins':=[]) fun p hp=>Eb hp (by simp)).turned (t':=s7.toks) (it:=D) (fun b o hb e=>(hs8.2 b hb).trans e) pD7.2.1 pD7.2.2.1 (.inr (by show s₂.heap.objs.size<=D;rw[hDe];exact Db _)) (fun y' c' e' z=>?_) fun p hp=>Eb (show p∈([]:List (Ja×Obj)) from by simpa[Te] using hp) (by simp);obtain⟨v,o,ho,hd⟩:=I.cell y' c' (Rt sc I.ok e');have:=Heap.lt_size ho;rw[hDe,z] at this;exact Zl _ this
   refine⟨m',hm,i+1,ys++[v7],its++[u7],k+1,vs.map some,H7,by simp[hvl],I8.pins_of fun p hp=>?_, ?_,fun b hb'=>?_,rv.append (.cons r7 .nil),w8⟩
   ·have e:p=(D,{ cls:=.type "list",data:=.seq (its++[u7]).toArray (k+1) }):=by simpa using hp
    subst e;exact⟨hD8',pD7.2.1,pD7.2.2.1,pD7.2.2.2.1,fun v z=>nomatch z⟩
   ·refine T.keep _ _ _ st5 fun b hb' o e=>?_
    have hpb:=I7.pin (b,o) (Td _ (Td _ (Ww hb' e)));exact(hs8.2 b (Jf (flt b hb'))).trans hpb.1
   ·obtain⟨o,e,d⟩:=T.obj _ _ st5 b hb'
    exact(I7.pin (b,o) (Td _ (Td _ (Ww hb' e)))).2.1
 exact codeAny_compStart_list (loop _ rfl) (T.self _ 0 _ _ _ (T.keep _ _ _ st fun b hb o e=>old b o e) (loop _ rfl))
theorem R3(hx:∀e s,X.xe e s->False)(h:PT X c tt): J1 X [c] tt:=fun Za s σ H Q E I q =>
 wpAny_tests_one (Vf (h Za s σ H Q I q) (fun _ _ z=>z) fun e s z=>(hx e s z).elim)
theorem Tr(hNd:X.N.Nodup)(hchk:Bp X.N X.env.scope scope [x]=true:=by rfl): PB X scope [x] (.Name x px) Ku:=by
 intro C s₂ H₂ ex Za s σ σx H y u vs E hσ hσx I r hb;have ck:=D7 hchk;have sc:=ck.scs x (by simp);have hb:vs=[y]:=hb;subst hb;have ndB:=ck.nd;refine TN ?_;refine P4 (X:=Te X scope [x] C ex s₂ H₂) (i:=X.N.length) (x:=x) (v:=y) I ndB (by simp[Te]) (.inl (Xz sc.var)) r (fun s6 I6=>?_) (.inr (Xz sc.var));obtain⟨o,rfl⟩:∃o,σx=[o]:=by
  cases σx with
  |nil=>simp at hσx
  |cons a l =>
   cases l with
   |nil=>exact⟨a,rfl⟩
   |cons b l=>simp at hσx
 have eσ:(σ++[o]).set X.N.length (some y)=σ++[some y]:=by
  rw[<- hσ];simp
 rw[eσ] at I6;exact I6
theorem Zh1: ∀{l:List α},l.length=2->∃a b,l=[a,b]
 |[a,b],_=>⟨a,b,rfl⟩
theorem Zju(hNd:X.N.Nodup)(hc:X.calm=true)(hchk:Bp X.N X.env.scope scope [x,y]=true:=by rfl): PB X scope [x,y] (.Tuple [.Name x px,.Name y py] k tp) (ZC X.K):=by
 intro C s₂ H₂ ex Za s σ σx H v u vs E hσ hσx I r hb;have ck:=D7 hchk;have sx:=ck.scs x (by simp);have sy:=ck.scs y (by simp);obtain⟨t,a,b,rfl,hq,rfl⟩:=hb;have ndB:=ck.nd;obtain⟨o1,o2,rfl⟩:=Zh1 hσx;have e1:(σ++[o1,o2]).set X.N.length (some a)=σ++[some a,o2]:=by
  rw[<- hσ];simp
 have e2:(σ++[some a,o2]).set (X.N.length+1) (some b)=σ++[some a,some b]:=by
  rw[<- hσ];show List.set (σ++([some a,o2]:St)) _ _=_;rw[IN _ _ (Wu _)];simp
 have g1:PG (Te X scope [x,y] C ex s₂ H₂) (.Name x px) (Ti X.N.length):=UK ndB (by
  show (X.N.map (Np [x,y])++[x,y])[X.N.length]?=some x;rw[Lg (by simp)];simp) (.inl (Xz sx.var)) (.inr (Xz sx.var))
 have g2:PG (Te X scope [x,y] C ex s₂ H₂) (.Name y py) (Ti (X.N.length+1)):=UK ndB (by
  show (X.N.map (Np [x,y])++[x,y])[X.N.length+1]?=some y;rw[Lg (by simp)];simp) (.inl (Xz sy.var)) (.inr (Xz sy.var))
 have g:PG (Te X scope [x,y] C ex s₂ H₂) (.Tuple [.Name x px,.Name y py] k tp) (OH X.K 2 (P7 (Ti X.N.length) (P7 (Ti (X.N.length+1)) NH))):=WX (X:=Te X scope [x,y] C ex s₂ H₂) hc (K9 g1 (K9 g2 XX));refine Vf (g Za s _ H _ _ (fun σ' H'=>σ'=σ++[some a,some b]/\H'=H) I r ⟨t,[a,b],rfl,hq,rfl,a,[b],rfl,b,[],rfl,rfl, ?_⟩) (fun _ s' hq'=>?_) fun _ _ z=>z.elim
 ·exact⟨by rw[e1,e2],rfl⟩
 ·obtain⟨σ',H',I',e3,e4⟩:=hq'
  subst e3 e4;exact I'
theorem X3(hi:PI X tg iter wi)(hb:PB X scope xs tg Bd)(ht:∀C s₂ H₂ ex,J1 (Te X scope xs C ex s₂ H₂) ifs tt)(he:∀C s₂ H₂ ex,PE (Te X scope xs C ex s₂ H₂) elt te)(hvs:∀x H vs,Bd x H vs->vs.length=xs.length)(hNd:X.N.Nodup)(hc:X.calm=true)(hclos:Sz scope X.env=pure (Yg scope X.env):=by rfl)(hchk:Bp X.N X.env.scope scope xs=true:=by rfl)(hs:∀x,Tz iter X.env x=pure x:=by exact fun _=>rfl):
  PE X (.ListComp elt [⟨tg,iter,ifs,0⟩] scope pos) (Lu wi Bd tt te):=by
 intro Za s σ H Q I h;have ck:=D7 hchk;obtain⟨x,hx⟩:=ck.ex;have sc:=ck.scs x hx;rw[eval_ListComp];refine wpAny_comprehension_free (use:=none) rfl hs hclos sc.kind sc.locs (Qb (hi Za s σ H _ I h) fun xv s₁ h₁=>Qb h₁ fun itv s₂ h₂=>?_);obtain⟨it,fp,tn,J,H2,e,I2,T,st2,f2,q⟩:=h₂;subst e;refine UR (RR:=fun acc C=>compPost (Na X.prog X.w) X.A X.xe none (EP X Za σ Q) acc C) I2 ck hx hNd hc T st2 f2 q hb ht he hvs ?_;intro D C s' H' m' hC I' hn hC0 hq;refine⟨m',hn,fun h'' hs''=>⟨.ref D,H', ?_,rfl,hq⟩⟩;refine I'.turned (t':=s'.toks) (it:=C) (fun b o hb e=>(hs''.2 b hb).trans e) hC0 (Oz (Mg I2.lt hC)) (.inr (Se I2.sz hC)) (fun y c e z=>?_) fun p hp z=>?_
 ·obtain⟨v,o,ho,hd⟩:=I2.cell y c e
  exact Eb (Heap.lt_size ho) (J6.mpr (by rw[z];exact hC))
 ·exact Eb (Heap.lt_size (I2.pin p hp).1) (J6.mpr (by rw[z];exact hC))
noncomputable def VM(i:Nat)(wi:TI)(Bd:TB)(tt:TT)(te:TE):TS:=fun D σ H=>Lu wi Bd tt te σ H fun v H'=>D.nx (σ.set i (some v)) H'
theorem M9(hN:X.N.Nodup)(hi:X.N[i]?=some y)(hit:PI X tg iter wi)(hb:PB X scope xs tg Bd)(ht:∀C s₂ H₂ ex,J1 (Te X scope xs C ex s₂ H₂) ifs tt)(he:∀C s₂ H₂ ex,PE (Te X scope xs C ex s₂ H₂) elt te)(hvs:∀x H vs,Bd x H vs->vs.length=xs.length)(hc:X.calm=true)(hsw:swapsWith (.ListComp elt [⟨tg,iter,ifs,0⟩] scope pos) (some (.Name y py)) spos.line X.env=pure true:=by rfl)(hy:X.env.scope.names.lookup y=some .local:=by rfl)(hclos:Sz scope X.env=pure (Yg scope X.env):=by rfl)(hchk:Bp X.N X.env.scope scope xs=true:=by rfl)(hs:∀x,Tz iter X.env x=pure x:=by exact fun _=>rfl):
  PS X (.Assign [.Name y py] (.ListComp elt [⟨tg,iter,ifs,0⟩] scope pos) spos) (VM i wi Bd tt te):=by
 intro Za s σ H D0 I h;have ck:=D7 hchk;obtain⟨x,hx⟩:=ck.ex;have sc:=ck.scs x hx;rw[exec_Assign_Name_used _ _ _ _ hsw];refine Ia (wpAny_standAt (Ia ?_));show Ra _ X.A (do let _ <- comprehension (.ListComp elt [⟨tg,iter,ifs,0⟩] scope pos) scope X.env _ (newList []) false (eval iter X.env) (some (assign (.Name y py) X.env))) _ _ s;refine Ia (Vf (wpAny_comprehension_free (use:=some (assign (.Name y py) X.env)) (Q:=fun _ s'=>SP X Za D0 .next s') rfl hs hclos sc.kind sc.locs
  (Qb (hit Za s σ H _ I h) fun xv s₁ h₁=>Qb h₁ fun itv s₂ h₂=>?_)) (fun _ s' hq=>Ib (Ib hq)) fun _ _ e=>e)
 obtain⟨it,fp,tn,J,H2,e,I2,T,st2,f2,q⟩:=h₂;subst e;refine UR (RR:=fun acc C=>compPost (Na X.prog X.w) X.A X.xe (some (assign (.Name y py) X.env)) (fun _ s'=>SP X Za D0 .next s') acc C) I2 ck hx hN hc T st2 f2 q hb ht he hvs ?_;intro D C s' H' m' hC I' hn hC0 hq;show Ra _ X.A (assign (.Name y py) X.env (.ref D)) _ _ _;have cellC:∀y c,X.env.cells.lookup y=some c->c≠C:=fun y c e z=>by
  obtain⟨v,o,ho,hd⟩:=I2.cell y c e;exact Eb (Heap.lt_size ho) (J6.mpr (by rw[z];exact hC))
 have locC:C≠X.env.locals:=Oz (Mg I2.lt hC);refine TN (Zad (i:=i) (v:=.ref D) I' hN hi (.inl hy) rfl (fun s'' I'' ⟨a,hsa,ha⟩=>?_) (.inr hy));have hCa:C≠a:=by
  rcases ha with z|z
  ·rw[z];exact locC
  ·exact(cellC _ _ z).symm
 refine⟨m',hn.sameBut hsa hCa,fun h'' hs''=>⟨σ.set i (some (.ref D)),H', ?_,hq⟩⟩;refine I''.turned (t':=s''.toks) (it:=C) (fun b o hb e=>(hs''.2 b hb).trans e) hC0 locC (.inr (Se I2.sz hC)) cellC fun p hp z=>?_;exact Eb (Heap.lt_size (I2.pin p hp).1) (J6.mpr (by rw[z];exact hC))
end
noncomputable def Rh{α β:Type}(f:α->Rr (Option β)):List α->Rr (List β)
 |[]=>.ok []
 |x::xs=>(f x).bind fun o=>(Rh f xs).bind fun ys=>.ok (o.toList++ys)
def DB(K:ZlR)(Bd:TB)(k:Nat)(hb:PV->Rr LI5):Prop:=(∀x e,hb x≠.exc e)/\∀(H:Hp) (S:Ja->Prop) (x:PV) (v:V) (xs:LI5),Ta K H S x v->hb x=.ok xs->xs.length=k/\∃vs,Bd v H vs/\Reps K H S xs vs
theorem Ov{K:ZlR}:DB K Ku 1 (fun x=>.ok [x]):=⟨fun x e h=>(by cases h),fun H S x v xs r h=>by
 cases h;exact⟨rfl,[v],rfl,v,[],rfl,r,rfl⟩⟩
theorem Zex{K:ZlR}:DB K (ZC K) 2 (asT 2):=by
 refine⟨fun x e h=>?_,fun H S x v xs r h=>?_⟩
 ·unfold asT at h
  split at h
  ·split at h<;>cases h
  ·cases h
 ·unfold asT at h
  split at h
  ·rename_i ys
   split at h
   ·rename_i hl
    cases h;obtain⟨a,vs,rfl,hq,hr⟩:=r;refine⟨hl,vs, ?_,hr⟩
    match xs,vs,hl,hr,hq with
    |[p,q],vs,_,hr,hq =>
     obtain⟨u,w,rfl,_,_⟩:=SK hr;exact⟨a,u,w,rfl,hq.sqT,rfl⟩
   ·cases h
  ·cases h
section
variable {K:ZlR}{B:Ja->Prop}{EX:PX->Hp->Prop}{H0 H H':Hp}{σ:St}{Γ Γ' Γ1 Γ2:List Md}{ρ:LI5}{F:Nat->LI2}{R:LI2}{k:Nat}{x:PV}{v:V}{te:TE}{tt:TT}{f fe:LI5->Rr PV}{c:LI5->Rr Bool}{Bd:TB}{hb:PV->Rr LI5}
theorem AH:DT K EX Γ Γ Z5 (fun _=>.ok true):=fun B H0 H σ ρ F R Q A d=>d H F (La.refl H) (fun _ _ h=>h) A
theorem Ag.pushN:∀{xs:LI5}{vs:List V}{σ:St}{Γ:List Md}{ρ:LI5},Reps K H (NO B F R) xs vs->Ag K B H0 H σ Γ ρ F R->Ag K B H0 H (σ++vs.map some) (Γ++List.replicate xs.length .S) (ρ++xs) F R
 |[],vs,σ,Γ,ρ,h,A=>by
  have h:vs=[]:=h;subst h;simpa using A
 |x::xs,vs,σ,Γ,ρ,h,A=>by
  obtain⟨v,r,rfl,h1,h2⟩:=h;have:=Ag.pushN (xs:=xs) (vs:=r) h2 (A.push h1);simpa[List.replicate_succ] using this
theorem Ag.popN(A:Ag K B H0 H (σ++τ) (Γ++List.replicate n .S) (ρ++xs) F R)(l1:σ.length=Γ.length)(l2:ρ.length=Γ.length): Ag K B H0 H σ Γ ρ F R:=by
 refine⟨A.same,A.own,A.young,A.youngR,A.live,A.liveR,A.disj,A.disjR,l1,l2,fun i=>?_⟩;have:=A.slot i;by_cases h1:i<Γ.length
 ·rw[Cb,Cb,Lh h1,Lh (by rw[l2];exact h1),Lh (by rw[l1];exact h1),<- Cb,<- Cb] at this
  exact this
 ·rw[Cb,Bi (by lia)]
  by_cases h2:i<Γ.length+n
  ·rw[Cb,Lg (by lia),R5,Da (by lia)] at this
   simp only[U6] at this;exact this.1
  ·exact A.outF (by simp;lia)
theorem Tt(hi:K6 K EX Γ Γ1 wi fi)(hB:DB K Bd k hb)(ht:DT K EX (Γ1++List.replicate k .S) (Γ1++List.replicate k .S) tt c)(he:DE K EX (Γ1++List.replicate k .S) (Γ1++List.replicate k .S) .F te fe):
  DE K EX Γ Γ1 .F (Lu wi Bd tt te) (fun ρ=>(fi ρ).bind fun xs=>(lenM xs).bind fun _=>(Rh (fun x=>(hb x).bind fun as=>(c (ρ++as)).bind fun b=>if b=true then (fe (ρ++as)).bind fun y=>.ok (some y) else .ok none) xs).bind fun ys=>.ok (.lst ys)):=fun B H0 H σ ρ F R Q A d=>by
 refine hi B H0 H σ ρ F R _ A (d.bind.imp (fun xs _ d J H1 F1 s1 f1 A1 it=>?_) fun e q=>q);obtain⟨Ge,d⟩:=Dn.lenM d.bind;generalize hgx:(fun x=>(hb x).bind fun as=>(c (ρ++as)).bind fun b=>if b=true then (fe (ρ++as)).bind fun y=>Rr.ok (some y) else .ok none)=gx at d;have l1:=A1.lenS;have l2:=A1.lenR;refine⟨fun i m ys H2=>∃zs G F2,m=xs.length-i/\i<=xs.length/\ys.length<=i/\La H1 H2/\Trees K H2 zs ys G/\(∀a∈G,a ∉ R/\(H1 a=none\/∃j,a∈F1 j))/\(∀i,∀a∈F2 i,a∈F1 i)/\Ag K B H0 H2 σ Γ1 ρ F2 (G++R) /\
  Dn ((Rh gx (xs.drop i)).bind fun ys'=>.ok (.lst (zs++ys'))) (fun x=>∀v H',La H H'->Lc K B H0 H σ Γ1 ρ F R .F x v H'->Q v H') (fun e=>∀H',La H0 H'->EX e H'),
  ⟨xs.length,[],[],F1,by simp,Ng _,Db _,La.refl _,⟨rfl,rfl⟩,by simp,fun _ _ h=>h,A1,by simpa using d⟩, ?_⟩
 rintro i m ys H2 ⟨zs,G,F2,rfl,hi',hl,s2,tr,o2,f2,A2,dn⟩;refine⟨Il (by lia), ?_⟩;have itp:=it H2 F2 s2 f2 i;cases hx:xs[i]? with
 |none =>
  refine .inl ⟨itp.2 hx,fun p hp=>?_⟩;have hd:xs.drop i=[]:=Ez (Ts.mp hx);rw[hd] at dn;have dn':∀v H',La H H'->Lc K B H0 H σ Γ1 ρ F R .F (.lst (zs++[])) v H'->Q v H':=dn;rw[Rs] at dn';exact dn' _ _ ((s1.trans s2).trans (La.new hp)) (Lc.newF (s1.trans s2) (fun i a h=>f1 i a (f2 i a h)) tr (fun a ha=>⟨(o2 a ha).1,(o2 a ha).2.elim (fun z=>.inl (s1.free z)) fun⟨j,z⟩=>.inr ⟨j,f1 j a z⟩⟩) A2 hp)
 |some x =>
  have hlt:i<xs.length:=(Cd.mp hx).1;obtain⟨go,yl⟩:=itp.1 x hx;have hdx:xs.drop i=x::xs.drop (i+1):=by
   rw[Tl hlt];rw[Yc hlt] at hx;cases hx;rfl
  rw[hdx] at dn;simp only[Rh,Rr.assoc] at dn;rw[<- hgx] at dn;simp only[Rr.assoc] at dn;rw[hgx] at dn;refine .inr ⟨go,fun ys' H'=>∃zs G F2,ys'.length<=i+1/\La H1 H'/\Trees K H' zs ys' G/\(∀a∈G,a ∉ R/\(H1 a=none\/∃j,a∈F1 j))/\(∀i,∀a∈F2 i,a∈F1 i)/\Ag K B H0 H' σ Γ1 ρ F2 (G++R) /\
   Dn ((Rh gx (xs.drop (i+1))).bind fun ys'=>.ok (.lst (zs++ys'))) (fun x=>∀v H',La H H'->Lc K B H0 H σ Γ1 ρ F R .F x v H'->Q v H') (fun e=>∀H',La H0 H'->EX e H'),
   fun ys' H' ⟨zs,G,F2,a1,a2,a3,a4,a5,a6,a7⟩=>⟨xs.length-(i+1),by lia,zs,G,F2,rfl,hlt,a1,a2,a3,a4,a5,a6,a7⟩,fun v H3 y=>?_⟩
  obtain⟨s3,rx⟩:=yl v H3 y;have rx':Ta K H3 (NO B F2 (G++R)) x v:=Ta.mono (fun a us s r=>⟨r,s.1.1,fun z=>by
   rcases Nc.mp z with z|z
   ·rcases (o2 a z).2 with q|⟨j,q⟩
    ·exact s.2.1 q
    ·exact s.2.2 j q
   ·exact s.1.2.1 z,s.1.2.2⟩) (fun a us r=>r) rx
  cases hbx:hb x with
  |exc e=>exact Eb hbx (hB.1 x e)
  |bad=>rw[hbx] at dn;exact dn.elim
  |ok as =>
   rw[hbx] at dn;simp only[Rr.bind_ok] at dn;obtain⟨hk,vs,bd,ra⟩:=hB.2 H3 _ x v as rx' hbx;refine⟨vs,bd, ?_⟩;have A3:=Ag.pushN ra (A2.grow s3);rw[hk] at A3;refine ht B H0 H3 _ _ F2 (G++R) _ A3 (dn.bind.imp (fun b _ dn H4 F4 s4 f4 A4=>?_) fun e q=>q);cases b with
   |false =>
    rw[Qa Bool.false_ne_true] at dn ⊢;simp only[Rr.bind_ok,Pz] at dn;refine⟨zs,G,F4,by lia,(s2.trans s3).trans s4,(tr.same s3).same s4,o2,fun i a h=>f2 i a (f4 i a h),A4.popN l1 l2, ?_⟩;simp only[Rr.assoc,Rr.bind_ok,Xs] at dn;exact dn
   |true =>
    rw[Da rfl] at dn ⊢;simp only[Rr.assoc] at dn;refine he B H0 H4 _ _ F4 (G++R) _ A4 (dn.bind.imp (fun z _ dn w H5 s5 r5=>?_) fun e q=>q);obtain⟨F5,f5,G5,t5,o5,A5⟩:=r5;refine⟨zs++[z],G++G5,F5,by simp;lia,((s2.trans s3).trans s4).trans s5,Trees.append (((tr.same s3).same s4).same s5) (Trees.one t5) (fun a ha z=>(o5 a z).1 (Zf _ ha)),fun a ha=>?_,fun i a h=>f2 i a (f4 i a (f5 i a h)),(A5.popN l1 l2).less fun a ha=>?_, ?_⟩
    ·rcases Nc.mp ha with z|z
     ·exact o2 a z
     ·refine⟨fun q=>(o5 a z).1 (Td _ q), ?_⟩
      rcases (o5 a z).2 with q|⟨j,q⟩
      ·exact .inl (((s2.trans s3).trans s4).free q)
      ·exact .inr ⟨j,f2 j a (f4 j a q)⟩
    ·simp only[Nc] at ha ⊢
     rcases ha with (z|z)|z
     ·exact .inr (.inl z)
     ·exact .inl z
     ·exact .inr (.inr z)
    ·simp only[Rr.assoc,Rr.bind_ok,Pz,Qf,DD] at dn ⊢
     exact dn
theorem Aw(he:DE K EX Γ Γ' .F (Lu wi Bd tt te) f)(hi:i<Γ'.length): DS K EX Γ ⟨Γ'.set i .O,Γ1,Γ2,kd⟩ (VM i wi Bd tt te) (fun ρ=>(f ρ).thenS fun x=>.next (ρ.set i x)):=FS he hi
end
theorem Ir: ∀(x:V) (H:Hp) (vs:List V),Ku x H vs->vs.length=[n].length:=fun _ _ _ h=>Ef List.length h
theorem hv2{K:ZlR}{n m:Str}:∀(x:V) (H:Hp) (vs:List V),ZC K x H vs->vs.length=[n,m].length:=fun _ _ _ ⟨_,_,_,_,_,h⟩=>Ef List.length h
theorem Zjv{X:Cx}{K:ZlR}{scope:Scope}{x y:Str}{px py tp:Pos}{k:Nat}(hNd:X.N.Nodup)(hc:X.calm=true)(hchk:Bp X.N X.env.scope scope [x,y]=true:=by rfl)(e:X.K=K:=by rfl):PB X scope [x,y] (.Tuple [.Name x px,.Name y py] k tp) (ZC K):=by subst e;exact Zju hNd hc hchk
theorem OM:∀{bs:List Bool}{us:LI3},Ab (bs.map V.bl) us->us=bs.map Value.bool
 |[],_,.nil=>rfl
 |b::bs,_,.cons r t=>by
  cases r;rw[OM t];rfl
noncomputable def Dw(b:Bool):Va->Bool
 |.bool a=>a==b
 |_=>false
theorem QR(b:Bool):∀bs:List Bool,(bs.map Value.bool).countP (Dw b)=bs.count b
 |[]=>rfl
 |a::bs=>by
  rw[Ed,List.countP_cons,QR b bs,List.count_cons];rfl
section
variable {X:Cx}{K:ZlR}
def EY(K:ZlR):V->List V->Hp->VK->Prop:=fun x xs H Q=>∃p,∃bs:List Bool,∃b,x=.ref p/\xs=[.bl b]/\Yb K H p (bs.map V.bl)/\Q (.int (bs.count b:Nat)) H
def FY(K:ZlR):V->List V->Hp->VK->Prop:=fun x xs H Q=>∃p,∃bs:List Bool,∃b,x=.ref p/\xs=[.bl b]/\Yb K H p (bs.map V.bl)/\bs.length<=1000000/\bs.idxOf b<bs.length/\Q (.int (bs.idxOf b:Nat)) H
theorem Zil(e:X.K=K:=by rfl):O6 X "list.count" (EY K):=by
 subst e;intro Za s σ H x xs v us Q I rx rv h;obtain⟨p,bs,b,rfl,rfl,hq,q⟩:=h;cases rx;obtain⟨u,rfl,ru⟩:=rv.one;cases ru;obtain⟨its,r',pl,hz⟩:=I.list hq;obtain rfl:=OM r';obtain⟨⟨c,dct,dt,sl⟩,hl,hc,n,hd⟩:=pl.isList;replace hc:c=.type "list":=hc;replace hd:dt=.seq (bs.map Value.bool).toArray n:=hd;subst hc hd;refine call_meets F.slot_list_count ⟨_,hl,rfl⟩ F.entry_list_count (F.args_list_count_2 _ _) (PySem.SeqAt.list_countAt p (bs.map Value.bool).toArray n dct sl (.bool b) (Dw b)) ⟨hl,fun y hy=>?_, ?_⟩
 ·have:y∈bs.map Value.bool:=by simpa using hy
  obtain⟨a,_,rfl⟩:=Nd.mp this;exact PySem.SeqAt.EqAt.bool_bool a b
 ·have e:(bs.map Value.bool).toArray.toList.countP (Dw b)=bs.count b:=QR b bs
  rw[e];exact⟨.int (bs.count b:Nat),H,I.tok _,⟨_,rfl⟩,q⟩
theorem Zim(e:X.K=K:=by rfl):O6 X "list.index" (FY K):=by
 subst e;intro Za s σ H x xs v us Q I rx rv h;obtain⟨p,bs,b,rfl,rfl,hq,hl6,hlt,q⟩:=h;cases rx;obtain⟨u,rfl,ru⟩:=rv.one;cases ru;obtain⟨its,r',pl,hz⟩:=I.list hq;obtain rfl:=OM r';obtain⟨⟨c,dct,dt,sl⟩,hl,hc,n,hd⟩:=pl.isList;replace hc:c=.type "list":=hc;replace hd:dt=.seq (bs.map Value.bool).toArray n:=hd;subst hc hd;have hs:(bs.map Value.bool).toArray.size=bs.length:=by simp
 have hj:bs.idxOf b<(bs.map Value.bool).toArray.size:=by rw[hs];exact hlt
 refine call_meets F.slot_list_index ⟨_,hl,rfl⟩ F.entry_list_index (F.args_list_index_2 _ _) (PySem.SeqAt.list_indexAt p (bs.map Value.bool).toArray n dct sl (.bool b) (Dw b) (bs.idxOf b) hj (by lia) ?_ fun m hm hmj=>?_) ⟨hl,fun y hy=>?_, ?_⟩
 ·simp only[List.getElem_toArray,JD,Dw]
  rw[List.getElem_idxOf];exact beq_self_eq_true b
 ·simp only[List.getElem_toArray,JD,Dw]
  have:=List.not_of_lt_findIdx (p:=(·==b)) (xs:=bs) (i:=m) hmj;simpa using this
 ·have:y∈bs.map Value.bool:=by simpa using hy
  obtain⟨a,_,rfl⟩:=Nd.mp this;exact PySem.SeqAt.EqAt.bool_bool a b
 ·exact⟨.int (bs.idxOf b:Nat),H,I.tok _,⟨_,rfl⟩,q⟩
end
noncomputable def GJ(ys as:LI5):Rr PV:=match as with
 |[.bl b]=>match Qp ys with
  |some bs=>.ok (.int (bs.count b:Nat))
  |none=>.bad
 |_=>.bad
noncomputable def Ux(ys as:LI5):Rr PV:=match as with
 |[.bl b]=>match Qp ys with
  |some bs=>if bs.length<=1000000/\bs.idxOf b<bs.length then .ok (.int (bs.idxOf b:Nat)) else .bad
  |none=>.bad
 |_=>.bad
section
variable {K:ZlR}{EX:PX->Hp->Prop}{Γ Γ1 Γ2:List Md}{te:TE}{ta:TA}{f:LI5->Rr PV}{fa:LI5->Rr LI5}
theorem Ze3(he:DE K EX Γ Γ1 .A te f)(ha:Ce K EX Γ1 Γ2 ta fa):DE K EX Γ Γ2 .P (W4 K "list" (EY K) te ta) (fun ρ=>(f ρ).bind fun x=>(asL x).bind fun ys=>(fa ρ).bind fun as=>GJ ys as):=fun B H0 H σ ρ F R Q A d=>by
 refine he B H0 H σ ρ F R _ A (d.bind.imp (fun x _ d v H1 s1 r1=>?_) fun e q=>q);obtain⟨F1,f1,p1,A1⟩:=r1;obtain⟨ys,rfl,d2⟩:=Dn.asL d.bind;obtain⟨a,vs,rfl,hn,hr⟩:=id p1;refine⟨.inl ⟨rfl,vs,Nf (S:=fun _=>True) hn⟩,ha B H0 H1 σ ρ F1 R _ A1 (d2.bind.imp (fun as _ d us H2 F2 s2 f2 p2 A2=>?_) fun e q=>q)⟩;unfold GJ at d
 split at d
 ·rename_i b _
  split at d
  ·rename_i bs hb
   obtain⟨u,rfl,hu⟩:=Xi p2;have hu:u=.bl b:=hu;subst hu;obtain⟨a',vs',e,hn',hr'⟩:=p1.same s2;cases e;rw[U7 hb] at hr';have:=R9 hr';subst this;exact⟨a,bs,b,rfl,rfl,Nf (S:=fun _=>True) hn',d _ H2 (s1.trans s2) ⟨F2,fun i z h=>f1 i z (f2 i z h),rfl,rfl,A2⟩⟩
  ·exact d.elim
 ·exact d.elim
theorem Ze8(he:DE K EX Γ Γ1 .A te f)(ha:Ce K EX Γ1 Γ2 ta fa):DE K EX Γ Γ2 .P (W4 K "list" (FY K) te ta) (fun ρ=>(f ρ).bind fun x=>(asL x).bind fun ys=>(fa ρ).bind fun as=>Ux ys as):=fun B H0 H σ ρ F R Q A d=>by
 refine he B H0 H σ ρ F R _ A (d.bind.imp (fun x _ d v H1 s1 r1=>?_) fun e q=>q);obtain⟨F1,f1,p1,A1⟩:=r1;obtain⟨ys,rfl,d2⟩:=Dn.asL d.bind;obtain⟨a,vs,rfl,hn,hr⟩:=id p1;refine⟨.inl ⟨rfl,vs,Nf (S:=fun _=>True) hn⟩,ha B H0 H1 σ ρ F1 R _ A1 (d2.bind.imp (fun as _ d us H2 F2 s2 f2 p2 A2=>?_) fun e q=>q)⟩;unfold Ux at d
 split at d
 ·rename_i b _
  split at d
  ·rename_i bs hb
   split at d
   ·rename_i hc
    obtain⟨u,rfl,hu⟩:=Xi p2;have hu:u=.bl b:=hu;subst hu;obtain⟨a',vs',e,hn',hr'⟩:=p1.same s2;cases e;rw[U7 hb] at hr';have:=R9 hr';subst this;exact⟨a,bs,b,rfl,rfl,Nf (S:=fun _=>True) hn',hc.1,hc.2,d _ H2 (s1.trans s2) ⟨F2,fun i z h=>f1 i z (f2 i z h),rfl,rfl,A2⟩⟩
   ·exact d.elim
  ·exact d.elim
 ·exact d.elim
end
theorem ZiH: GJ [.bl a,.bl b,.bl c,.bl e] [.bl x]=.ok (.int (([a,b,c,e].count x:Nat))):=rfl
theorem FJ(h:xs.length<1000000): pApp (.lst xs) y=.ok (.lst (xs++[y])):=Da h
theorem ZiD:Qx (.int 10) (.int 62)=.ok (.int (10^62)):=by rw[Ax (by decide)];rfl
theorem ZiA:Qx (.int 10) (.int 59)=.ok (.int (10^59)):=by rw[Ax (by decide)];rfl
theorem ZiC:Qx (.int 10) (.int 61)=.ok (.int (10^61)):=by rw[Ax (by decide)];rfl
theorem Zjg{i j:Int}:U9 [.int i,.int j]=.ok (.int (if j>i then j else i)):=rfl
theorem Zcd: asT 2 (.tup [a,b])=.ok [a,b]:=rfl
noncomputable def ZO:Nat:=4000000
def JO(i j:Int):Prop:=i.natAbs<2^ZO/\j.natAbs<2^ZO
noncomputable instance (i j:Int):Decidable (JO i j):=by unfold JO;infer_instance
end L2
namespace Att
open PySem PySem.W PySem.Calls PyProof.Rows
end Att
namespace L2
open PySem PySem.Spec PyProof.Rows
section
end
noncomputable def okE(x:PV):Bool:=x.noX&&x.dat.canLay0&&decide (x.dat.depth<=60)
noncomputable def HK(K:ZlR)(g:Bool->Bool):R2:=fun x y H Q=>∃p qs a vs,Ta K H (fun _=>True) p x/\y=.ref a/\(Yb K H a vs\/Af K H a vs)/\Reps K H (fun _=>True) qs vs/\okE p=true/\(qs.all okE)=true/\Q (.bl (g (qs.any fun q=>PyData.eqv q.dat p.dat))) H
open Classical in
noncomputable def Ew(h:Heap)(dx:PyData)(y:Va):Bool:=if hy:∃d as,Reads h y d as/\d.canLay0=true/\d.depth<=60 then PyData.eqv hy.choose dx else false
section
variable {X:Cx}{K:ZlR}
theorem LS(I:Ca X Za σ H s)(dx:PyData): ∀{qs:LI5}{vs:List V}{us:LI3},Reps X.K H S qs vs->Ab vs us->(qs.all okE)=true ->
  (us.any (Ew s.heap dx)=qs.any fun q=>PyData.eqv q.dat dx)/\∀y∈us,∃d as,Reads s.heap y d as/\d.canLay0=true/\d.depth<=60
 |[],_,us,h,r,_=>by
  rw[h] at r;cases r;exact⟨rfl,by simp⟩
 |q::qs,_,us,h,r,hk=>by
  obtain⟨v,vs,rfl,h1,h2⟩:=h;simp only[List.all_cons,Bool.and_eq_true] at hk;cases r with
  |cons r1 r2 =>
   rename_i u us;obtain⟨e1,e2⟩:=LS I dx h2 r2 hk.2;have h3:=hk.1;simp only[okE,Bool.and_eq_true,decide_eq_true_eq] at h3;obtain⟨as,ra⟩:=h1.reads I h3.1.1 r1;have hx:∃d as,Reads s.heap u d as/\d.canLay0=true/\d.depth<=60:=⟨_,_,ra,h3.1.2,h3.2⟩
   refine⟨?_,fun y hy=>?_⟩
   ·have:Ew s.heap dx u=PyData.eqv q.dat dx:=by
     unfold Ew;rw[Xl hx];obtain⟨as',ra',c1,c2⟩:=hx.choose_spec;rw[SeqAt.Reads.unique _ _ _ _ _ c1 ra' ra]
    rw[Ou,Ou,e1,this]
   ·rcases Vd.mp hy with rfl|hy
    ·exact hx
    ·exact e2 y hy
theorem Zg5(I:Ca X Za σ H s)(hu:X.A.units+64<cLine)(rx:Ob x v)(ry:Ob y u)(h:HK X.K g x y H Q):
  ∃a items,u=.ref a/\(s.heap.IsList a items\/s.heap.IsTuple a items)/\∃e:Va->Bool,(∀y,y∈items->SeqAt.EqAt X.A.in1 s y v (e y))/\Q (.bl (g (items.any e))) H:=by
 obtain⟨p,qs,a,vs,h1,rfl,hq,hr,h3,h4,q⟩:=h;cases ry;simp only[okE,Bool.and_eq_true,decide_eq_true_eq] at h3;obtain⟨as,ra⟩:=h1.reads I h3.1.1 rx;have fin:∀its:LI3,Ab vs its->(∀y,y∈its.toArray->SeqAt.EqAt X.A.in1 s y v (Ew s.heap p.dat y))/\Q (.bl (g (its.toArray.any (Ew s.heap p.dat)))) H:=fun its rv=>by
  obtain⟨e1,e2⟩:=LS I p.dat hr rv h4;refine⟨fun y hy=>?_, ?_⟩
  ·have hx:=e2 y (by simpa using hy)
   unfold Ew;rw[Xl hx];obtain⟨as',ra',c1,c2⟩:=hx.choose_spec;refine SeqAt.eqAt_reads _ _ _ _ _ _ _ _ ra' ra c1 h3.1.2 ?_;have:=ID hx.choose.depth p.dat.depth;have hin:X.A.in1.units<=X.A.units+1:=by simp[Around.in1]
   lia
  ·rw[List.any_toArray,e1];exact q
 rcases hq with hq|hq
 ·obtain⟨its,rv,pl,hz⟩:=I.list hq
  obtain⟨f1,f2⟩:=fin its rv;exact⟨a,its.toArray,rfl,.inl pl.isList,_,f1,f2⟩
 ·obtain⟨its,rv,pl,hz⟩:=I.tuple hq
  obtain⟨f1,f2⟩:=fin its rv;exact⟨a,its.toArray,rfl,.inr pl,_,f1,f2⟩
theorem SW(hu:X.A.units+64<cLine)(e:X.K=K:=by rfl):Xf X (Hj .NotIn) (HK K (!·)):=by
 subst e;intro Za s σ H x y v u Q I rx ry h;obtain⟨a,items,rfl,hl,e,he,q⟩:=Zg5 I hu rx ry h;rcases hl with hl|hl
 ·exact SeqAt.notIn_listAt e hl he ⟨.bl _,H,I,rfl,q⟩
 ·exact SeqAt.notIn_tupleAt e hl he ⟨.bl _,H,I,rfl,q⟩
end
noncomputable def Vx(g:Bool->Bool)(x y:PV):Rr PV:=match y with
 |.lst ys=>if (okE x&&ys.all okE)=true then .ok (.bl (g (ys.any fun q=>PyData.eqv q.dat x.dat))) else .bad
 |.tup ys=>if (okE x&&ys.all okE)=true then .ok (.bl (g (ys.any fun q=>PyData.eqv q.dat x.dat))) else .bad
 |_=>.bad
section
variable {K:ZlR}{EX:PX->Hp->Prop}{Γ Γ1 Γ2:List Md}{tb tc:TE}{fb fc:LI5->Rr PV}
theorem JS(ha:DE K EX Γ Γ1 .A tb fb)(hb:DE K EX Γ1 Γ2 .A tc fc): DE K EX Γ Γ2 .P (Pf (HK K g) tb tc) (fun ρ=>(fb ρ).bind fun x=>(fc ρ).bind fun y=>Vx g x y):=by
 refine K7 (fun {H x y v w Q} rx ry ⟨z,e,q⟩=>?_) (fun x y z h=>?_) (fun x y e h=>?_) ha hb
 ·unfold Vx at e
  split at e
  ·split at e
   ·rename_i ys hk
    cases e;rw[Bool.and_eq_true] at hk;obtain⟨a,vs,rfl,hn,hr⟩:=ry;exact⟨x,_,a,vs,rx,rfl,.inl (Nf (S:=fun _=>True) hn),hr,hk.1,hk.2,q rfl _ rfl⟩
   ·cases e
  ·split at e
   ·rename_i ys hk
    cases e;rw[Bool.and_eq_true] at hk;obtain⟨a,vs,rfl,hn,hr⟩:=ry;exact⟨x,_,a,vs,rx,rfl,.inr hn.sqT,hr,hk.1,hk.2,q rfl _ rfl⟩
   ·cases e
  ·cases e
 ·unfold Vx at h
  split at h
  ·split at h<;>cases h;rfl
  ·split at h<;>cases h;rfl
  ·cases h
 ·unfold Vx at h
  split at h
  ·split at h<;>cases h
  ·split at h<;>cases h
  ·cases h
end
theorem Zfp{ns:LI0}{f:PV->Rr (Option PV)}{g:Nat->PV}(h:∀i,i<ns.length->f (.tup [.int i,.int (ns.getD i 0)])=.ok (some (g i))):Rh f (Zo (ns.map PV.int))=.ok ((List.range ns.length).map g):=by
 have e:Zo (ns.map PV.int)=(List.range ns.length).map fun i=>PV.tup [.int (i:Nat),.int (ns.getD i 0)]:=by
  apply Vn;intro i;unfold Zo;rw[UN,Dd,Dd];by_cases hi:i<ns.length
  ·rw[Yc hi,Rq hi]
   simp[Cb,Yc hi]
  ·rw[Bi (by lia),Bi (by simpa using hi)];rfl
 rw[e];have:∀l:List Nat,(∀i∈l,i<ns.length)->Rh f (l.map fun i=>PV.tup [.int (i:Nat),.int (ns.getD i 0)])=.ok (l.map g):=by
  intro l
  induction l with
  |nil=>intro _;rfl
  |cons a l ih =>
   intro hl;simp only[Ed,Rh,h a (hl a (by simp)),Rr.bind_ok,ih fun i hi=>hl i (by simp[hi]),Pz,DD]
 exact this _ fun i hi=>Dh.mp hi
section
end
theorem ZjN{X:Cx}{K:ZlR}{tg l:Expr}{tl:TE}(hl:PE X l tl)(e:X.K=K:=by rfl):PI X tg l (ZI K tl):=by subst e;exact ZjM hl
noncomputable def GF(x:PV):Rr LI5:=match x with
 |.tup xs=>.ok xs
 |_=>.bad
section
variable {K:ZlR}{H:Hp}{EX:PX->Hp->Prop}{Γ Γ':List Md}{te:TE}{f:LI5->Rr PV}
theorem ZgG(h:Ta K H S (.tup xs) (.ref a)): Hn K S (ME K a) xs H:=by
 obtain⟨a',vs,e,hn,hr⟩:=h;cases e;intro i;constructor
 ·intro x hx
  obtain⟨u,e1,e2⟩:=hr.get hx;refine⟨⟨vs,u,hn.sqT,e1⟩,fun v H' ⟨e,y⟩=>?_⟩;subst e;have:=y vs hn.sqT;rw[e1] at this;cases this;exact⟨La.refl _,e2⟩
 ·intro hx
  exact⟨vs,hn.sqT,by rw[hr.length];exact Ts.mp hx⟩
theorem ZeT(he:DE K EX Γ Γ' .Z te f):DI K EX Γ Γ' (ZI K te) (fun ρ=>(f ρ).bind GF):=fun B H0 H σ ρ F R Q A d=>by
 refine he B H0 H σ ρ F R _ A (d.bind.imp (fun x _ d v H1 s1 r1=>?_) fun e q=>q);obtain⟨F1,f1,p1,A1⟩:=r1;cases x with
 |tup xs =>
  obtain⟨a,vs,rfl,hn,hr⟩:=id p1;exact⟨a,rfl,⟨vs,hn.sqT⟩,d _ H1 F1 s1 f1 A1 fun H2 F2 h=>ZgG (p1.frm h A1)⟩
 |_=>exact d.elim
end
theorem Zce: GF (.tup xs)=.ok xs:=rfl
section
end
noncomputable def S8(p q:Int->Int->Bool)(x y:PV)(r:Rr PV):Rr PV:=match x,y with
 |.int i,.int j=>if p i j=true then r.bind fun z=>oI (fun _ _=>true) (fun i j=>.bl (q i j)) (.int j) z else .ok (.bl false)
 |_,_=>.bad
theorem ZiG{i j k: Int}: S8 p q (.int i) (.int j) (.ok (.int k))=.ok (.bl (p i j&&q j k)):=by
 simp only[S8,Rr.bind_ok,oI,if_true];cases p i j<;>simp
section
variable {K:ZlR}{B:Ja->Prop}{EX:PX->Hp->Prop}{H0 H H':Hp}{σ:St}{Γ Γ1 Γ2:List Md}{ρ:LI5}{F F':Nat->LI2}{R:LI2}{k:Nat}{x:PV}{v:V}{ta tb tc:TE}{fa fb fc:LI5->Rr PV}{hb:PV->Rr LI5}
theorem ZS(ha:DE K EX Γ Γ1 .A ta fa)(hb:DE K EX Γ1 Γ2 .A tb fb)(hc:DE K EX Γ2 Γ2 .A tc fc):
  DE K EX Γ Γ2 .P (Zan (Ih fun i j=>.bl (p i j)) (Ih fun i j=>.bl (q i j)) ta tb tc) (fun ρ=>(fa ρ).bind fun x=>(fb ρ).bind fun y=>S8 p q x y (fc ρ)):=fun B H0 H σ ρ F R Q A d=>by
 refine Nu (Q:=fun v w H2=>(Ih fun i j=>.bl (p i j)) v w H2 fun z H3=>∃k,z=.bl k/\(if k=true then tc σ H3 fun w' H4=>(Ih fun i j=>.bl (q i j)) w w' H4 Q else Q (.bl false) H3)) ha hb A d.bind2 fun x y v w H' F' d s hF p1 p2 A'=>?_;cases x<;>cases y<;>first|exact d.elim|skip
 rename_i i j;cases p1;cases p2;refine⟨i,j,rfl,rfl,_,rfl, ?_⟩;simp only[S8] at d;by_cases h:p i j=true
 ·rw[Da h] at d ⊢
  refine hc B H0 H' σ ρ F' R _ A' (d.bind.imp (fun z _ d u H3 s3 r3=>?_) fun e q=>q);obtain⟨F3,f3,p3,A3⟩:=r3;cases z<;>first|exact d.elim|skip
  cases p3;exact⟨j,_,rfl,rfl,d _ H3 (s.trans s3) ⟨F3,fun i a h=>hF i a (f3 i a h),rfl,rfl,A3⟩⟩
 ·rw[Qa h] at d ⊢
  exact d _ H' s ⟨F',hF,rfl,rfl,A'⟩
end
theorem Zjd: Vq [.lst xs]=.ok (.int xs.length):=by simp[Vq]
theorem ZiV{k: Int}(h0:0<=k)(h1:k<xs.length): pIx (.lst xs) (.int k)=.ok (xs.getD k.toNat .non):=by
 simp only[pIx,Dg,X7 h0 h1,LD];rw[Cb,Yc (by lia)];rfl
section
end
structure Vl(n:Nat)(x:PV):Prop where
 nx:x.noX=true
 can:x.dat.canLay0=true
 dep:x.dat.depth<=n
theorem Vl.ok(h:Vl n x)(hn:n<=64:=by decide): Aj x=true:=by
 unfold Aj;rw[h.nx,h.can,Hb (Se h.dep hn)];rfl
theorem SG(i:Int):Vl 0 (.int i):=⟨rfl,by simp[PV.dat,PyData.canLay0],by simp[PV.dat,PyData.depth]⟩
theorem PR: ∀{xs:LI5},(∀x∈xs,Vl n x)->PV.noXs xs=true/\PyData.canLayAll0 (PV.dats xs)=true/\PyData.depthAll (PV.dats xs)<=n
 |[],_=>⟨rfl,rfl,Ng _⟩
 |x::xs,h=>by
  obtain⟨h1,h2,h3⟩:=PR (xs:=xs) fun y hy=>h y (by simp[hy]);have hx:=h x (by simp);refine⟨by simp[PV.noXs,hx.nx,h1],by simp[PV.dats,PyData.canLayAll0,hx.can,h2], ?_⟩;simp only[PV.dats,PyData.depthAll];exact Nat.max_le.mpr ⟨hx.dep,h3⟩
theorem NR(h:∀x∈xs,Vl n x): Vl (n+1) (.lst xs):=by
 obtain⟨h1,h2,h3⟩:=PR h;exact⟨by simp[PV.noX,h1],by simp[PV.dat,PyData.canLay0,h2],by simp only[PV.dat,PyData.depth];lia⟩
theorem Zew(ns:LI0):Vl 1 (.lst (ns.map PV.int)):=NR fun x hx=>by
 obtain⟨i,_,rfl⟩:=Nd.mp hx;exact SG i
theorem OR(h:PyData.canLay0 (.str a)=true): Vl 0 (.str a):=⟨rfl,h,by simp[PV.dat,PyData.depth]⟩
theorem DH{f:PV->Rr (Option PV)}{p:Nat->Bool}{g:Nat->PV}{lo:Int}{n:Nat}(h:∀i,i<n->f (.int (lo+(i:Nat)))=.ok (if p i=true then some (g i) else none)):Rh f (Cj lo n)=.ok (((List.range n).filter p).map g):=by
 have key:∀(l:List Nat),(∀i∈l,i<n)->Rh f (l.map fun(i:Nat)=>PV.int (lo+i))=.ok ((l.filter p).map g):=by
  intro l
  induction l with
  |nil=>intro _;rfl
  |cons a l ih =>
   intro hl;simp only[Ed,Rh,h a (hl a (by simp)),Rr.bind_ok,ih fun i hi=>hl i (by simp[hi])];cases hp:p a<;>simp[hp,List.filter_cons]
 exact key _ fun i hi=>Dh.mp hi
theorem ZhW{f:PV->Rr PV}{g:Nat->PV}{lo:Int}{n:Nat}(h:∀i,i<n->f (.int (lo+(i:Nat)))=.ok (g i)):Xh f (Cj lo n)=.ok ((List.range n).map g):=by
 have key:∀(l:List Nat),(∀i∈l,i<n)->Xh f (l.map fun(i:Nat)=>PV.int (lo+i))=.ok (l.map g):=by
  intro l
  induction l with
  |nil=>intro _;rfl
  |cons a l ih =>
   intro hl;simp only[Ed,Xh,h a (hl a (by simp)),Rr.bind_ok,ih fun i hi=>hl i (by simp[hi])]
 exact key _ fun i hi=>Dh.mp hi
theorem ZiX{L: List α}{k: Int}(h0:0<=k)(h1:k<L.length): pIx (.lst (L.map q)) (.int k)=.ok (q (L.getD k.toNat d)):=by
 rw[ZiV h0 (by simpa using h1),Cb,Cb,Dd,Yc (by lia)];rfl
section
end
theorem us1(h:us.length=1): ∃a,us=[a]:=match us,h with | [a],_=>⟨a,rfl⟩
theorem us2(h:us.length=2): ∃a b,us=[a,b]:=match us,h with | [a,b],_=>⟨a,b,rfl⟩
theorem us3(h:us.length=3): ∃a b c,us=[a,b,c]:=match us,h with | [a,b,c],_=>⟨a,b,c,rfl⟩
theorem us4(h:us.length=4): ∃a b c d,us=[a,b,c,d]:=match us,h with | [a,b,c,d],_=>⟨a,b,c,d,rfl⟩
section
variable {K:ZlR}{H:Hp}{S:Ja->Prop}
theorem Reps.rev:∀{xs:LI5}{vs:List V},Reps K H S xs vs->Reps K H S xs.reverse vs.reverse
 |[],_,h=>by rw[h];exact rfl
 |x::xs,_,h=>by
  obtain⟨v,r,rfl,h1,h2⟩:=h;rw[Y5,Y5];exact Reps.append (Reps.rev h2) (Reps.one h1)
end
theorem Vl.okE(h:Vl n x)(hn:n<=60:=by decide): okE x=true:=by
 unfold L2.okE;rw[h.nx,h.can,Hb (Se h.dep hn)];rfl
theorem KJ{i: Int}{ns: LI0}: Vx g (.int i) (.lst (ns.map PV.int))=.ok (.bl (g (decide (i∈ns)))):=by
 have hall:∀ns:LI0,(okE (.int i)&&(ns.map PV.int).all okE)=true:=fun ns=>by
  rw[(SG i).okE,Bool.true_and,Ah];intro x hx;obtain⟨q,_,rfl⟩:=Nd.mp hx;exact(SG q).okE
 simp only[Vx];rw[Da (hall ns)];congr 3
 induction ns with
 |nil=>simp
 |cons q M ih =>
  rw[Ed,Ou,ih];simp only[PV.dat,PyData.eqv];by_cases c:q=i
  ·simp[c]
  ·have:¬i=q:=fun z=>c z.symm
   simp[c,this]
section
end
noncomputable abbrev Ue:=Ja×LI0
section
end
noncomputable def Kl(t:LI0):PV:=.lst (t.map PV.int)
section
end
end L2
namespace L2
open PySem PyProof.Rows
structure Pc(prog:Bc)(w:Jc)(A:Pd)(s:Ga)(κ:Pi)(U:Aa->Prop)(R:Aa->Aa->Bool)(Ok:Aa->Aa->Prop):Prop where
 ask:∀x y,U x->U y->Ok x y->∀(Q:Bool->Ga->Prop),Q (R x y) s->Ra (Na prog w) A (keyLt' κ x.1 y.1) Q (fun _ _=>False) s
 asy:∀x y,U x->U y->R x y=true->R y x=false
 tr:∀x y z,U x->U y->U z->R y x=false->R z y=false->R z x=false
section
variable {prog:Bc}{w:Jc}{A:Pd}{E:Va->Ga->Prop}{s:Ga}{κ:Pi}{U:Aa->Prop}{R:Aa->Aa->Bool}{Ok:Aa->Aa->Prop}
theorem C5(C:Pc prog w A s κ U R Ok){st:Sa}{x y:Aa}{Q:Option Bool->Sa->Prop}(hk:Ic st=κ)(ux:U x)(uy:U y)(ok:Ok x y)(h:Q (some (R x y)) st):wpS (Na prog w) A E s (lt' x y) Q st:=by
 rw[lt'_eq];refine Vb (Yl ?_);rw[hk];refine Vb (wpS_lift (Z0 (Vf (C.ask x y ux uy ok (fun b s'=>s'=s/\b=R x y) ⟨rfl,rfl⟩) (fun b s' q=>?_) fun _ _ q=>q.elim)));obtain⟨rfl,rfl⟩:=q;exact⟨rfl,Bb h⟩
theorem Ig{st:Sa}{arr:LI4}{i:Nat}{x:Aa}{Q:Aa->Sa->Prop}(hx:arr[i]?=some x)(h:Q x st):wpS (Na prog w) A E s (Sg arr i) Q st:=by
 rw[elem'_eq,hx];exact Bb h
end
noncomputable def Er:Bool->Aa->LI4->Nat->Nat->Nat->StateT Sa Sem (Option Nat):=sortPriv% PySem.Builtin.gallop
noncomputable def Dx(left:Bool)(key:Aa)(arr:LI4)(base:Nat)(i:Nat):StateT Sa Sem (Option Bool):=do
 let x <- Sg arr (base+i)
 if left then lt' x key else return (<- lt' key x).map (!·)
theorem ZfV(left:Bool)(key:Aa)(arr:LI4)(base n hint:Nat):Er left key arr base n hint=(do
  let mut u:=0
  let mut v:=1
  let mut a:=0
  let mut b:=0
  let some r <- Dx left key arr base hint|return none
  if r then
   let w:=n-hint
   for _ in [0:n] do
    if v ≥ w then break
    let some m <- Dx left key arr base (hint+v)|return none
    if !m then break
    u:=v
    v:=2*v+1
   a:=hint+u+1
   b:=hint+min v w
  else
   let w:=hint+1
   for _ in [0:n] do
    if v ≥ w then break
    let some m <- Dx left key arr base (hint-v)|return none
    if m then break
    u:=v
    v:=2*v+1
   a:=hint+1-min v w
   b:=hint-u
  for _ in [0:n] do
   if a ≥ b then break
   let c:=a+(b-a)/2
   let some m <- Dx left key arr base c|return none
   if m then a:=c+1 else b:=c
  return some b):=rfl
section
variable {prog:Bc}{w:Jc}{A:Pd}{E:Va->Ga->Prop}{s:Ga}{κ:Pi}{U:Aa->Prop}{R:Aa->Aa->Bool}{Ok:Aa->Aa->Prop}
structure Yq(U:Aa->Prop)(R:Aa->Aa->Bool)(Ok:Aa->Aa->Prop)(left:Bool)(key:Aa)(arr:LI4)(base n:Nat)(P:Nat->Bool):Prop where
 uk:U key
 it:∀i,i<n->∃x,arr[base+i]?=some x/\U x/\(if left=true then Ok x key else Ok key x)/\P i=(if left=true then R x key else !R key x)
 mono:∀i j,i<=j->j<n->P j=true->P i=true
theorem D5(C:Pc prog w A s κ U R Ok){st:Sa}{left:Bool}{key:Aa}{arr:LI4}{base n i:Nat}{P:Nat->Bool}{Q:Option Bool->Sa->Prop}(hk:Ic st=κ)(K:Yq U R Ok left key arr base n P)(hi:i<n)(h:Q (some (P i)) st) :
  wpS (Na prog w) A E s (Dx left key arr base i) Q st:=by
 obtain⟨x,hx,ux,ok,hp⟩:=K.it i hi;unfold Dx;refine Vb (Ig hx ?_);cases left with
 |true =>
  rw[Da rfl] at hp ok ⊢;exact C5 C hk ux K.uk ok (by rw[<- hp];exact h)
 |false =>
  rw[Qa (by decide)] at hp ok ⊢;exact Vb (C5 C hk K.uk ux ok (Bb (by rw[Q6,<- hp];exact h)))
theorem Az(C:Pc prog w A s κ U R Ok){st:Sa}{left:Bool}{key:Aa}{arr:LI4}{base n hint:Nat}{P:Nat->Bool}{Q:Option Nat->Sa->Prop}(hk:Ic st=κ)(K:Yq U R Ok left key arr base n P)(hh:hint<n)(h:∀k,k<=n->(∀i,i<k->P i=true)->(∀i,k<=i->i<n->P i=false)->Q (some k) st):wpS (Na prog w) A E s (Er left key arr base n hint) Q st:=by
 rw[ZfV];refine Vb (D5 C hk K hh ?_);dsimp only;have down:∀{i j},i<=j->j<n->P i=false->P j=false:=fun {i j} h1 h2 h3=>by
  cases hj:P j with
  |false=>rfl
  |true=>rw[K.mono i j h1 h2 hj] at h3;cases h3
 cases hP:P hint with
 |true =>
  rw[Da rfl];refine Vb (Wj (Fi (I:=fun x (c:Option (Option Nat)×Nat×Nat) (Ba:Sa)=>Ba=st/\c.1=none/\P (hint+c.2.1)=true/\hint+c.2.1<n/\c.2.1<c.2.2/\x+1<=c.2.2)
   (Q:=fun(c:Option (Option Nat)×Nat×Nat) (Ba:Sa)=>Ba=st/\c.1=none/\P (hint+c.2.1)=true/\hint+c.2.1<n/\c.2.1<c.2.2/\(n-hint<=c.2.2\/(c.2.2<n-hint/\P (hint+c.2.2)=false))) ?_ ?_ ⟨rfl,rfl,by simpa using hP,by simpa using hh,Nat.zero_lt_one,Db _⟩) ?_)
  ·rintro x ⟨o,u,v⟩ Ba _ hx ⟨rfl,rfl,q1,q2,q3,q4⟩
   dsimp only at q1 q2 q3 q4 ⊢;by_cases hv:v ≥ n-hint
   ·rw[Da hv]
    exact Bb ⟨rfl,rfl,q1,q2,q3,.inl hv⟩
   ·rw[Qa hv]
    refine Vb (D5 C hk K (by lia) ?_);dsimp only;cases hm:P (hint+v) with
    |true =>
     rw[Qa (by decide)];exact Bb ⟨rfl,rfl,hm,by dsimp only;lia,by dsimp only;lia,by dsimp only;lia⟩
    |false =>
     rw[Da (by decide)];exact Bb ⟨rfl,rfl,q1,q2,q3,.inr ⟨by dsimp only;lia,hm⟩⟩
  ·rintro⟨o,u,v⟩ Ba ⟨rfl,rfl,q1,q2,q3,q4⟩
   dsimp only at q1 q2 q3 q4 ⊢;exact⟨rfl,rfl,q1,q2,q3,.inl (by lia)⟩
  rintro⟨o,u,v⟩ Ba ⟨hst,rfl,q1,q2,q3,q4⟩;have hst:=hst.symm;subst hst;dsimp only at q1 q2 q3 q4 ⊢;have ab:hint+u+1<=hint+min v (n-hint):=by lia
  have bn:hint+min v (n-hint)<=n:=by lia
  have pa:∀i,i<hint+u+1->P i=true:=fun i hi=>K.mono i (hint+u) (by lia) (by lia) q1;have pb:∀i,hint+min v (n-hint)<=i->i<n->P i=false:=fun i h1 h2=>by
   rcases q4 with q4|⟨q4,q5⟩
   ·lia
   ·exact down (by lia) h2 q5
  refine Vb (Wj (Fi (I:=fun x (c:Option (Option Nat)×Nat×Nat) (Ba:Sa)=>Ba=st/\c.1=none/\c.2.1<=c.2.2/\c.2.2<=n/\(∀i,i<c.2.1->P i=true)/\(∀i,c.2.2<=i->i<n->P i=false)/\c.2.2-c.2.1<=n-x)
   (Q:=fun(c:Option (Option Nat)×Nat×Nat) (Ba:Sa)=>Ba=st/\c.1=none/\c.2.1=c.2.2/\c.2.2<=n/\(∀i,i<c.2.1->P i=true)/\(∀i,c.2.2<=i->i<n->P i=false)) ?_ ?_ ⟨rfl,rfl,ab,bn,pa,pb,by dsimp only;lia⟩) ?_)
  ·rintro x ⟨o,a,b⟩ Ba _ hx ⟨rfl,rfl,q1,q2,q3,q4,q5⟩
   dsimp only at q1 q2 q3 q4 q5 ⊢;by_cases hab:a ≥ b
   ·rw[Da hab]
    exact Bb ⟨rfl,rfl,by dsimp only;lia,q2,q3,q4⟩
   ·rw[Qa hab]
    refine Vb (D5 C hk K (by lia) ?_);dsimp only;cases hm:P (a+(b-a)/2) with
    |true =>
     rw[Da rfl];exact Bb ⟨rfl,rfl,by dsimp only;lia,q2,fun i hi=>K.mono i (a+(b-a)/2) (by dsimp only at hi;lia) (by lia) hm,q4,by dsimp only;lia⟩
    |false =>
     rw[Qa (by decide)];refine Bb ⟨rfl,rfl,by dsimp only;lia,by dsimp only;lia,q3,fun i h1 h2=>?_,by dsimp only;lia⟩;cases hi:P i with
     |false=>rfl
     |true=>rw[K.mono _ i h1 h2 hi] at hm;cases hm
  ·rintro⟨o,a,b⟩ Ba ⟨rfl,rfl,q1,q2,q3,q4,q5⟩
   dsimp only at q1 q2 q3 q4 q5 ⊢;exact⟨rfl,rfl,by lia,q2,q3,q4⟩
  ·rintro⟨o,a,b⟩ Ba ⟨rfl,rfl,q1,q2,q3,q4⟩
   dsimp only at q1 q2 q3 q4 ⊢;exact Bb (h b q2 (by rw[<- q1];exact q3) q4)
 |false =>
  rw[Qa (by decide)];refine Vb (Wj (Fi (I:=fun x (c:Option (Option Nat)×Nat×Nat) (Ba:Sa)=>Ba=st/\c.1=none/\P (hint-c.2.1)=false/\c.2.1<=hint/\c.2.1<c.2.2/\x+1<=c.2.2)
   (Q:=fun(c:Option (Option Nat)×Nat×Nat) (Ba:Sa)=>Ba=st/\c.1=none/\P (hint-c.2.1)=false/\c.2.1<=hint/\c.2.1<c.2.2/\(hint+1<=c.2.2\/(c.2.2<=hint/\P (hint-c.2.2)=true))) ?_ ?_ ⟨rfl,rfl,by simpa using hP,Ng _,Nat.zero_lt_one,Db _⟩) ?_)
  ·rintro x ⟨o,u,v⟩ Ba _ hx ⟨rfl,rfl,q1,q2,q3,q4⟩
   dsimp only at q1 q2 q3 q4 ⊢;by_cases hv:v ≥ hint+1
   ·rw[Da hv]
    exact Bb ⟨rfl,rfl,q1,q2,q3,.inl hv⟩
   ·rw[Qa hv]
    refine Vb (D5 C hk K (by lia) ?_);dsimp only;cases hm:P (hint-v) with
    |true =>
     rw[Da rfl];exact Bb ⟨rfl,rfl,q1,q2,q3,.inr ⟨by dsimp only;lia,hm⟩⟩
    |false =>
     rw[Qa (by decide)];exact Bb ⟨rfl,rfl,hm,by dsimp only;lia,by dsimp only;lia,by dsimp only;lia⟩
  ·rintro⟨o,u,v⟩ Ba ⟨rfl,rfl,q1,q2,q3,q4⟩
   dsimp only at q1 q2 q3 q4 ⊢;exact⟨rfl,rfl,q1,q2,q3,.inl (by lia)⟩
  rintro⟨o,u,v⟩ Ba ⟨hst,rfl,q1,q2,q3,q4⟩;have hst:=hst.symm;subst hst;dsimp only at q1 q2 q3 q4 ⊢;have ab:hint+1-min v (hint+1)<=hint-u:=by lia
  have bn:hint-u<=n:=by lia
  have pa:∀i,i<hint+1-min v (hint+1)->P i=true:=fun i hi=>by
   rcases q4 with q4|⟨q4,q5⟩
   ·lia
   ·exact K.mono i (hint-v) (by lia) (by lia) q5
  have pb:∀i,hint-u<=i->i<n->P i=false:=fun i h1 h2=>down h1 h2 q1;refine Vb (Wj (Fi (I:=fun x (c:Option (Option Nat)×Nat×Nat) (Ba:Sa)=>Ba=st/\c.1=none/\c.2.1<=c.2.2/\c.2.2<=n/\(∀i,i<c.2.1->P i=true)/\(∀i,c.2.2<=i->i<n->P i=false)/\c.2.2-c.2.1<=n-x)
   (Q:=fun(c:Option (Option Nat)×Nat×Nat) (Ba:Sa)=>Ba=st/\c.1=none/\c.2.1=c.2.2/\c.2.2<=n/\(∀i,i<c.2.1->P i=true)/\(∀i,c.2.2<=i->i<n->P i=false)) ?_ ?_ ⟨rfl,rfl,ab,bn,pa,pb,by dsimp only;lia⟩) ?_)
  ·rintro x ⟨o,a,b⟩ Ba _ hx ⟨rfl,rfl,q1,q2,q3,q4,q5⟩
   dsimp only at q1 q2 q3 q4 q5 ⊢;by_cases hab:a ≥ b
   ·rw[Da hab]
    exact Bb ⟨rfl,rfl,by dsimp only;lia,q2,q3,q4⟩
   ·rw[Qa hab]
    refine Vb (D5 C hk K (by lia) ?_);dsimp only;cases hm:P (a+(b-a)/2) with
    |true =>
     rw[Da rfl];exact Bb ⟨rfl,rfl,by dsimp only;lia,q2,fun i hi=>K.mono i (a+(b-a)/2) (by dsimp only at hi;lia) (by lia) hm,q4,by dsimp only;lia⟩
    |false =>
     rw[Qa (by decide)];refine Bb ⟨rfl,rfl,by dsimp only;lia,by dsimp only;lia,q3,fun i h1 h2=>?_,by dsimp only;lia⟩;cases hi:P i with
     |false=>rfl
     |true=>rw[K.mono _ i h1 h2 hi] at hm;cases hm
  ·rintro⟨o,a,b⟩ Ba ⟨rfl,rfl,q1,q2,q3,q4,q5⟩
   dsimp only at q1 q2 q3 q4 q5 ⊢;exact⟨rfl,rfl,by lia,q2,q3,q4⟩
  ·rintro⟨o,a,b⟩ Ba ⟨rfl,rfl,q1,q2,q3,q4⟩
   dsimp only at q1 q2 q3 q4 ⊢;exact Bb (h b q2 (by rw[<- q1];exact q3) q4)
end
noncomputable def JJ:LI4->LI4->StateT Sa Sem LI4:=sortPriv% PySem.Builtin.mergeLo
noncomputable def N4(g:Nat):StateT Sa Sem Unit:=modify fun s=>SortSt.mk' (Ic s) (Oa s) (Qc s) g (Vj s)
noncomputable def endA(a b o:LI4)(i j:Nat):LI4:=o++a.extract i a.size++b.extract j b.size
noncomputable def endB(a b o:LI4)(i j:Nat):LI4:=o++b.extract j b.size++a.extract i a.size
def Sc(R:Aa->Aa->Bool)(l:List Aa):Prop:=l.Pairwise fun x y=>R y x=false
structure MI(R:Aa->Aa->Bool)(a b o:List Aa)(i j:Nat):Prop where
 perm:o.Perm (a.take i++b.take j)
 srt:Sc R o
 ga:∀x∈o,∀y∈a.drop i,R y x=false
 gb:∀x∈o,∀y∈b.drop j,R y x=false
 hi:i<=a.length
 hj:j<=b.length
section
variable {R:Aa->Aa->Bool}{a b o:List Aa}{i j:Nat}
theorem Uw(l:List Aa)(i k:Nat):(l.drop i).take k++l.drop (i+k)=l.drop i:=by
 rw[<- SC];exact Oi k (l.drop i)
theorem ZaC(l:List Aa)(i k:Nat):l.take i++(l.drop i).take k=l.take (i+k):=(List.take_add).symm
theorem Sc.drop(h:Sc R l)(i:Nat): Sc R (l.drop i):=h.sublist (List.drop_sublist i l)
theorem MI.pushA(M:MI R a b o i j)(sa:Sc R a)(k:Nat)(hk:i+k<=a.length)(hle:∀x∈(a.drop i).take k,∀y∈b.drop j,R y x=false):MI R a b (o++(a.drop i).take k) (i+k) j:=by
 have sd:=sa.drop i;rw[<- Uw a i k] at sd;obtain⟨s1,s2,s3⟩:=Eh.mp sd;refine⟨?_, ?_, ?_, ?_,hk,M.hj⟩
 ·rw[<- ZaC]
  refine(M.perm.append_right _).trans ?_;rw[Qf,Qf];exact List.Perm.append_left _ Nz
 ·exact Eh.mpr ⟨M.srt,s1,fun x hx y hy=>M.ga x hx y (Cn hy)⟩
 ·intro x hx y hy
  rcases Nc.mp hx with hx|hx
  ·exact M.ga x hx y (by rw[<- Uw a i k];exact Td _ hy)
  ·exact s3 x hx y hy
 ·intro x hx y hy
  rcases Nc.mp hx with hx|hx
  ·exact M.gb x hx y hy
  ·exact hle x hx y hy
theorem MI.pushB(M:MI R a b o i j)(sb:Sc R b)(k:Nat)(hk:j+k<=b.length)(hle:∀x∈(b.drop j).take k,∀y∈a.drop i,R y x=false):MI R a b (o++(b.drop j).take k) i (j+k):=by
 have sd:=sb.drop j;rw[<- Uw b j k] at sd;obtain⟨s1,s2,s3⟩:=Eh.mp sd;refine⟨?_, ?_, ?_, ?_,M.hi,hk⟩
 ·rw[<- ZaC]
  refine(M.perm.append_right _).trans ?_;rw[Qf]
 ·exact Eh.mpr ⟨M.srt,s1,fun x hx y hy=>M.gb x hx y (Cn hy)⟩
 ·intro x hx y hy
  rcases Nc.mp hx with hx|hx
  ·exact M.ga x hx y hy
  ·exact hle x hx y hy
 ·intro x hx y hy
  rcases Nc.mp hx with hx|hx
  ·exact M.gb x hx y (by rw[<- Uw b j k];exact Td _ hy)
  ·exact s3 x hx y hy
theorem MI.all_perm(M:MI R a b o i j):(o++(a.drop i++b.drop j)).Perm (a++b):=by
 refine(M.perm.append_right _).trans ?_;have e1:(a.take i++b.take j++(a.drop i++b.drop j))=a.take i++(b.take j++a.drop i)++b.drop j:=by simp[Qf]
 rw[e1];have p1:(a.take i++(b.take j++a.drop i)++b.drop j).Perm (a.take i++(a.drop i++b.take j)++b.drop j):=(List.Perm.append_left _ Nz).append_right _;refine p1.trans ?_;have e2:a.take i++(a.drop i++b.take j)++b.drop j=(a.take i++a.drop i)++(b.take j++b.drop j):=by rw[Qf,Qf,Qf]
 rw[e2,Oi,Oi]
theorem MI.endA(M:MI R a b o i j)(sa:Sc R a)(sb:Sc R b)(h:i=a.length\/j=b.length):Sc R (o++(a.drop i++b.drop j))/\(o++(a.drop i++b.drop j)).Perm (a++b):=by
 refine⟨?_,M.all_perm⟩;refine Eh.mpr ⟨M.srt, ?_,fun x hx y hy=>?_⟩
 ·rcases h with h|h
  ·rw[h,List.drop_length,Xs];exact sb.drop j
  ·rw[h,List.drop_length,Rs];exact sa.drop i
 ·rcases Nc.mp hy with hy|hy
  ·exact M.ga x hx y hy
  ·exact M.gb x hx y hy
theorem MI.endB(M:MI R a b o i j)(sa:Sc R a)(sb:Sc R b)(h:∀x∈b.drop j,∀y∈a.drop i,R y x=false):Sc R (o++(b.drop j++a.drop i))/\(o++(b.drop j++a.drop i)).Perm (a++b):=by
 refine⟨?_,(List.Perm.append_left _ Nz).trans M.all_perm⟩;refine Eh.mpr ⟨M.srt,Eh.mpr ⟨sb.drop j,sa.drop i,h⟩,fun x hx y hy=>?_⟩;rcases Nc.mp hy with hy|hy
 ·exact M.gb x hx y hy
 ·exact M.ga x hx y hy
end
section
variable {prog:Bc}{w:Jc}{A:Pd}{s:Ga}{κ:Pi}{U:Aa->Prop}{R:Aa->Aa->Bool}{Ok:Aa->Aa->Prop}
noncomputable abbrev Hf(st:Sa)(g:Nat):Sa:=SortSt.mk' (Ic st) (Oa st) (Qc st) g (Vj st)
structure Wd(U:Aa->Prop)(R:Aa->Aa->Bool)(Ok:Aa->Aa->Prop)(a b:LI4):Prop where
 ua:∀x∈a.toList,U x
 ub:∀x∈b.toList,U x
 ok:∀x∈b.toList,∀y∈a.toList,Ok x y
 sa:Sc R a.toList
 sb:Sc R b.toList
 na:0<a.size
 nb:0<b.size
 fst:∀x y,b.toList[0]?=some x->a.toList[0]?=some y->R y x=false
 lst:∀x∈b.toList,∀y,a.toList[a.size-1]?=some y->R y x=false
theorem Pc.irr(C:Pc prog w A s κ U R Ok)(ux:U x): R x x=false:=by
 cases h:R x x with
 |false=>rfl
 |true=>have:=C.asy x x ux ux h;rw[h] at this;cases this
theorem Pc.dropLe(C:Pc prog w A s κ U R Ok)(ul:∀y∈l,U y)(hs:Sc R l)(hz:l[i]?=some z)(ux:U x)(h:R z x=false): ∀y∈l.drop i,R y x=false:=fun y hy=>by
 have hi:=(Cd.mp hz).1;have e:l.drop i=z::l.drop (i+1):=by
  rw[Tl hi];rw[Yc hi] at hz;cases hz;rfl
 have uz:U z:=ul z (Zd hz);have sd:=hs.drop i;rw[e] at sd hy;rcases Vd.mp hy with rfl|hy'
 ·exact h
 ·have h2:=(Mz.mp sd).1 y hy'
  exact C.tr x z y ux uz (ul y (Bn hy')) h h2
theorem Sc.le(C:Pc prog w A s κ U R Ok){l: List Aa}(ul:∀y∈l,U y)(hs:Sc R l){i j: Nat}(hij:i<=j)(hx:l[i]?=some x)(hy:l[j]?=some y): R y x=false:=by
 by_cases e:i=j
 ·subst e
  rw[hx] at hy;cases hy;exact C.irr (ul x (Zd hx))
 ·have hi:=(Cd.mp hx)
  have hj:=(Cd.mp hy)
  have:=BD.mp hs i j hi.1 hj.1 (by lia);rw[hi.2,hj.2] at this;exact this
theorem ZkS(a b o:LI4)(i j:Nat):(endA a b o i j).toList=o.toList++(a.toList.drop i++b.toList.drop j):=by
 simp only[endA,M5,N5,Qf,Ss];rw[Yk (by simp),Yk (by simp)]
theorem ZkT(a b o:LI4)(i j:Nat):(endB a b o i j).toList=o.toList++(b.toList.drop j++a.toList.drop i):=by
 simp only[endB,M5,N5,Qf,Ss];rw[Yk (by simp),Yk (by simp)]
theorem CC{l: List Aa}(h:l[i]?=some x): (l.drop i).take 1=[x]:=by
 have hi:=(Cd.mp h)
 rw[Tl hi.1,hi.2];rfl
theorem VW{l: List Aa}(h:x∈(l.drop i).take k): ∃t,t<k/\l[i+t]?=some x:=by
 obtain⟨t,ht⟩:=Ej h;rw[Fj] at ht
 split at ht
 ·rename_i hk
  rw[Rj] at ht;exact⟨t,hk,ht⟩
 ·cases ht
theorem F8{l: List Aa}(h:x∈l.drop i): ∃t,l[i+t]?=some x:=by
 obtain⟨t,ht⟩:=Ej h;rw[Rj] at ht;exact⟨t,ht⟩
theorem GX(C:Pc prog w A s κ U R Ok){l: LI4}{i: Nat}(ul:∀y∈l.toList,U y)(hs:Sc R l.toList)(uk:U key)(okk:∀y∈l.toList,Ok key y)(hi:i<=l.size):
  Yq U R Ok false key l i (l.size-i) (fun t=>!R key (l.getD (i+t) (.none,.none))):=by
 have get:∀t,t<l.size-i->l.toList[i+t]?=some (l.getD (i+t) (.none,.none))/\l[i+t]?=some (l.getD (i+t) (.none,.none)):=fun t ht=>by
  have hlt:i+t<l.size:=by lia
  have e:l.getD (i+t) (.none,.none)=l[i+t]:=by simp[Array.getD,hlt]
  rw[e];exact⟨by simp[hlt],by simp[hlt]⟩
 refine⟨uk,fun t ht=>⟨_,(get t ht).2,ul _ (Zd (get t ht).1),by rw[Qa (by decide)];exact okk _ (Zd (get t ht).1),by rw[Qa (by decide)]⟩,fun t u htu hu h=>?_⟩;have hu':=get u hu;have Ad:=get t (by lia);have h1:R key (l.getD (i+u) (.none,.none))=false:=by simpa using h
 have h2:=Sc.le C ul hs (show i+t<=i+u by lia) Ad.1 hu'.1;have:=C.tr _ _ key (ul _ (Zd Ad.1)) (ul _ (Zd hu'.1)) uk h2 h1;show (!R key _)=true;rw[this];rfl
theorem FX(C:Pc prog w A s κ U R Ok){l: LI4}{i: Nat}(ul:∀y∈l.toList,U y)(hs:Sc R l.toList)(uk:U key)(okk:∀y∈l.toList,Ok y key)(hi:i<=l.size):
  Yq U R Ok true key l i (l.size-i) (fun t=>R (l.getD (i+t) (.none,.none)) key):=by
 have get:∀t,t<l.size-i->l.toList[i+t]?=some (l.getD (i+t) (.none,.none))/\l[i+t]?=some (l.getD (i+t) (.none,.none)):=fun t ht=>by
  have hlt:i+t<l.size:=by lia
  have e:l.getD (i+t) (.none,.none)=l[i+t]:=by simp[Array.getD,hlt]
  rw[e];exact⟨by simp[hlt],by simp[hlt]⟩
 refine⟨uk,fun t ht=>⟨_,(get t ht).2,ul _ (Zd (get t ht).1),by rw[Da rfl];exact okk _ (Zd (get t ht).1),by rw[Da rfl]⟩,fun t u htu hu h=>?_⟩;have hu':=get u hu;have Ad:=get t (by lia);cases hc:R (l.getD (i+t) (.none,.none)) key with
 |true=>rfl
 |false =>
  have h2:=Sc.le C ul hs (show i+t<=i+u by lia) Ad.1 hu'.1;have:=C.tr key _ _ uk (ul _ (Zd Ad.1)) (ul _ (Zd hu'.1)) hc h2;rw[this] at h;cases h
end
section
variable {prog:Bc}{w:Jc}{A:Pd}{E:Va->Ga->Prop}{s:Ga}{κ:Pi}{U:Aa->Prop}{R:Aa->Aa->Bool}{Ok:Aa->Aa->Prop}
def Lj(R:Aa->Aa->Bool)(a b:LI4)(st:Sa)(r:LI4)(Ba:Sa):Prop:=Sc R r.toList/\r.toList.Perm (a.toList++b.toList)/\∃g,Ba=Hf st g
def Am(R:Aa->Aa->Bool)(a b:LI4)(st:Sa)(o:LI4)(i j:Nat)(Ba:Sa):Prop:=MI R a.toList b.toList o.toList i j/\i+1<a.size/\j<b.size/\∃g,Ba=Hf st g
theorem LC{st:Sa}{g:Nat}{Q:Unit->Sa->Prop}(h:Q () (Hf st g)):wpS (Na prog w) A E s (N4 g) Q st:=So h
theorem Ql{l:LI4}{i:Nat}(h:i<l.size):∃x,l[i]?=some x/\l.toList[i]?=some x/\x∈l.toList:=
 ⟨l[i],by simp[h],by simp[h],by simp⟩
section
variable {st Ba:Sa}{a b o:LI4}{i j:Nat}
theorem Wd.finA(M:Wd U R Ok a b)(m:MI R a.toList b.toList o.toList i j)(h:i=a.size\/j=b.size)(hg:∃g,Ba=Hf st g):Lj R a b st (endA a b o i j) Ba:=by
 obtain⟨h1,h2⟩:=m.endA M.sa M.sb (by simpa using h);rw[<- ZkS] at h1 h2;exact⟨h1,h2,hg⟩
theorem Wd.finB(M:Wd U R Ok a b)(m:MI R a.toList b.toList o.toList i j)(h:i+1=a.size)(hg:∃g,Ba=Hf st g):Lj R a b st (endB a b o i j) Ba:=by
 obtain⟨h1,h2⟩:=m.endB M.sa M.sb fun x hx y hy=>M.lst x (Bn hx) y (by
  obtain⟨t,ht⟩:=F8 hy;have hl:=(Cd.mp ht).1;rw[Oe] at hl;rw[show a.size-1=i+t by lia];exact ht)
 rw[<- ZkT] at h1 h2;exact⟨h1,h2,hg⟩
theorem Wd.a1(C:Pc prog w A s κ U R Ok)(M:Wd U R Ok a b)(m:MI R a.toList b.toList o.toList i j)(hx:a.toList[i]?=some x)(hle:∀y∈b.toList.drop j,R y x=false): MI R a.toList b.toList (o.push x).toList (i+1) j:=by
 have hi:=(Cd.mp hx).1;have:=m.pushA M.sa 1 (by lia) (by rw[CC hx];intro y hy;rw[Di.mp hy];exact hle);rw[CC hx] at this;rw[OC];exact this
theorem Wd.b1(C:Pc prog w A s κ U R Ok)(M:Wd U R Ok a b)(m:MI R a.toList b.toList o.toList i j){x:Aa}(hx:b.toList[j]?=some x)(hle:∀y∈a.toList.drop i,R y x=false):MI R a.toList b.toList (o.push x).toList i (j+1):=by
 have hj:=(Cd.mp hx).1;have:=m.pushB M.sb 1 (by lia) (by rw[CC hx];intro y hy;rw[Di.mp hy];exact hle);rw[CC hx] at this;rw[OC];exact this
theorem ZaE(l:LI4)(i k:Nat):(o++l.extract i (i+k)).toList=o.toList++(l.toList.drop i).take k:=by
 simp only[M5,N5,Ss];rw[show i+k-i=k by lia]
end
theorem Hr{l: LI4}(h:l.toList[i]?=some x): l.getD i (.none,.none)=x:=by
 have hi:=Cd.mp h;have hs:i<l.size:=by simpa using hi.1
 simp only[Array.getD,hs,Xl];exact hi.2
noncomputable abbrev Jp:=Option LI4×LI4×Nat×Nat×Nat×Nat×Nat
noncomputable def LI(a b o:LI4)(i j g x y:Nat):StateT Sa Sem (ForInStep Jp):=do
 let t <- Sg a i
 if i+1+1==a.size then pure (.done (some (endB a b (o.push t) (i+1) j),o.push t,i+1,j,g,x,y))
 else if x<7&&y<7 then pure (.done (none,o.push t,i+1,j,g,x,y))
 else pure (.yield (none,o.push t,i+1,j,g,x,y))
noncomputable def KI(a b o:LI4)(i j g x y:Nat):StateT Sa Sem (ForInStep Jp):=do
 let t <- Sg b j
 if j+1==b.size then pure (.done (some (endA a b (o.push t) i (j+1)),o.push t,i,j+1,g,x,y))
 else do
  let e <- Sg a i
  let r <- Er true e b (j+1) (b.size-(j+1)) 0
  match r with
  |some k =>
   if k>0 then
    if j+1+k==b.size then pure (.done (some (endA a b (o.push t++b.extract (j+1) (j+1+k)) i (j+1+k)),o.push t++b.extract (j+1) (j+1+k),i,j+1+k,g,x,k))
    else LI a b (o.push t++b.extract (j+1) (j+1+k)) i (j+1+k) g x k
   else LI a b (o.push t) i (j+1) g x k
  |_=>pure (.done (some (endA a b (o.push t) i (j+1)),o.push t,i,j+1,g,x,y))
noncomputable def II(a b o:LI4)(i j g x y:Nat):StateT Sa Sem (ForInStep Jp):=do
 N4 g
 let e <- Sg b j
 let r <- Er false e a i (a.size-i) 0
 match r with
 |some k =>
  if k>0 then
   if i+k+1==a.size then pure (.done (some (endB a b (o++a.extract i (i+k)) (i+k) j),o++a.extract i (i+k),i+k,j,g,k,y))
   else if i+k==a.size then pure (.done (some (endA a b (o++a.extract i (i+k)) (i+k) j),o++a.extract i (i+k),i+k,j,g,k,y))
   else KI a b (o++a.extract i (i+k)) (i+k) j g k y
  else KI a b o i j g k y
 |_=>pure (.done (some (endA a b o i j),o,i,j,g,x,y))
structure OE(R:Aa->Aa->Bool)(a b:LI4)(st:Sa)(p:Nat)(Y:ForInStep Jp->Sa->Prop):Prop where
 fin:∀r o i j g x y Ba,Lj R a b st r Ba->Y (.done (some r,o,i,j,g,x,y)) Ba
 brk:∀o i j g x y Ba,Am R a b st o i j Ba->p<=i+j->Y (.done (none,o,i,j,g,x,y)) Ba
 go:∀o i j g x y Ba,Am R a b st o i j Ba->p<=i+j->Y (.yield (none,o,i,j,g,x,y)) Ba
section
variable {st st1:Sa}{a b o:LI4}{i j p g x y:Nat}{Y:ForInStep Jp->Sa->Prop}{v z:Aa}
theorem Y6{l:LI4}(h:l.toList[i]?=some z):l[i]?=some z:=by simpa using h
theorem ZaZ(K:OE R a b st p Y)(C:Pc prog w A s κ U R Ok)(M:Wd U R Ok a b)(m:MI R a.toList b.toList o.toList i j)(hi:i+1<a.size)(hj:j<b.size)(hp:p<=i+j)(hz:a.toList[i]?=some z)(fz:∀v∈b.toList.drop j,R v z=false)(hg:∃g,st1=Hf st g) :
  wpS (Na prog w) A E s (LI a b o i j g x y) Y st1:=by
 have m4:=Wd.a1 C M m hz fz;refine Vb (Ig (Y6 hz) ?_);by_cases e4:i+1+1=a.size
 ·rw[Da (by simpa using e4)]
  exact Bb (K.fin _ _ _ _ _ _ _ _ (M.finB m4 e4 hg))
 ·rw[Qa (by simpa using e4)]
  split
  ·exact Bb (K.brk _ _ _ _ _ _ _ ⟨m4,by lia,hj,hg⟩ (by lia))
  ·exact Bb (K.go _ _ _ _ _ _ _ ⟨m4,by lia,hj,hg⟩ (by lia))
theorem ZaY(K:OE R a b st p Y)(C:Pc prog w A s κ U R Ok)(hk:Ic st1=κ)(M:Wd U R Ok a b)(m:MI R a.toList b.toList o.toList i j)(hi:i+1<a.size)(hj:j<b.size)(hp:p<=i+j)(hv:b.toList[j]?=some v)(fb:∀z∈a.toList.drop i,R z v=false)(hg:∃g,st1=Hf st g) :
  wpS (Na prog w) A E s (KI a b o i j g x y) Y st1:=by
 have m2:=Wd.b1 C M m hv fb;refine Vb (Ig (Y6 hv) ?_);by_cases e2:j+1=b.size
 ·rw[Da (by simpa using e2)]
  exact Bb (K.fin _ _ _ _ _ _ _ _ (M.finA m2 (.inr e2) hg))
 rw[Qa (by simpa using e2)];obtain⟨z,hz,hzl,hzm⟩:=Ql (show i<a.size by lia);refine Vb (Ig hz (Vb (Az C hk (FX C M.ub M.sb (M.ua _ hzm) (fun y hy=>M.ok y hy _ hzm) (show j+1<=b.size by lia)) (by lia) fun k q1 q2 q3=>?_)));have fz:∀y∈b.toList.drop (j+1+k),R y z=false:=fun y hy=>by
  obtain⟨t,ht⟩:=F8 hy;have hl:=(Cd.mp ht).1;rw[Oe] at hl;have:=q3 (k+t) (by lia) (by lia);rw[show j+1+(k+t)=j+1+k+t by lia,Hr ht] at this;exact this
 show wpS _ _ _ _ (if k>0 then _ else _) _ _;by_cases hk2:k>0
 ·rw[Da hk2]
  have m3:=m2.pushB M.sb k (by rw[Oe];lia) (fun x hx y hy=>by
   obtain⟨t,htk,ht⟩:=VW hx;have h1:=q2 t htk;rw[Hr ht] at h1;have ux:=M.ub x (Zd ht);exact C.dropLe M.ua M.sa hzl ux (C.asy _ _ ux (M.ua _ hzm) h1) y hy)
  rw[<- ZaE] at m3;by_cases e3:j+1+k=b.size
  ·rw[Da (by simpa using e3)]
   exact Bb (K.fin _ _ _ _ _ _ _ _ (M.finA m3 (.inr e3) hg))
  ·rw[Qa (by simpa using e3)]
   exact ZaZ K C M m3 hi (by lia) (by lia) hzl fz hg
 ·rw[Qa hk2]
  obtain rfl:k=0:=by lia
  exact ZaZ K C M m2 hi (by lia) (by lia) hzl fz hg
theorem ZaX(K:OE R a b st p Y)(C:Pc prog w A s κ U R Ok)(hk:Ic st=κ)(M:Wd U R Ok a b)(m:MI R a.toList b.toList o.toList i j)(hi:i+1<a.size)(hj:j<b.size)(hp:p<=i+j)(hg:∃g,st1=Hf st g) :
  wpS (Na prog w) A E s (II a b o i j g x y) Y st1:=by
 obtain⟨gs,rfl⟩:=hg;obtain⟨v,hv,hvl,hvm⟩:=Ql hj;refine Vb (LC (Vb (Ig hv (Vb (Az C (show Ic (Hf _ _)=κ from hk) (GX C M.ua M.sa (M.ub _ hvm) (M.ok _ hvm) (show i<=a.size by lia)) (by lia) fun k p1 p2 p3=>?_)))));have hg:∃g',Hf (Hf st gs) g=Hf st g':=⟨_,rfl⟩
 have fb:∀z∈a.toList.drop (i+k),R z v=false:=fun z hz=>by
  obtain⟨t,ht⟩:=F8 hz;have hl:=(Cd.mp ht).1;rw[Oe] at hl;have:=p3 (k+t) (by lia) (by lia);rw[show i+(k+t)=i+k+t by lia,Hr ht] at this;exact C.asy _ _ (M.ub _ hvm) (M.ua _ (Zd ht)) (by simpa using this)
 show wpS _ _ _ _ (if k>0 then _ else _) _ _;by_cases hk1:k>0
 ·rw[Da hk1]
  have m2:=m.pushA M.sa k (by rw[Oe];lia) (fun x hx z hz=>by
   obtain⟨t,htk,ht⟩:=VW hx;have h1:=p2 t htk;rw[Hr ht] at h1;exact C.dropLe M.ub M.sb hvl (M.ua x (Zd ht)) (by simpa using h1) z hz)
  rw[<- ZaE] at m2;by_cases e0:i+k+1=a.size
  ·rw[Da (by simpa using e0)]
   exact Bb (K.fin _ _ _ _ _ _ _ _ (M.finB m2 e0 hg))
  rw[Qa (by simpa using e0)];by_cases e1:i+k=a.size
  ·rw[Da (by simpa using e1)]
   exact Bb (K.fin _ _ _ _ _ _ _ _ (M.finA m2 (.inl e1) hg))
  rw[Qa (by simpa using e1)];exact ZaY K C hk M m2 (by lia) hj (by lia) hvl fb hg
 ·rw[Qa hk1]
  obtain rfl:k=0:=by lia
  exact ZaY K C hk M m hi hj hp hvl fb hg
end
noncomputable abbrev Cv:=Option LI4×LI4×Nat×Nat×Nat×Nat
noncomputable abbrev Kt:=Option LI4×LI4×Nat×Nat×Nat
noncomputable def loE(a b:LI4)(g:Nat)(c:Cv):StateT Sa Sem (ForInStep Cv):=do
 let y <- Sg b c.2.2.2.1
 let z <- Sg a c.2.2.1
 let r <- lt' y z
 match r with
 |some t =>
  if t then do
   let e <- Sg b c.2.2.2.1
   if c.2.2.2.1+1==b.size then pure (.done (some (endA a b (c.2.1.push e) c.2.2.1 (c.2.2.2.1+1)),c.2.1.push e,c.2.2.1,c.2.2.2.1+1,0,c.2.2.2.2.2+1))
   else if c.2.2.2.2.2+1 ≥ g then pure (.done (none,c.2.1.push e,c.2.2.1,c.2.2.2.1+1,0,c.2.2.2.2.2+1))
   else pure (.yield (none,c.2.1.push e,c.2.2.1,c.2.2.2.1+1,0,c.2.2.2.2.2+1))
  else do
   let e <- Sg a c.2.2.1
   if c.2.2.1+1+1==a.size then pure (.done (some (endB a b (c.2.1.push e) (c.2.2.1+1) c.2.2.2.1),c.2.1.push e,c.2.2.1+1,c.2.2.2.1,c.2.2.2.2.1+1,0))
   else if c.2.2.2.2.1+1 ≥ g then pure (.done (none,c.2.1.push e,c.2.2.1+1,c.2.2.2.1,c.2.2.2.2.1+1,0))
   else pure (.yield (none,c.2.1.push e,c.2.2.1+1,c.2.2.2.1,c.2.2.2.2.1+1,0))
 |_=>pure (.done (some (endA a b c.2.1 c.2.2.1 c.2.2.2.1),c.2.1,c.2.2.1,c.2.2.2.1,c.2.2.2.2.1,c.2.2.2.2.2))
noncomputable def LV(a b:LI4)(g:Nat)(c:Cv):StateT Sa Sem Cv:=forIn [0:a.size+b.size] c fun _ c=>loE a b g c
noncomputable def MV(a b:LI4)(c:Jp):StateT Sa Sem Jp:=forIn [0:a.size+b.size] c fun _ c=>if c.2.2.2.2.1>1 then II a b c.2.1 c.2.2.1 c.2.2.2.1 (c.2.2.2.2.1-1) c.2.2.2.2.2.1 c.2.2.2.2.2.2 else II a b c.2.1 c.2.2.1 c.2.2.2.1 c.2.2.2.2.1 c.2.2.2.2.2.1 c.2.2.2.2.2.2
noncomputable def loH(a b:LI4)(c:Kt):StateT Sa Sem (ForInStep Kt):=do
 let s <- LV a b c.2.2.2.2 (none,c.2.1,c.2.2.1,c.2.2.2.1,0,0)
 Break.runK.match_1 (fun _=>StateT Sa Sem (ForInStep Kt)) s.1 (fun r=>pure (.done (some r,s.2.1,s.2.2.1,s.2.2.2.1,c.2.2.2.2))) fun _=>do
  rule "list.sort.gallop"
  let s <- MV a b (none,s.2.1,s.2.2.1,s.2.2.2.1,c.2.2.2.2+1,s.2.2.2.2.1,s.2.2.2.2.2)
  Break.runK.match_1 (fun _=>StateT Sa Sem (ForInStep Kt)) s.1 (fun r=>pure (.done (some r,s.2.1,s.2.2.1,s.2.2.2.1,s.2.2.2.2.1))) fun _=>do
   N4 (s.2.2.2.2.1+1)
   pure (.yield (none,s.2.1,s.2.2.1,s.2.2.2.1,s.2.2.2.2.1+1))
noncomputable def loI(a b:LI4):StateT Sa Sem LI4:=do
 rule "list.sort.merge-lo"
 let e <- Sg b 0
 if 1==b.size then pure (endA a b #[e] 0 1)
 else if 0+1==a.size then pure (endB a b #[e] 0 1)
 else do
  let t <- get
  let s <- forIn [0:a.size+b.size] ((none,#[e],0,1,gallopOf t):Kt) fun _ c=>loH a b c
  Break.runK.match_1 (fun _=>StateT Sa Sem LI4) s.1 (fun r=>pure r) fun _=>unsupported "internal:list.sort.merge-bound"
theorem Zh9(a b:LI4):JJ a b=loI a b:=rfl
section
variable {st st1:Sa}{a b o:LI4}{i j p g x y:Nat}
theorem Zl1(C:Pc prog w A s κ U R Ok)(hk:Ic st=κ)(M:Wd U R Ok a b)(J:Am R a b st o i j st1){Q:Cv->Sa->Prop}(h1:∀r o i j x y Ba,Lj R a b st r Ba->Q (some r,o,i,j,x,y) Ba)(h2:∀o' i' j' x y Ba,Am R a b st o' i' j' Ba->i+j+1<=i'+j'->Q (none,o',i',j',x,y) Ba) :
  wpS (Na prog w) A E s (LV a b g (none,o,i,j,x,y)) Q st1:=by
 have na:=M.na;refine Fi (I:=fun x' (c:Cv) (Ba:Sa)=>c.1=none/\Am R a b st c.2.1 c.2.2.1 c.2.2.2.1 Ba/\i+j+x'<=c.2.2.1+c.2.2.2.1) ?_ ?_ ⟨rfl,J,Db _⟩
 ·rintro x' ⟨o1,o',i',j',u,v⟩ Ba _ hx' ⟨rfl,⟨m,hi,hj,gs,rfl⟩,hp⟩
  dsimp only at m hi hj hp;obtain⟨y,hy,hyl,hym⟩:=Ql hj;obtain⟨z,hz,hzl,hzm⟩:=Ql (show i'<a.size by lia);refine Vb (Ig hy (Vb (Ig hz (Vb (C5 C hk (M.ub _ hym) (M.ua _ hzm) (M.ok _ hym _ hzm) ?_)))));show wpS _ _ _ _ (if R y z=true then _ else _) _ _;cases hR:R y z with
  |true =>
   rw[Da rfl];refine Vb (Ig hy ?_);have m2:=Wd.b1 C M m hyl (C.dropLe M.ua M.sa hzl (M.ub _ hym) (C.asy _ _ (M.ub _ hym) (M.ua _ hzm) hR));by_cases e1:j'+1=b.size
   ·rw[Da (by simpa using e1)]
    exact Bb (h1 _ _ _ _ _ _ _ (M.finA m2 (.inr e1) ⟨gs,rfl⟩))
   ·rw[Qa (by simpa using e1)]
    have J2:Am R a b st (o'.push y) i' (j'+1) (Hf st gs):=⟨m2,hi,by lia,gs,rfl⟩
    split
    ·exact Bb (h2 _ _ _ _ _ _ J2 (by dsimp only;lia))
    ·exact Bb ⟨rfl,J2,by dsimp only;lia⟩
  |false =>
   rw[Qa (by decide)];refine Vb (Ig hz ?_);have m2:=Wd.a1 C M m hzl (C.dropLe M.ub M.sb hyl (M.ua _ hzm) hR);by_cases e1:i'+1+1=a.size
   ·rw[Da (by simpa using e1)]
    exact Bb (h1 _ _ _ _ _ _ _ (M.finB m2 e1 ⟨gs,rfl⟩))
   ·rw[Qa (by simpa using e1)]
    have J2:Am R a b st (o'.push z) (i'+1) j' (Hf st gs):=⟨m2,by lia,hj,gs,rfl⟩
    split
    ·exact Bb (h2 _ _ _ _ _ _ J2 (by dsimp only;lia))
    ·exact Bb ⟨rfl,J2,by dsimp only;lia⟩
 ·rintro⟨o1,o',i',j',u,v⟩ Ba ⟨e1,e2,e3⟩
  dsimp only at e1 e2 e3;subst e1;exact h2 _ _ _ _ _ _ e2 (by lia)
theorem Zl2(C:Pc prog w A s κ U R Ok)(hk:Ic st=κ)(M:Wd U R Ok a b)(J:Am R a b st o i j st1)(hp:p<=i+j){Q:Jp->Sa->Prop}(h1:∀r o i j g x y Ba,Lj R a b st r Ba->Q (some r,o,i,j,g,x,y) Ba)(h2:∀o' i' j' g x y Ba,Am R a b st o' i' j' Ba->p<=i'+j'->Q (none,o',i',j',g,x,y) Ba) :
  wpS (Na prog w) A E s (MV a b (none,o,i,j,g,x,y)) Q st1:=by
 refine Fi (I:=fun _ (c:Jp) (Ba:Sa)=>c.1=none/\Am R a b st c.2.1 c.2.2.1 c.2.2.2.1 Ba/\p<=c.2.2.1+c.2.2.2.1) ?_ ?_ ⟨rfl,J,hp⟩
 ·rintro x' ⟨o1,o,i,j,g,u,v⟩ Ba _ hx' ⟨rfl,⟨m,hi,hj,hg⟩,hp⟩
  dsimp only at m hi hj hp
  split
  ·exact ZaX (p:=p) ⟨fun _ _ _ _ _ _ _ _ h=>h1 _ _ _ _ _ _ _ _ h,fun _ _ _ _ _ _ _ h hp=>h2 _ _ _ _ _ _ _ h hp,fun _ _ _ _ _ _ _ h hp=>⟨rfl,h,hp⟩⟩ C hk M m hi hj hp hg
  ·exact ZaX (p:=p) ⟨fun _ _ _ _ _ _ _ _ h=>h1 _ _ _ _ _ _ _ _ h,fun _ _ _ _ _ _ _ h hp=>h2 _ _ _ _ _ _ _ h hp,fun _ _ _ _ _ _ _ h hp=>⟨rfl,h,hp⟩⟩ C hk M m hi hj hp hg
 ·rintro⟨o1,o',i',j',g,u,v⟩ Ba ⟨e1,e2,e3⟩
  dsimp only at e1 e2 e3;subst e1;exact h2 _ _ _ _ _ _ _ e2 e3
end
theorem Zl5(C:Pc prog w A s κ U R Ok){st:Sa}{a b:LI4}{Q:LI4->Sa->Prop}(hk:Ic st=κ)(M:Wd U R Ok a b)(h:∀o Ba,Lj R a b st o Ba->Q o Ba):wpS (Na prog w) A E s (JJ a b) Q st:=by
 rw[Zh9];obtain⟨b0,hb0,hb0l,hb0m⟩:=Ql M.nb;obtain⟨a0,ha0,ha0l,ha0m⟩:=Ql M.na;refine Vb (wpS_lift (Fn ⟨rfl, ?_⟩));refine Vb (Ig hb0 ?_);have m0:MI R a.toList b.toList (#[]:LI4).toList 0 0:=⟨by simp,List.Pairwise.nil,fun x hx=>by simp at hx,fun x hx=>by simp at hx,Ng _,Ng _⟩
 have m1:MI R a.toList b.toList (#[b0]:LI4).toList 0 1:=Wd.b1 C M m0 hb0l (C.dropLe M.ua M.sa ha0l (M.ub _ hb0m) (M.fst _ _ hb0l ha0l));have g0:∃g,st=Hf st g:=⟨gallopOf st,rfl⟩
 by_cases c1:1=b.size
 ·rw[Da (by simpa using c1)]
  exact Bb (h _ _ (M.finA m1 (.inr c1) g0))
 rw[Qa (by simpa using c1)];by_cases c2:0+1=a.size
 ·rw[Da (by simpa using c2)]
  exact Bb (h _ _ (M.finB m1 c2 g0))
 rw[Qa (by simpa using c2)];refine Vb (Yl ?_);have na:=M.na;have nb:=M.nb;refine Vb (Wj (Fi (I:=fun x (c:Kt) (Ba:Sa)=>c.1=none/\Am R a b st c.2.1 c.2.2.1 c.2.2.2.1 Ba/\x+1<=c.2.2.1+c.2.2.2.1)
  (Q:=fun(c:Kt) (Ba:Sa)=>∃r,c.1=some r/\Lj R a b st r Ba) ?step ?fin ⟨rfl,⟨m1,by dsimp only;lia,by dsimp only;lia,g0⟩,Db _⟩) ?post)
 case fin =>
  rintro⟨o1,o,i,j,g⟩ Ba ⟨h1,⟨h2,h3,h4,h5⟩,h6⟩;dsimp only at h3 h4 h6;lia
 case post =>
  rintro⟨o1,o,i,j,g⟩ Ba ⟨r,h1,h2⟩;dsimp only at h1;subst h1;exact Bb (h _ _ h2)
 case step =>
  rintro x ⟨o1,o,i,j,g⟩ st1 _ hx ⟨rfl,J,hm⟩;dsimp only at J hm;refine Vb (Zl1 C hk M J (fun r o i j x y Ba h=>Bb ⟨r,rfl,h⟩) fun o' i' j' u v Ba J' hp=>?_);refine Vb (wpS_lift (Fn ⟨rfl, ?_⟩));refine Vb (Zl2 (p:=x+1+1) C hk M J' (by lia) (fun r o i j g x y Ba h=>Bb ⟨r,rfl,h⟩) fun o' i' j' g u v Ba J' hp=>?_);obtain⟨m,hi,hj,gs,rfl⟩:=J';exact Vb (LC (Bb ⟨rfl,⟨m,hi,hj,_,rfl⟩,hp⟩))
end
noncomputable def ZJ:LI4->LI4->StateT Sa Sem LI4:=sortPriv% PySem.Builtin.mergeHi
noncomputable def Mm(a b o:LI4)(i j:Nat):LI4:=a.extract 0 i++b.extract 0 j++o.reverse
noncomputable def Ju(a b o:LI4)(i j:Nat):LI4:=b.extract 0 j++a.extract 0 i++o.reverse
structure MH(R:Aa->Aa->Bool)(a b q:List Aa)(i j:Nat):Prop where
 perm:q.Perm (a.drop i++b.drop j)
 srt:Sc R q
 ga:∀x∈a.take i,∀y∈q,R y x=false
 gb:∀x∈b.take j,∀y∈q,R y x=false
 hi:i<=a.length
 hj:j<=b.length
section
variable {R:Aa->Aa->Bool}{a b q:List Aa}{i j:Nat}
theorem J5(l:List Aa)(h:c<=i): l.take c++(l.take i).drop c=l.take i:=by
 rw[show l.take c=(l.take i).take c by rw[List.take_take,Nat.min_eq_left h]];exact Oi c (l.take i)
theorem CS(l:List Aa)(h:c<=i): (l.take i).drop c++l.drop i=l.drop c:=by
 have e:l.take c++((l.take i).drop c++l.drop i)=l.take c++l.drop c:=by
  rw[<- Qf,J5 l h,Oi,Oi]
 exact List.append_cancel_left e
theorem Sc.take(h:Sc R l)(i:Nat): Sc R (l.take i):=h.sublist (LN i l)
theorem MH.pushA(M:MH R a b q i j)(sa:Sc R a)(hc:c<=i)(hle:∀x∈b.take j,∀y∈(a.take i).drop c,R y x=false): MH R a b ((a.take i).drop c++q) c j:=by
 have sd:=sa.take i;rw[<- J5 a hc] at sd;obtain⟨s1,s2,s3⟩:=Eh.mp sd;refine⟨?_, ?_, ?_, ?_,Se hc M.hi,M.hj⟩
 ·refine(List.Perm.append_left _ M.perm).trans ?_
  rw[<- Qf,CS a hc]
 ·exact Eh.mpr ⟨s2,M.srt,fun x hx y hy=>M.ga x (Bn hx) y hy⟩
 ·intro x hx y hy
  rcases Nc.mp hy with hy|hy
  ·exact s3 x hx y hy
  ·exact M.ga x (by rw[<- J5 a hc];exact Zf _ hx) y hy
 ·intro x hx y hy
  rcases Nc.mp hy with hy|hy
  ·exact hle x hx y hy
  ·exact M.gb x hx y hy
theorem MH.pushB(M:MH R a b q i j)(sb:Sc R b)(hc:c<=j)(hle:∀x∈a.take i,∀y∈(b.take j).drop c,R y x=false): MH R a b ((b.take j).drop c++q) i c:=by
 have sd:=sb.take j;rw[<- J5 b hc] at sd;obtain⟨s1,s2,s3⟩:=Eh.mp sd;refine⟨?_, ?_, ?_, ?_,M.hi,Se hc M.hj⟩
 ·refine(List.Perm.append_left _ M.perm).trans ?_
  rw[<- CS b hc];have:∀X Y Z:List Aa,(X++(Y++Z)).Perm (Y++(X++Z)):=fun X Y Z=>by
   rw[<- Qf,<- Qf];exact List.Perm.append_right _ Nz
  exact this _ _ _
 ·exact Eh.mpr ⟨s2,M.srt,fun x hx y hy=>M.gb x (Bn hx) y hy⟩
 ·intro x hx y hy
  rcases Nc.mp hy with hy|hy
  ·exact hle x hx y hy
  ·exact M.ga x hx y hy
 ·intro x hx y hy
  rcases Nc.mp hy with hy|hy
  ·exact s3 x hx y hy
  ·exact M.gb x (by rw[<- J5 b hc];exact Zf _ hx) y hy
theorem MH.all_perm(M:MH R a b q i j):(a.take i++(b.take j++q)).Perm (a++b):=by
 refine(List.Perm.append_left _ (List.Perm.append_left _ M.perm)).trans ?_;have p1:∀X Y Z W:List Aa,(X++(Y++(Z++W))).Perm ((X++Z)++(Y++W)):=fun X Y Z W=>by
  rw[Qf];refine List.Perm.append_left _ ?_;rw[<- Qf,<- Qf];exact List.Perm.append_right _ Nz
 refine(p1 _ _ _ _).trans ?_;rw[Oi,Oi]
theorem MH.endA(M:MH R a b q i j)(sa:Sc R a)(sb:Sc R b)(h:i=0\/j=0):Sc R (a.take i++(b.take j++q))/\(a.take i++(b.take j++q)).Perm (a++b):=by
 refine⟨?_,M.all_perm⟩;have sq:Sc R (b.take j++q):=Eh.mpr ⟨sb.take j,M.srt,M.gb⟩;refine Eh.mpr ⟨sa.take i,sq,fun x hx y hy=>?_⟩;rcases h with h|h
 ·rw[h,List.take_zero] at hx;simp at hx
 ·rw[h,List.take_zero,Xs] at hy
  exact M.ga x hx y hy
theorem MH.endB(M:MH R a b q i j)(sa:Sc R a)(sb:Sc R b)(h:∀x∈b.take j,∀y∈a.take i,R y x=false):Sc R (b.take j++(a.take i++q))/\(b.take j++(a.take i++q)).Perm (a++b):=by
 refine⟨?_, ?_⟩
 ·refine Eh.mpr ⟨sb.take j,Eh.mpr ⟨sa.take i,M.srt,M.ga⟩,fun x hx y hy=>?_⟩
  rcases Nc.mp hy with hy|hy
  ·exact h x hx y hy
  ·exact M.gb x hx y hy
 ·refine List.Perm.trans ?_ M.all_perm
  rw[<- Qf,<- Qf];exact List.Perm.append_right _ Nz
end
section
variable {prog:Bc}{w:Jc}{A:Pd}{E:Va->Ga->Prop}{s:Ga}{κ:Pi}{U:Aa->Prop}{R:Aa->Aa->Bool}{Ok:Aa->Aa->Prop}
theorem Yq.le(K:Yq U R Ok left key arr base m P)(h:n<=m): Yq U R Ok left key arr base n P:=
 ⟨K.uk,fun i hi=>K.it i (by lia),fun i j h1 h2 h3=>K.mono i j h1 (by lia) h3⟩
theorem Pc.takeLe(C:Pc prog w A s κ U R Ok)(ul:∀y∈l,U y)(hs:Sc R l)(hn:0<n)(hz:l[n-1]?=some z)(uv:U v)(h:R v z=false): ∀x∈l.take n,R v x=false:=fun x hx=>by
 obtain⟨t,ht⟩:=Ej hx;rw[Fj] at ht
 split at ht
 ·rename_i htn
  have h1:=Sc.le C ul hs (show t<=n-1 by lia) ht hz;exact C.tr x z v (ul x (Zd ht)) (ul z (Zd hz)) uv h1 h
 ·cases ht
theorem D3{l: List Aa}(h:x∈l.take i): ∃t,t<i/\l[t]?=some x:=by
 obtain⟨t,ht⟩:=Ej h;rw[Fj] at ht
 split at ht
 ·rename_i hi;exact⟨t,hi,ht⟩
 ·cases ht
theorem UW{l: List Aa}(h:x∈(l.take i).drop c): ∃t,(c<=t/\t<i)/\l[t]?=some x:=by
 obtain⟨t,ht⟩:=Ej h;rw[Rj,Fj] at ht
 split at ht
 ·rename_i hi;exact⟨c+t,by lia,ht⟩
 ·cases ht
theorem BC{l: List Aa}(hi:0<i)(h:l[i-1]?=some x): (l.take i).drop (i-1)=[x]:=by
 have hl:=Cd.mp h;have e:(l.take i)[i-1]?=some x:=by rw[Fj,Da (by lia),h]
 have h2:=Cd.mp e;rw[Tl h2.1,h2.2,TC (by rw[Ch];lia)]
theorem ZkU(a b o:LI4)(i j:Nat):(Mm a b o i j).toList=a.toList.take i++(b.toList.take j++o.toList.reverse):=by
 simp[Mm,Qf,Ss]
theorem ZkV(a b o:LI4)(i j:Nat):(Ju a b o i j).toList=b.toList.take j++(a.toList.take i++o.toList.reverse):=by
 simp[Ju,Qf,Ss]
theorem ZaG(l o:LI4)(q i:Nat):(o++(l.extract q i).reverse).toList.reverse=(l.toList.take i).drop q++o.toList.reverse:=by
 simp[Ss,List.drop_take]
theorem ZaF(o:LI4)(x:Aa):(o.push x).toList.reverse=[x]++o.toList.reverse:=by simp
def Qm(R:Aa->Aa->Bool)(a b:LI4)(st:Sa)(o:LI4)(i j:Nat)(Ba:Sa):Prop:=MH R a.toList b.toList o.toList.reverse i j/\0<i/\1<j/\∃g,Ba=Hf st g
section
variable {st Ba:Sa}{a b o:LI4}{i j:Nat}
theorem Wd.hfA(M:Wd U R Ok a b)(m:MH R a.toList b.toList o.toList.reverse i j)(h:i=0\/j=0)(hg:∃g,Ba=Hf st g):Lj R a b st (Mm a b o i j) Ba:=by
 obtain⟨h1,h2⟩:=m.endA M.sa M.sb h;rw[<- ZkU] at h1 h2;exact⟨h1,h2,hg⟩
theorem Wd.hfB(C:Pc prog w A s κ U R Ok)(M:Wd U R Ok a b)(m:MH R a.toList b.toList o.toList.reverse i j)(h:j=1)(hg:∃g,Ba=Hf st g):Lj R a b st (Ju a b o i j) Ba:=by
 obtain⟨a0,ha0,ha0l,ha0m⟩:=Ql M.na;obtain⟨h1,h2⟩:=m.endB M.sa M.sb fun x hx y hy=>by
  obtain⟨t,ht,hx⟩:=D3 hx;have ht0:t=0:=by lia
  rw[ht0] at hx;have:=C.dropLe M.ua M.sa ha0l (M.ub _ (Zd hx)) (M.fst _ _ hx ha0l);rw[Su] at this;exact this y (Cn hy)
 rw[<- ZkV] at h1 h2;exact⟨h1,h2,hg⟩
theorem Wd.ha1(M:Wd U R Ok a b)(m:MH R a.toList b.toList o.toList.reverse i j){x:Aa}(hi:0<i)(hx:a.toList[i-1]?=some x)(hle:∀y∈b.toList.take j,R x y=false):MH R a.toList b.toList (o.push x).toList.reverse (i-1) j:=by
 have:=m.pushA M.sa (c:=i-1) (by lia) (by rw[BC hi hx];intro y hy z hz;rw[Di.mp hz];exact hle y hy);rw[BC hi hx] at this;rw[ZaF];exact this
theorem Wd.hb1(M:Wd U R Ok a b)(m:MH R a.toList b.toList o.toList.reverse i j){x:Aa}(hj:0<j)(hx:b.toList[j-1]?=some x)(hle:∀y∈a.toList.take i,R x y=false):MH R a.toList b.toList (o.push x).toList.reverse i (j-1):=by
 have:=m.pushB M.sb (c:=j-1) (by lia) (by rw[BC hj hx];intro y hy z hz;rw[Di.mp hz];exact hle y hy);rw[BC hj hx] at this;rw[ZaF];exact this
end
noncomputable abbrev Zp:=Option LI4×Nat×Nat×LI4×Nat×Nat×Nat
noncomputable def XH(a b o:LI4)(i j g x y:Nat):StateT Sa Sem (ForInStep Zp):=do
 let t <- Sg a (i-1)
 if i-1==0 then pure (.done (some (Mm a b (o.push t) (i-1) j),i-1,j,o.push t,g,x,y))
 else if x<7&&y<7 then pure (.done (none,i-1,j,o.push t,g,x,y))
 else pure (.yield (none,i-1,j,o.push t,g,x,y))
noncomputable def WH(a b o:LI4)(i j g x y:Nat):StateT Sa Sem (ForInStep Zp):=do
 let t <- Sg b (j-1)
 if j-1==1 then pure (.done (some (Ju a b (o.push t) i (j-1)),i,j-1,o.push t,g,x,y))
 else do
  let e <- Sg a (i-1)
  let r <- Er true e b 0 (j-1) (j-1-1)
  match r with
  |some q =>
   if j-1-q>0 then
    if q==1 then pure (.done (some (Ju a b (o.push t++(b.extract q (j-1)).reverse) i q),i,q,o.push t++(b.extract q (j-1)).reverse,g,x,j-1-q))
    else if q==0 then pure (.done (some (Mm a b (o.push t++(b.extract q (j-1)).reverse) i q),i,q,o.push t++(b.extract q (j-1)).reverse,g,x,j-1-q))
    else XH a b (o.push t++(b.extract q (j-1)).reverse) i q g x (j-1-q)
   else XH a b (o.push t) i (j-1) g x (j-1-q)
  |_=>pure (.done (some (Mm a b (o.push t) i (j-1)),i,j-1,o.push t,g,x,y))
noncomputable def TH(a b o:LI4)(i j g x y:Nat):StateT Sa Sem (ForInStep Zp):=do
 N4 g
 let e <- Sg b (j-1)
 let r <- Er false e a 0 i (i-1)
 match r with
 |some q =>
  if i-q>0 then
   if q==0 then pure (.done (some (Mm a b (o++(a.extract q i).reverse) q j),q,j,o++(a.extract q i).reverse,g,i-q,y))
   else WH a b (o++(a.extract q i).reverse) q j g (i-q) y
  else WH a b o i j g (i-q) y
 |_=>pure (.done (some (Mm a b o i j),i,j,o,g,x,y))
structure GE(R:Aa->Aa->Bool)(a b:LI4)(st:Sa)(p n:Nat)(Y:ForInStep Zp->Sa->Prop):Prop where
 fin:∀r o i j g x y Ba,Lj R a b st r Ba->Y (.done (some r,i,j,o,g,x,y)) Ba
 brk:∀o i j g x y Ba,Qm R a b st o i j Ba->i+j+p+1<=n->Y (.done (none,i,j,o,g,x,y)) Ba
 go:∀o i j g x y Ba,Qm R a b st o i j Ba->i+j+p+1<=n->Y (.yield (none,i,j,o,g,x,y)) Ba
section
variable {st st1:Sa}{a b o:LI4}{i j p n g x y:Nat}{Y:ForInStep Zp->Sa->Prop}{v z:Aa}
theorem ZaW(K:GE R a b st p n Y)(M:Wd U R Ok a b)(m:MH R a.toList b.toList o.toList.reverse i j)(hi:0<i)(hj:1<j)(hp:i+j+p+1<=n)(hz:a.toList[i-1]?=some z)(fz:∀v∈b.toList.take j,R z v=false)(hg:∃g,st1=Hf st g) :
  wpS (Na prog w) A E s (XH a b o i j g x y) Y st1:=by
 have m4:=M.ha1 m hi hz fz;refine Vb (Ig (Y6 hz) ?_);by_cases e4:i-1=0
 ·rw[Da (by simpa using e4)]
  exact Bb (K.fin _ _ _ _ _ _ _ _ (M.hfA m4 (.inl e4) hg))
 ·rw[Qa (by simpa using e4)]
  split
  ·exact Bb (K.brk _ _ _ _ _ _ _ ⟨m4,by lia,hj,hg⟩ (by lia))
  ·exact Bb (K.go _ _ _ _ _ _ _ ⟨m4,by lia,hj,hg⟩ (by lia))
theorem ZaV(K:GE R a b st p n Y)(C:Pc prog w A s κ U R Ok)(hk:Ic st1=κ)(M:Wd U R Ok a b)(m:MH R a.toList b.toList o.toList.reverse i j)(hi:0<i)(hj:1<j)(hp:i+j+p+1<=n)(hv:b.toList[j-1]?=some v)(fb:∀z∈a.toList.take i,R v z=false)(hg:∃g,st1=Hf st g) :
  wpS (Na prog w) A E s (WH a b o i j g x y) Y st1:=by
 have lia:=m.hi;have ljb:=m.hj;rw[Oe] at lia ljb;have m2:=M.hb1 m (by lia) hv fb;refine Vb (Ig (Y6 hv) ?_);by_cases e2:j-1=1
 ·rw[Da (by simpa using e2)]
  exact Bb (K.fin _ _ _ _ _ _ _ _ (Wd.hfB C M m2 e2 hg))
 rw[Qa (by simpa using e2)];obtain⟨z,hz,hzl,hzm⟩:=Ql (show i-1<a.size by lia);refine Vb (Ig hz (Vb (Az C hk ((FX C M.ub M.sb (M.ua _ hzm) (fun y hy=>M.ok y hy _ hzm) (Ng b.size)).le (show j-1<=b.size-0 by lia)) (by lia) fun q r1 r2 r3=>?_)));have fz:∀y∈b.toList.take q,R z y=false:=fun y hy=>by
  obtain⟨t,htk,ht⟩:=D3 hy;have h1:=r2 t htk;rw[Jl,Hr ht] at h1;exact C.asy _ _ (M.ub _ (Zd ht)) (M.ua _ hzm) h1
 show wpS _ _ _ _ (if j-1-q>0 then _ else _) _ _;by_cases hk2:j-1-q>0
 ·rw[Da hk2]
  have m3:=m2.pushB M.sb (c:=q) (by lia) (fun x hx y hy=>by
   obtain⟨t,htk,ht⟩:=UW hy;have h1:=r3 t htk.1 htk.2;rw[Jl,Hr ht] at h1;exact C.takeLe M.ua M.sa hi hzl (M.ub _ (Zd ht)) h1 x hx)
  rw[<- ZaG] at m3;by_cases e3:q=1
  ·rw[Da (by simpa using e3)]
   exact Bb (K.fin _ _ _ _ _ _ _ _ (Wd.hfB C M m3 e3 hg))
  rw[Qa (by simpa using e3)];by_cases e5:q=0
  ·rw[Da (by simpa using e5)]
   exact Bb (K.fin _ _ _ _ _ _ _ _ (M.hfA m3 (.inr e5) hg))
  rw[Qa (by simpa using e5)];exact ZaW K M m3 hi (by lia) (by lia) hzl fz hg
 ·rw[Qa hk2]
  obtain rfl:q=j-1:=by lia
  exact ZaW K M m2 hi (by lia) (by lia) hzl fz hg
theorem ZaU(K:GE R a b st p n Y)(C:Pc prog w A s κ U R Ok)(hk:Ic st=κ)(M:Wd U R Ok a b)(m:MH R a.toList b.toList o.toList.reverse i j)(hi:0<i)(hj:1<j)(hp:i+j+p+1<=n)(hg:∃g,st1=Hf st g) :
  wpS (Na prog w) A E s (TH a b o i j g x y) Y st1:=by
 have lia:=m.hi;have ljb:=m.hj;rw[Oe] at lia ljb;obtain⟨gs,rfl⟩:=hg;obtain⟨v,hv,hvl,hvm⟩:=Ql (show j-1<b.size by lia);refine Vb (LC (Vb (Ig hv (Vb (Az C (show Ic (Hf _ _)=κ from hk) ((GX C M.ua M.sa (M.ub _ hvm) (M.ok _ hvm) (Ng a.size)).le (show i<=a.size-0 by lia)) (by lia) fun q p1 p2 p3=>?_)))));have hg:∃g',Hf (Hf st gs) g=Hf st g':=⟨_,rfl⟩
 have fb:∀z∈a.toList.take q,R v z=false:=fun z hz=>by
  obtain⟨t,htk,ht⟩:=D3 hz;have h1:=p2 t htk;rw[Jl,Hr ht] at h1;simpa using h1
 show wpS _ _ _ _ (if i-q>0 then _ else _) _ _;by_cases hk1:i-q>0
 ·rw[Da hk1]
  have m2:=m.pushA M.sa (c:=q) (by lia) (fun x hx z hz=>by
   obtain⟨t,htk,ht⟩:=UW hz;have h1:=p3 t htk.1 htk.2;rw[Jl,Hr ht] at h1;have uz:=M.ua z (Zd ht);exact C.takeLe M.ub M.sb (by lia) hvl uz (C.asy _ _ (M.ub _ hvm) uz (by simpa using h1)) x hx)
  rw[<- ZaG] at m2;by_cases e0:q=0
  ·rw[Da (by simpa using e0)]
   exact Bb (K.fin _ _ _ _ _ _ _ _ (M.hfA m2 (.inl e0) hg))
  rw[Qa (by simpa using e0)];exact ZaV K C hk M m2 (by lia) hj (by lia) hvl fb hg
 ·rw[Qa hk1]
  obtain rfl:q=i:=by lia
  exact ZaV K C hk M m hi hj hp hvl fb hg
end
noncomputable abbrev Bv:=Option LI4×Nat×Nat×LI4×Nat×Nat
noncomputable abbrev Dt:=Option LI4×Nat×Nat×LI4×Nat
noncomputable def Zgx(a b:LI4)(g:Nat)(c:Bv):StateT Sa Sem (ForInStep Bv):=do
 let y <- Sg b (c.2.2.1-1)
 let z <- Sg a (c.2.1-1)
 let r <- lt' y z
 match r with
 |some t =>
  if t then do
   let e <- Sg a (c.2.1-1)
   if c.2.1-1==0 then pure (.done (some (Mm a b (c.2.2.2.1.push e) (c.2.1-1) c.2.2.1),c.2.1-1,c.2.2.1,c.2.2.2.1.push e,c.2.2.2.2.1+1,0))
   else if c.2.2.2.2.1+1 ≥ g then pure (.done (none,c.2.1-1,c.2.2.1,c.2.2.2.1.push e,c.2.2.2.2.1+1,0))
   else pure (.yield (none,c.2.1-1,c.2.2.1,c.2.2.2.1.push e,c.2.2.2.2.1+1,0))
  else do
   let e <- Sg b (c.2.2.1-1)
   if c.2.2.1-1==1 then pure (.done (some (Ju a b (c.2.2.2.1.push e) c.2.1 (c.2.2.1-1)),c.2.1,c.2.2.1-1,c.2.2.2.1.push e,0,c.2.2.2.2.2+1))
   else if c.2.2.2.2.2+1 ≥ g then pure (.done (none,c.2.1,c.2.2.1-1,c.2.2.2.1.push e,0,c.2.2.2.2.2+1))
   else pure (.yield (none,c.2.1,c.2.2.1-1,c.2.2.2.1.push e,0,c.2.2.2.2.2+1))
 |_=>pure (.done (some (Mm a b c.2.2.2.1 c.2.1 c.2.2.1),c.2.1,c.2.2.1,c.2.2.2.1,c.2.2.2.2.1,c.2.2.2.2.2))
noncomputable def EU(a b:LI4)(g:Nat)(c:Bv):StateT Sa Sem Bv:=forIn [0:a.size+b.size] c fun _ c=>Zgx a b g c
noncomputable def FU(a b:LI4)(c:Zp):StateT Sa Sem Zp:=forIn [0:a.size+b.size] c fun _ c=>if c.2.2.2.2.1>1 then TH a b c.2.2.2.1 c.2.1 c.2.2.1 (c.2.2.2.2.1-1) c.2.2.2.2.2.1 c.2.2.2.2.2.2 else TH a b c.2.2.2.1 c.2.1 c.2.2.1 c.2.2.2.2.1 c.2.2.2.2.2.1 c.2.2.2.2.2.2
noncomputable def Zgy(a b:LI4)(c:Dt):StateT Sa Sem (ForInStep Dt):=do
 let s <- EU a b c.2.2.2.2 (none,c.2.1,c.2.2.1,c.2.2.2.1,0,0)
 Break.runK.match_1 (fun _=>StateT Sa Sem (ForInStep Dt)) s.1 (fun r=>pure (.done (some r,s.2.1,s.2.2.1,s.2.2.2.1,c.2.2.2.2))) fun _=>do
  rule "list.sort.gallop"
  let s <- FU a b (none,s.2.1,s.2.2.1,s.2.2.2.1,c.2.2.2.2+1,s.2.2.2.2.1,s.2.2.2.2.2)
  Break.runK.match_1 (fun _=>StateT Sa Sem (ForInStep Dt)) s.1 (fun r=>pure (.done (some r,s.2.1,s.2.2.1,s.2.2.2.1,s.2.2.2.2.1))) fun _=>do
   N4 (s.2.2.2.2.1+1)
   pure (.yield (none,s.2.1,s.2.2.1,s.2.2.2.1,s.2.2.2.2.1+1))
noncomputable def Zgz(a b:LI4):StateT Sa Sem LI4:=do
 rule "list.sort.merge-hi"
 let e <- Sg a (a.size-1)
 if a.size-1==0 then pure (Mm a b #[e] (a.size-1) b.size)
 else if b.size==1 then pure (Ju a b #[e] (a.size-1) b.size)
 else do
  let t <- get
  let s <- forIn [0:a.size+b.size] ((none,a.size-1,b.size,#[e],gallopOf t):Dt) fun _ c=>Zgy a b c
  Break.runK.match_1 (fun _=>StateT Sa Sem LI4) s.1 (fun r=>pure r) fun _=>unsupported "internal:list.sort.merge-bound"
theorem Zg0(a b:LI4):ZJ a b=Zgz a b:=rfl
section
variable {st st1:Sa}{a b o:LI4}{i j p n g x y:Nat}
theorem Zlz(C:Pc prog w A s κ U R Ok)(hk:Ic st=κ)(M:Wd U R Ok a b)(J:Qm R a b st o i j st1){Q:Bv->Sa->Prop}(h1:∀r o i j x y Ba,Lj R a b st r Ba->Q (some r,i,j,o,x,y) Ba)(h2:∀o' i' j' x y Ba,Qm R a b st o' i' j' Ba->i'+j'+1<=i+j->Q (none,i',j',o',x,y) Ba) :
  wpS (Na prog w) A E s (EU a b g (none,i,j,o,x,y)) Q st1:=by
 have na:=M.na;refine Fi (I:=fun x' (c:Bv) (Ba:Sa)=>c.1=none/\Qm R a b st c.2.2.2.1 c.2.1 c.2.2.1 Ba/\c.2.1+c.2.2.1+x'<=i+j) ?_ ?_ ⟨rfl,J,Db _⟩
 ·rintro x' ⟨o1,i',j',o',u,v⟩ Ba _ hx' ⟨rfl,⟨m,hi,hj,gs,rfl⟩,hp⟩
  dsimp only at m hi hj hp;have lia:=m.hi;have ljb:=m.hj;rw[Oe] at lia ljb;obtain⟨y,hy,hyl,hym⟩:=Ql (show j'-1<b.size by lia);obtain⟨z,hz,hzl,hzm⟩:=Ql (show i'-1<a.size by lia);refine Vb (Ig hy (Vb (Ig hz (Vb (C5 C hk (M.ub _ hym) (M.ua _ hzm) (M.ok _ hym _ hzm) ?_)))));show wpS _ _ _ _ (if R y z=true then _ else _) _ _;cases hR:R y z with
  |true =>
   rw[Da rfl];refine Vb (Ig hz ?_);have m2:=M.ha1 m hi hzl (C.takeLe M.ub M.sb (by lia) hyl (M.ua _ hzm) (C.asy _ _ (M.ub _ hym) (M.ua _ hzm) hR));by_cases e1:i'-1=0
   ·rw[Da (by simpa using e1)]
    exact Bb (h1 _ _ _ _ _ _ _ (M.hfA m2 (.inl e1) ⟨gs,rfl⟩))
   ·rw[Qa (by simpa using e1)]
    have J2:Qm R a b st (o'.push z) (i'-1) j' (Hf st gs):=⟨m2,by lia,hj,gs,rfl⟩
    split
    ·exact Bb (h2 _ _ _ _ _ _ J2 (by dsimp only;lia))
    ·exact Bb ⟨rfl,J2,by dsimp only;lia⟩
  |false =>
   rw[Qa (by decide)];refine Vb (Ig hy ?_);have m2:=M.hb1 m (by lia) hyl (C.takeLe M.ua M.sa hi hzl (M.ub _ hym) hR);by_cases e1:j'-1=1
   ·rw[Da (by simpa using e1)]
    exact Bb (h1 _ _ _ _ _ _ _ (Wd.hfB C M m2 e1 ⟨gs,rfl⟩))
   ·rw[Qa (by simpa using e1)]
    have J2:Qm R a b st (o'.push y) i' (j'-1) (Hf st gs):=⟨m2,hi,by lia,gs,rfl⟩
    split
    ·exact Bb (h2 _ _ _ _ _ _ J2 (by dsimp only;lia))
    ·exact Bb ⟨rfl,J2,by dsimp only;lia⟩
 ·rintro⟨o1,i',j',o',u,v⟩ Ba ⟨e1,e2,e3⟩
  dsimp only at e1 e2 e3;subst e1;exact h2 _ _ _ _ _ _ e2 (by lia)
theorem Zl0(C:Pc prog w A s κ U R Ok)(hk:Ic st=κ)(M:Wd U R Ok a b)(J:Qm R a b st o i j st1)(hp:i+j+p+1<=n){Q:Zp->Sa->Prop}(h1:∀r o i j g x y Ba,Lj R a b st r Ba->Q (some r,i,j,o,g,x,y) Ba)(h2:∀o' i' j' g x y Ba,Qm R a b st o' i' j' Ba->i'+j'+p+1<=n->Q (none,i',j',o',g,x,y) Ba) :
  wpS (Na prog w) A E s (FU a b (none,i,j,o,g,x,y)) Q st1:=by
 refine Fi (I:=fun _ (c:Zp) (Ba:Sa)=>c.1=none/\Qm R a b st c.2.2.2.1 c.2.1 c.2.2.1 Ba/\c.2.1+c.2.2.1+p+1<=n) ?_ ?_ ⟨rfl,J,hp⟩
 ·rintro x' ⟨o1,i,j,o,g,u,v⟩ Ba _ hx' ⟨rfl,⟨m,hi,hj,hg⟩,hp⟩
  dsimp only at m hi hj hp
  split
  ·exact ZaU (p:=p) (n:=n) ⟨fun _ _ _ _ _ _ _ _ h=>h1 _ _ _ _ _ _ _ _ h,fun _ _ _ _ _ _ _ h hp=>h2 _ _ _ _ _ _ _ h hp,fun _ _ _ _ _ _ _ h hp=>⟨rfl,h,hp⟩⟩ C hk M m hi hj hp hg
  ·exact ZaU (p:=p) (n:=n) ⟨fun _ _ _ _ _ _ _ _ h=>h1 _ _ _ _ _ _ _ _ h,fun _ _ _ _ _ _ _ h hp=>h2 _ _ _ _ _ _ _ h hp,fun _ _ _ _ _ _ _ h hp=>⟨rfl,h,hp⟩⟩ C hk M m hi hj hp hg
 ·rintro⟨o1,i',j',o',g,u,v⟩ Ba ⟨e1,e2,e3⟩
  dsimp only at e1 e2 e3;subst e1;exact h2 _ _ _ _ _ _ _ e2 e3
end
theorem Zl4(C:Pc prog w A s κ U R Ok){st:Sa}{a b:LI4}{Q:LI4->Sa->Prop}(hk:Ic st=κ)(M:Wd U R Ok a b)(h:∀o Ba,Lj R a b st o Ba->Q o Ba):wpS (Na prog w) A E s (ZJ a b) Q st:=by
 rw[Zg0];have na:=M.na;have nb:=M.nb;obtain⟨al,hal,hall,halm⟩:=Ql (show a.size-1<a.size by lia);refine Vb (wpS_lift (Fn ⟨rfl, ?_⟩));refine Vb (Ig hal ?_);have m0:MH R a.toList b.toList (#[]:LI4).toList.reverse a.size b.size:=⟨by simp,List.Pairwise.nil,fun x _ y hy=>by simp at hy,fun x _ y hy=>by simp at hy,by simp,by simp⟩
 have m1:MH R a.toList b.toList (#[al]:LI4).toList.reverse (a.size-1) b.size:=M.ha1 m0 na hall fun y hy=>M.lst y (Cn hy) al hall;have g0:∃g,st=Hf st g:=⟨gallopOf st,rfl⟩
 by_cases c1:a.size-1=0
 ·rw[Da (by simpa using c1)]
  exact Bb (h _ _ (M.hfA m1 (.inl c1) g0))
 rw[Qa (by simpa using c1)];by_cases c2:b.size=1
 ·rw[Da (by simpa using c2)]
  exact Bb (h _ _ (Wd.hfB C M m1 c2 g0))
 rw[Qa (by simpa using c2)];refine Vb (Yl ?_);refine Vb (Wj (Fi (I:=fun x (c:Dt) (Ba:Sa)=>c.1=none/\Qm R a b st c.2.2.2.1 c.2.1 c.2.2.1 Ba/\c.2.1+c.2.2.1+x+1<=a.size+b.size)
  (Q:=fun(c:Dt) (Ba:Sa)=>∃r,c.1=some r/\Lj R a b st r Ba) ?step ?fin ⟨rfl,⟨m1,by dsimp only;lia,by dsimp only;lia,g0⟩,by dsimp only;lia⟩) ?post)
 case fin =>
  rintro⟨o1,i,j,o,g⟩ Ba ⟨h1,⟨h2,h3,h4,h5⟩,h6⟩;dsimp only at h3 h4 h6;lia
 case post =>
  rintro⟨o1,i,j,o,g⟩ Ba ⟨r,h1,h2⟩;dsimp only at h1;subst h1;exact Bb (h _ _ h2)
 case step =>
  rintro x ⟨o1,i,j,o,g⟩ st1 _ hx ⟨rfl,J,hm⟩;dsimp only at J hm;refine Vb (Zlz C hk M J (fun r o i j x y Ba h=>Bb ⟨r,rfl,h⟩) fun o' i' j' u v Ba J' hp=>?_);refine Vb (wpS_lift (Fn ⟨rfl, ?_⟩));refine Vb (Zl0 (p:=x+1) (n:=a.size+b.size) C hk M J' (by lia) (fun r o i j g x y Ba h=>Bb ⟨r,rfl,h⟩) fun o' i' j' g u v Ba J' hp=>?_);obtain⟨m,hi,hj,gs,rfl⟩:=J';exact Vb (LC (Bb ⟨rfl,⟨m,hi,hj,_,rfl⟩,hp⟩))
end
theorem ZhY(i:Nat):mergeAt' i=(do
  let s <- get
  let (some (c,n,p),some (d,m,_)):=((Qc s)[i]?,(Qc s)[i+1]?)|unsupported "internal:list.sort.pending"
  set (Ro s (((Qc s).setIfInBounds i (c,n+m,p)).eraseIdxIfInBounds (i+1)))
  let some k <- Er false (<- Sg (Oa s) d) (Oa s) c n 0|return false
  let (c,n):=(c+k,n-k)
  if n==0 then return true
  let some m <- Er true (<- Sg (Oa s) (c+n-1)) (Oa s) d m (m-1)|return false
  if m==0 then return true
  let x:=(Oa s).extract c d
  let y:=(Oa s).extract d (d+m)
  let r <- if n<=m then JJ x y else ZJ x y
  modify fun s=>Cf s (r.toList.zipIdx.foldl (fun a (p,j)=>a.setIfInBounds (c+j) p) (Oa s))
  return (Vj (<- get)).isNone):=rfl
section
variable {prog:Bc}{w:Jc}{A:Pd}{E:Va->Ga->Prop}{s:Ga}{κ:Pi}{U:Aa->Prop}{R:Aa->Aa->Bool}{Ok:Aa->Aa->Prop}
theorem Zbc:∀(r:List Aa) (c:Nat) (X:LI4) (n:Nat),c+n+r.length<=X.size->((r.zipIdx n).foldl (fun a (p:Aa×Nat)=>a.setIfInBounds (c+p.2) p.1) X).toList=X.toList.take (c+n)++r++X.toList.drop (c+n+r.length)
 |[],c,X,n,h=>by simp
 |x::r,c,X,n,h=>by
  simp only[Ci] at h;rw[List.zipIdx_cons,List.foldl_cons];have ih:=Zbc r c (X.setIfInBounds (c+n) x) (n+1) (by rw[Array.size_setIfInBounds];lia);rw[ih,Zbi];have hl:c+n<X.toList.length:=by rw[Oe];lia
  rw[show c+(n+1)=c+n+1 by lia];have e1:(X.toList.set (c+n) x).take (c+n+1)=X.toList.take (c+n)++[x]:=by
   rw[List.take_set,List.take_succ_eq_append_getElem hl,IN _ _ (by rw[Ch];lia)];rw[show c+n-(X.toList.take (c+n)).length=0 by rw[Ch,Oe];lia];rfl
  have e2:(X.toList.set (c+n) x).drop (c+n+1+r.length)=X.toList.drop (c+n+1+r.length):=List.drop_set_of_lt (by lia);rw[e1,e2];simp only[Ci,Qf,DD,Pu,Xs];rw[show c+n+(r.length+1)=c+n+1+r.length by lia]
theorem HX(C:Pc prog w A s κ U R Ok)(left:Bool)(hP:∀t,t<n->X[c+t]?=P[t]?)(hn:P.length=n)(ul:∀y∈P,U y)(hs:Sc R P)(uk:U key)(okk:∀y∈P,if left=true then Ok y key else Ok key y):
  Yq U R Ok left key X c n (fun t=>if left=true then R (P.getD t (.none,.none)) key else !R key (P.getD t (.none,.none))):=by
 have get:∀t,t<n->P[t]?=some (P.getD t (.none,.none)):=fun t ht=>by
  rw[Cb,Yc (by lia)];rfl
 refine⟨uk,fun t ht=>⟨_,by rw[hP t ht,get t ht],ul _ (Zd (get t ht)),okk _ (Zd (get t ht)),rfl⟩,fun t u htu hu h=>?_⟩;have hu':=get u hu;have Ad:=get t (by lia);have h2:=Sc.le C ul hs htu Ad hu';have u1:=ul _ (Zd Ad);have u2:=ul _ (Zd hu');cases left with
 |false =>
  have h:(!R key (P.getD u (.none,.none)))=true:=h;show (!R key (P.getD t (.none,.none)))=true;rw[C.tr _ _ key u1 u2 uk h2 (by simpa using h)];rfl
 |true =>
  have h:R (P.getD u (.none,.none)) key=true:=h;show R (P.getD t (.none,.none)) key=true;cases hc:R (P.getD t (.none,.none)) key with
  |true=>rfl
  |false=>rw[C.tr key _ _ uk u1 u2 hc h2] at h;cases h
theorem Zl7{σ:Type}{M:Model}{v:σ}{Q:PUnit->σ->Prop}{st:σ}(h:Q ⟨⟩ v):wpS M A E s (set v:StateT σ Sem PUnit) Q st:=by
 unfold wpS;rw[StateT.run_set];exact Ib ⟨rfl,h⟩
theorem Zl3(C:Pc prog w A s κ U R Ok){st:Sa}{i c n p d m p2:Nat}{pre P Y post:List Aa}{Q:Bool->Sa->Prop}(hk:Ic st=κ)(hf:Vj st=none)(h1:(Qc st)[i]?=some (c,n,p))(h2:(Qc st)[i+1]?=some (d,m,p2))(hX:(Oa st).toList=pre++(P++(Y++post)))(lp:pre.length=c)(lP:P.length=n)(lY:Y.length=m)(hd:d=c+n)(n0:0<n)(m0:0<m)(uP:∀x∈P,U x)(uY:∀x∈Y,U x)(sP:Sc R P)(sY:Sc R Y)(oPY:∀y∈Y,∀x∈P,Ok y x)(h:∀Ba W,Ic Ba=κ->Vj Ba=none->Qc Ba=((Qc st).setIfInBounds i (c,n+m,p)).eraseIdxIfInBounds (i+1)->(Oa Ba).toList=pre++(W++post)->Sc R W->W.Perm (P++Y)->Q true Ba) :
  wpS (Na prog w) A E s (mergeAt' i) Q st:=by
 rw[ZhY];refine Vb (Yl ?_);rw[h1,h2];dsimp only;have size0:(Oa st).size=c+(n+(m+post.length)):=by
  have:=Ef List.length hX;rw[Oe] at this;rw[this];simp[lp,lP,lY]
 have gP:∀t,t<n->(Oa st)[c+t]?=P[t]?:=fun t ht=>by
  rw[<- Ai,hX,Lg (by lia),lp,show c+t-c=t by lia,Lh (by lia)]
 have gY:∀t,t<m->(Oa st)[d+t]?=Y[t]?:=fun t ht=>by
  rw[<- Ai,hX,Lg (by lia),lp,Lg (by lia),lP,show d+t-c-n=t by lia,Lh (by lia)]
 refine Vb (Zl7 ?_);have y0l:Y[0]?=some (Y.getD 0 (.none,.none)):=by rw[Cb,Yc (by lia)];rfl
 generalize Y.getD 0 (.none,.none)=y0 at y0l;have uy0:=uY y0 (Zd y0l);refine Vb (Ig (x:=y0) (by have:=gY 0 m0;rw[Nat.add_zero] at this;rw[this,y0l]) (Vb (Az C (show Ic (Ro st _)=κ from hk) (HX C false gP lP uP sP uy0 (fun x hx=>by rw[Qa (by decide)];exact oPY _ (Zd y0l) x hx)) n0 fun k p1 p2 p3=>?_)));dsimp only at p2 p3 ⊢;have gd:∀{l:List Aa}{t:Nat}{x:Aa},l[t]?=some x->l.getD t (.none,.none)=x:=fun {l t x} h=>by rw[Cb,h];rfl
 have pk:∀x∈P.take k,R y0 x=false:=fun x hx=>by
  obtain⟨t,ht,hx⟩:=D3 hx;have:=p2 t ht;rw[gd hx] at this;simpa using this
 have pk2:∀t x,k<=t->P[t]?=some x->R y0 x=true:=fun t x ht hx=>by
  have hl:=(Cd.mp hx).1;have:=p3 t ht (by lia);rw[gd hx] at this;simpa using this
 by_cases e1:n-k=0
 ·rw[Da (by simpa using e1)]
  refine Bb (h _ (P++Y) hk hf rfl (by rw[hX,Qf]) (Eh.mpr ⟨sP,sY,fun x hx y hy=>?_⟩) (List.Perm.refl _));have:=C.dropLe uY sY y0l (uP x hx) (pk x (by rw[Yk (by lia)];exact hx));rw[Su] at this;exact this y hy
 rw[Qa (by simpa using e1)];have ll:P[n-1]?=some (P.getD (n-1) (.none,.none)):=by rw[Cb,Yc (by lia)];rfl
 generalize P.getD (n-1) (.none,.none)=l at ll;have ul:=uP l (Zd ll);refine Vb (Ig (x:=l) (by have:=gP (n-1) (by lia);rw[show c+k+(n-k)-1=c+(n-1) by lia,this,ll]) (Vb (Az C (show Ic (Ro st _)=κ from hk) (HX C true gY lY uY sY ul (fun x hx=>by rw[Da rfl];exact oPY x hx _ (Zd ll))) (by lia) fun k2 r1 r2 r3=>?_)));dsimp only at r2 r3 ⊢;have yk:∀x∈Y.take k2,R x l=true:=fun x hx=>by
  obtain⟨t,ht,hx⟩:=D3 hx;have:=r2 t ht;rw[gd hx] at this;simpa using this
 have yk2:∀x∈Y.drop k2,R x l=false:=fun x hx=>by
  obtain⟨t,hx⟩:=F8 hx;have hl:=(Cd.mp hx).1;have:=r3 (k2+t) (by lia) (by lia);rw[gd hx] at this;simpa using this
 have pl:∀v,U v->R v l=false->∀x∈P,R v x=false:=fun v uv hv x hx=>C.takeLe uP sP n0 ll uv hv x (by rw[Yk (by lia)];exact hx);by_cases e2:k2=0
 ·rw[Da (by simpa using e2)]
  subst e2;rw[Su] at yk2;exact Bb (h _ (P++Y) hk hf rfl (by rw[hX,Qf]) (Eh.mpr ⟨sP,sY,fun x hx y hy=>pl y (uY y hy) (yk2 y hy) x hx⟩) (List.Perm.refl _))
 rw[Qa (by simpa using e2)];have ex:((Oa st).extract (c+k) d).toList=P.drop k:=by
  refine Vn fun t=>?_;rw[N5,Ss,Fj,Rj,Rj,Ai];by_cases ht:t<d-(c+k)
  ·rw[Da ht,show c+k+t=c+(k+t) by lia,gP (k+t) (by lia)]
  ·rw[Qa ht,Bi (by lia)]
 have ey:((Oa st).extract d (d+k2)).toList=Y.take k2:=by
  refine Vn fun t=>?_;rw[N5,Ss,Fj,Rj,Fj,Ai];by_cases ht:t<k2
  ·rw[Da (by lia),Da ht,gY t (by lia)]
  ·rw[Qa (by lia),Qa ht]
 have sx:((Oa st).extract (c+k) d).size=n-k:=by
  have:=Ef List.length ex;rw[Oe,Ws] at this;lia
 have sy:((Oa st).extract d (d+k2)).size=k2:=by
  have:=Ef List.length ey;rw[Oe,Ch] at this;lia
 have MM:Wd U R Ok ((Oa st).extract (c+k) d) ((Oa st).extract d (d+k2)):=by
  refine⟨?_, ?_, ?_, ?_, ?_,by lia,by lia,fun x y hx hy=>?_,fun x hx y hy=>?_⟩
  ·rw[ex];exact fun x hx=>uP x (Bn hx)
  ·rw[ey];exact fun x hx=>uY x (Cn hx)
  ·rw[ex,ey];exact fun x hx y hy=>oPY x (Cn hx) y (Bn hy)
  ·rw[ex];exact sP.drop k
  ·rw[ey];exact sY.take k2
  ·rw[ey,Fj,Da (by lia),y0l] at hx
   cases hx;rw[ex,Rj,Nat.add_zero] at hy;exact C.asy _ _ uy0 (uP y (Zd hy)) (pk2 k y (Db _) hy)
  ·rw[ey] at hx
   rw[ex,Rj,sx,show k+(n-k-1)=n-1 by lia,ll] at hy;cases hy;exact C.asy _ _ (uY x (Cn hx)) ul (yk x hx)
 have fin:∀r st2,Lj R ((Oa st).extract (c+k) d) ((Oa st).extract d (d+k2)) (Ro st (((Qc st).setIfInBounds i (c,n+m,p)).eraseIdxIfInBounds (i+1))) r st2 ->
   wpS (Na prog w) A E s (do
    modify fun s=>Cf s (r.toList.zipIdx.foldl (fun a (p,j)=>a.setIfInBounds (c+k+j) p) (Oa s))
    return (Vj (<- get)).isNone) Q st2:=by
  rintro r st2 ⟨q1,q2,g,rfl⟩;rw[ex,ey] at q2;have lr:r.toList.length=n-k+k2:=by
   rw[q2.length_eq,Gj,Ws,Ch];lia
  refine Vb (So (Vb (Yl (Bb ?_))));show Q ((Vj st).isNone) _;rw[hf];have hw:=Zbc r.toList (c+k) (Oa st) 0 (by lia);have memr:∀x∈r.toList,(x∈P.drop k\/x∈Y.take k2):=fun x hx=>Nc.mp (q2.mem_iff.mp hx);refine h _ (P.take k++(r.toList++Y.drop k2)) hk hf rfl ?_ ?_ ?_
  ·show (r.toList.zipIdx.foldl (fun a (p:Aa×Nat)=>a.setIfInBounds (c+k+p.2) p.1) (Oa st)).toList=_
   rw[hw,Nat.add_zero,hX,lr];have d1:(pre++(P++(Y++post))).take (c+k)=pre++P.take k:=by
    rw[List.take_append,Yk (by lia),lp,show c+k-c=k by lia,KN (by lia)]
   have d2:(pre++(P++(Y++post))).drop (c+k+(n-k+k2))=Y.drop k2++post:=by
    rw[List.drop_append,TC (by lia),Xs,lp,List.drop_append,TC (by lia),Xs,lP,List.drop_append_of_le_length (by lia)];congr 2;lia
   rw[d1,d2];simp only[Qf]
  ·refine Eh.mpr ⟨sP.take k,Eh.mpr ⟨q1,sY.drop k2,fun x hx y hy=>?_⟩,fun x hx y hy=>?_⟩
   ·rcases memr x hx with z|z
    ·exact pl y (uY y (Bn hy)) (yk2 y hy) x (Bn z)
    ·have sd:=sY
     rw[<- Oi k2 Y] at sd;exact(Eh.mp sd).2.2 x z y hy
   ·have ux:=uP x (Cn hx)
    have hyY:∀y∈Y,R y x=false:=fun y hy=>by
     have:=C.dropLe uY sY y0l ux (pk x hx);rw[Su] at this;exact this y hy
    rcases Nc.mp hy with z|z
    ·rcases memr y z with z|z
     ·have sd:=sP
      rw[<- Oi k P] at sd;exact(Eh.mp sd).2.2 x hx y z
     ·exact hyY y (Cn z)
    ·exact hyY y (Bn z)
  ·have p1:(P.take k++(r.toList++Y.drop k2)).Perm (P.take k++((P.drop k++Y.take k2)++Y.drop k2)):=List.Perm.append_left _ (q2.append_right _)
   refine p1.trans ?_;rw[Qf,Oi,<- Qf,Oi]
 by_cases e3:n-k<=k2
 ·rw[Da e3]
  exact Vb (Zl5 C (show Ic (Ro st _)=κ from hk) MM fin)
 ·rw[Qa e3]
  exact Vb (Zl4 C (show Ic (Ro st _)=κ from hk) MM fin)
end
noncomputable def gA(X:LI4)(i:Nat):Aa:=X.getD i (.none,.none)
theorem Jo(h:i<X.size): X[i]?=some (gA X i):=by simp[gA,Array.getD,h]
theorem Iw(h:X[i]?=some x): gA X i=x:=by
 have hi:i<X.size:=by
  rcases Nat.lt_or_ge i X.size with z|z
  ·exact z
  ·rw[NC z] at h;cases h
 rw[Jo hi] at h;exact Option.some.inj h
theorem Dr(h:X[i]?=Y[j]?): gA X i=gA Y j:=by
 simp only[gA,Array.getD_eq_getD_getElem?,h]
def Up(R:Aa->Aa->Bool)(X:LI4)(lo m:Nat):Prop:=∀i j,i<j->j<m->R (gA X (lo+j)) (gA X (lo+i))=false
def Xo(R:Aa->Aa->Bool)(X:LI4)(lo m:Nat):Prop:=∀i j,i<j->j<m->R (gA X (lo+i)) (gA X (lo+j))=false
structure Ud(X Y:LI4)(lo m:Nat):Prop where
 perm:Y.Perm X
 out:∀k,k<lo\/lo+m<=k->Y[k]?=X[k]?
theorem Ud.refl(X:LI4)(lo m:Nat):Ud X X lo m:=⟨Array.Perm.refl _,fun _ _=>rfl⟩
theorem Ud.size{X Y:LI4}{lo m:Nat}(h:Ud X Y lo m):Y.size=X.size:=h.perm.size_eq
theorem Ud.trans{lo m: Nat}(h:Ud X Y lo m)(g:Ud Y Z lo m): Ud X Z lo m:=⟨g.perm.trans h.perm,fun k hk=>(g.out k hk).trans (h.out k hk)⟩
theorem Ud.wide{lo lo' m m': Nat}(h:Ud X Y lo' m')(h1:lo<=lo')(h2:lo'+m'<=lo+m): Ud X Y lo m:=⟨h.perm,fun k hk=>h.out k (by lia)⟩
theorem Ud.back{X Y:LI4}{lo m q:Nat}(h:Ud X Y lo m)(h1:lo<=q)(h2:q<lo+m)(hq:q<Y.size):∃q',lo<=q'/\q'<lo+m/\q'<X.size/\gA Y q=gA X q':=by
 have hs:=h.size;have eX:X.toList=X.toList.take lo++((X.toList.drop lo).take m++(X.toList.drop lo).drop m):=by rw[Oi,Oi]
 have eY:Y.toList=Y.toList.take lo++((Y.toList.drop lo).take m++(Y.toList.drop lo).drop m):=by rw[Oi,Oi]
 have t1:Y.toList.take lo=X.toList.take lo:=by
  refine Vn fun i=>?_;rw[Fj,Fj]
  split
  ·rw[Ai,Ai];exact h.out i (.inl (by lia))
  ·rfl
 have t2:(Y.toList.drop lo).drop m=(X.toList.drop lo).drop m:=by
  refine Vn fun i=>?_;rw[SC,SC,Rj,Rj,Ai,Ai];exact h.out _ (.inr (by lia))
 have p:Y.toList.Perm X.toList:=h.perm.toList;rw[eX,eY,t1,t2,List.perm_append_left_iff,List.perm_append_right_iff] at p;have hm:gA Y q∈(Y.toList.drop lo).take m:=by
  refine Zd (i:=q-lo) ?_;rw[Fj,Da (by lia),Rj,show lo+(q-lo)=q by lia,Ai];exact Jo hq
 obtain⟨t,ht⟩:=Ej (p.mem_iff.mp hm);rw[Fj] at ht
 split at ht
 ·rename_i c
  rw[Rj,Ai] at ht;have hl:lo+t<X.size:=by
   rcases Nat.lt_or_ge (lo+t) X.size with z|z
   ·exact z
   ·rw[NC z] at ht;cases ht
  exact⟨lo+t,by lia,by lia,hl,(Iw ht).symm⟩
 ·cases ht
def Cm(Ok:Aa->Aa->Prop)(X:LI4)(e:Nat):Prop:=∀p q,p<e->e<=q->q<X.size->Ok (gA X q) (gA X p)
theorem Ud.place{X Y:LI4}{lo m q:Nat}(h:Ud X Y lo m)(hq:q<Y.size):∃q',q'<X.size/\gA Y q=gA X q'/\∀e,e<=lo\/lo+m<=e->(e<=q ↔ e<=q'):=by
 by_cases c:lo<=q/\q<lo+m
 ·obtain⟨q',a,b,d,e⟩:=h.back c.1 c.2 hq
  exact⟨q',d,e,fun e he=>by lia⟩
 ·exact⟨q,by rw[<- h.size];exact hq,Dr (h.out q (by lia)),fun _ _=>Iff.rfl⟩
theorem Ud.sep{Ok: Aa->Aa->Prop}{lo m e: Nat}(h:Ud X Y lo m)(he:e<=lo\/lo+m<=e)(hX:Cm Ok X e): Cm Ok Y e:=fun p q hp hq hs=>by
 obtain⟨q',a1,a2,a3⟩:=h.place hs;obtain⟨p',b1,b2,b3⟩:=h.place (q:=p) (by lia);rw[a2,b2];have:=b3 e he;exact hX p' q' (by lia) ((a3 e he).mp hq) a1
section
variable {prog:Bc}{w:Jc}{A:Pd}{E:Va->Ga->Prop}{s:Ga}{κ:Pi}{U:Aa->Prop}{R:Aa->Aa->Bool}{Ok:Aa->Aa->Prop}
def Kj(U:Aa->Prop)(X:LI4):Prop:=∀i,i<X.size->U (gA X i)
theorem Kj.stir{X: LI4}{lo m: Nat}(h:Kj U X)(t:Ud X Y lo m): Kj U Y:=fun i hi=>by
 have hm:gA Y i∈Y:=by
  have:=Jo hi;exact Array.mem_of_getElem? this
 obtain⟨j,hj⟩:=Array.getElem?_of_mem ((Array.Perm.mem_iff t.perm).mp hm);have hjs:j<X.size:=by
  rcases Nat.lt_or_ge j X.size with z|z
  ·exact z
  ·rw[NC z] at hj;cases hj
 rw[<- Iw hj];exact h j hjs
theorem Bz(C:Pc prog w A s κ U R Ok){st:Sa}{i j:Nat}{Q:Option Bool->Sa->Prop}(hk:Ic st=κ)(hU:Kj U (Oa st))(hi:i<(Oa st).size)(hj:j<(Oa st).size)(ok:Ok (gA (Oa st) i) (gA (Oa st) j))(h:Q (some (R (gA (Oa st) i) (gA (Oa st) j))) st) :
  wpS (Na prog w) A E s (ltAt' i j) Q st:=by
 rw[ltAt'_eq];refine Vb (Yl ?_);exact Vb (Ig (Jo hi) (Vb (Ig (Jo hj) (C5 C hk (hU i hi) (hU j hj) ok h))))
theorem Up.more(C:Pc prog w A s κ U R Ok){X:LI4}{lo n:Nat}(hU:Kj U X)(hs:lo+n<X.size)(h:Up R X lo n)(hl:n=0\/R (gA X (lo+n)) (gA X (lo+n-1))=false):Up R X lo (n+1):=fun i j hij hj=>by
 by_cases e:j<n
 ·exact h i j hij e
 ·obtain rfl:j=n:=by lia
  rcases hl with hl|hl
  ·lia
  ·by_cases e2:i=j-1
   ·subst e2;rw[show lo+(j-1)=lo+j-1 by lia];exact hl
   ·have h2:=h i (j-1) (by lia) (by lia)
    rw[show lo+(j-1)=lo+j-1 by lia] at h2;exact C.tr _ _ _ (hU _ (by lia)) (hU _ (by lia)) (hU _ (by lia)) h2 hl
theorem Zlx(C:Pc prog w A s κ U R Ok){st:Sa}{lo n ok:Nat}{Q:Bool->Sa->Prop}(hk:Ic st=κ)(hU:Kj U (Oa st))(hn:lo+n<=(Oa st).size)(hok:ok<=n)(n1:1<=n)(hs:Up R (Oa st) lo ok)(hO:∀e,lo+ok<=e->Cm Ok (Oa st) e)(h:∀Y,Ud (Oa st) Y lo n->Up R Y lo n->Q true (Cf st Y)):wpS (Na prog w) A E s (binarySort' lo n ok) Q st:=by
 rw[binarySort'_eq];refine Vb (Wj (Fi
  (I:=fun k (c:Option Bool×Unit) (Ba:Sa)=>c.1=none/\∃Y,Ba=Cf st Y/\Ud (Oa st) Y lo k/\Up R Y lo k)
  (Q:=fun(c:Option Bool×Unit) (Ba:Sa)=>c.1=none/\∃Y,Ba=Cf st Y/\Ud (Oa st) Y lo n/\Up R Y lo n) ?step ?fin ?ini) ?post)
 case ini =>
  refine⟨rfl,Oa st,rfl,Ud.refl _ _ _,fun i j hij hj=>?_⟩;by_cases e:1<=ok
  ·exact hs i j hij (by lia)
  ·lia
 case fin =>
  rintro⟨o,u⟩ Ba ⟨h1,Y,h2,h3,h4⟩;exact⟨h1,Y,h2,h3.wide (Db _) (by lia),fun i j hij hj=>h4 i j hij (by lia)⟩
 case post =>
  rintro⟨o,u⟩ Ba ⟨h1,Y,rfl,h3,h4⟩;dsimp only at h1;subst h1;exact Bb (h Y h3 h4)
 case step =>
  rintro k ⟨o,u⟩ Ba hk1 hk2 ⟨h1,Y,rfl,h3,h4⟩;dsimp only at h1;subst h1;have hYU:=hU.stir h3;have hYs:=h3.size;refine Vb (Wj (Fi
   (I:=fun x (c:Option Bool×Nat×Nat) (Ba:Sa)=>c.1=none/\Ba=Cf st Y/\c.2.1<=c.2.2/\c.2.2<=k/\(∀i,i<c.2.1->R (gA Y (lo+k)) (gA Y (lo+i))=false)/\(∀i,c.2.2<=i->i<k->R (gA Y (lo+k)) (gA Y (lo+i))=true)/\c.2.2-c.2.1<=k-x)
   (Q:=fun(c:Option Bool×Nat×Nat) (Ba:Sa)=>c.1=none/\Ba=Cf st Y/\c.2.1=c.2.2/\c.2.2<=k/\(∀i,i<c.2.1->R (gA Y (lo+k)) (gA Y (lo+i))=false)/\(∀i,c.2.2<=i->i<k->R (gA Y (lo+k)) (gA Y (lo+i))=true)) ?step1 ?fin1
   ⟨rfl,rfl,Ng _,Db _,fun i hi=>Eb hi (Nat.not_lt_zero _),fun i h1 h2=>Eb h1 (by dsimp only;lia),by dsimp only;lia⟩) ?post1)
  case fin1 =>
   rintro⟨o,l,r⟩ Ba ⟨rfl,q0,q1,q2,q3,q4,q5⟩;dsimp only at q1 q2 q3 q4 q5 ⊢;exact⟨rfl,q0,by lia,q2,q3,q4⟩
  case step1 =>
   rintro x ⟨o,l,r⟩ Ba _ hx ⟨rfl,rfl,q1,q2,q3,q4,q5⟩;dsimp only at q1 q2 q3 q4 q5 ⊢;by_cases hlr:l ≥ r
   ·rw[Da hlr]
    exact Bb ⟨rfl,rfl,by dsimp only;lia,q2,q3,q4⟩
   ·rw[Qa hlr]
    refine Vb (Bz C (show Ic (Cf st Y)=κ from hk) hYU (show lo+k<Y.size by lia) (show lo+(l+r)/2<Y.size by lia) (h3.sep (.inr (Db _)) (hO (lo+k) (by lia)) _ _ (by lia) (Db _) (by lia)) ?_);dsimp only;show wpS _ _ _ _ (if R (gA Y (lo+k)) (gA Y (lo+(l+r)/2))=true then _ else _) _ _;cases hm:R (gA Y (lo+k)) (gA Y (lo+(l+r)/2)) with
    |true =>
     rw[Da rfl];refine Bb ⟨rfl,rfl,by dsimp only;lia,by dsimp only;lia,q3,fun i i1 i2=>?_,by dsimp only;lia⟩;dsimp only at i1;by_cases e:i=(l+r)/2
     ·subst e;exact hm
     ·cases hc:R (gA Y (lo+k)) (gA Y (lo+i)) with
      |true=>rfl
      |false =>
       have:=h4 ((l+r)/2) i (by lia) i2;rw[C.tr _ _ _ (hYU _ (by lia)) (hYU _ (by lia)) (hYU _ (by lia)) this hc] at hm;cases hm
    |false =>
     rw[Qa (by decide)];refine Bb ⟨rfl,rfl,by dsimp only;lia,q2,fun i i1=>?_,q4,by dsimp only;lia⟩;dsimp only at i1;by_cases e:i=(l+r)/2
     ·subst e;exact hm
     ·have:=h4 i ((l+r)/2) (by lia) (by lia)
      exact C.tr _ _ _ (hYU _ (by lia)) (hYU _ (by lia)) (hYU _ (by lia)) this hm
  case post1 =>
   rintro⟨o,l,r⟩ Ba ⟨rfl,rfl,q1,q2,q3,q4⟩;dsimp only at q1 q2 q3 q4 ⊢;subst q1;rw[moveDown'_eq];refine Vb (So (Bb ⟨rfl,bubble Y (lo+k) (lo+k-(lo+l)),rfl, ?_, ?_⟩))
   ·refine(h3.wide (Db _) (by lia)).trans ⟨bubble_perm _ _ _,fun t ht=>?_⟩
    rw[getElem?_bubble (show lo+k<Y.size by lia) _ (by lia),Qa (by lia),Qa (by lia)]
   ·have bg:∀t,t<=k->gA (bubble Y (lo+k) (lo+k-(lo+l))) (lo+t)=if t=l then gA Y (lo+k) else if l<t then gA Y (lo+t-1) else gA Y (lo+t):=fun t ht=>by
     have e:=getElem?_bubble (show lo+k<Y.size by lia) (lo+k-(lo+l)) (by lia) (lo+t);by_cases e1:t=l
     ·rw[Da e1];rw[Da (by lia)] at e;exact Dr e
     ·rw[Qa e1];rw[Qa (by lia)] at e
      by_cases e2:l<t
      ·rw[Da e2];rw[Da (by lia)] at e;exact Dr e
      ·rw[Qa e2];rw[Qa (by lia)] at e;exact Dr e
    intro i j hij hj;rw[bg i (by lia),bg j (by lia)];by_cases a1:j=l
    ·rw[Da a1,Qa (by lia),Qa (by lia)]
     exact q3 i (by lia)
    ·rw[Qa a1]
     by_cases a2:l<j
     ·rw[Da a2]
      by_cases b1:i=l
      ·rw[Da b1,show lo+j-1=lo+(j-1) by lia]
       exact C.asy _ _ (hYU _ (by lia)) (hYU _ (by lia)) (q4 (j-1) (by lia) (by lia))
      ·rw[Qa b1]
       by_cases b2:l<i
       ·rw[Da b2,show lo+j-1=lo+(j-1) by lia,show lo+i-1=lo+(i-1) by lia]
        exact h4 (i-1) (j-1) (by lia) (by lia)
       ·rw[Qa b2,show lo+j-1=lo+(j-1) by lia]
        exact h4 i (j-1) (by lia) (by lia)
     ·rw[Qa a2,Qa (by lia),Qa (by lia)]
      exact h4 i j hij (by lia)
variable {R0:Aa->Aa->Bool}
noncomputable abbrev Qj(X:LI4)(i j:Nat):LI4:=mirror X i j ((j-i)/2)
theorem KC{st:Sa}{i j:Nat}{Q:Unit->Sa->Prop}(h:Q () (Cf st (Qj (Oa st) i j))):wpS (Na prog w) A E s (L5 i j) Q st:=by
 rw[reverseSlice'_eq];exact So h
theorem VJ(hij:i<=j)(hj:j<=X.size): Ud X (Qj X i j) i (j-i):=
 ⟨mirror_perm _ _ _ _,fun k hk=>by rw[getElem?_mirror_all hj,Qa (by lia)]⟩
theorem Tp(hj:j<=X.size)(h1:i<=k)(h2:k<j): gA (Qj X i j) k=gA X (i+j-1-k):=by
 refine Dr ?_;rw[getElem?_mirror_all hj,Da ⟨h1,h2⟩]
theorem E3(hj:j<=X.size)(h:k<i\/j<=k): gA (Qj X i j) k=gA X k:=by
 refine Dr ?_;rw[getElem?_mirror_all hj,Qa (by lia)]
def Eqv(R:Aa->Aa->Bool)(X:LI4)(lo a b:Nat):Prop:=∀i j,a<=i->i<b->a<=j->j<b->R (gA X (lo+i)) (gA X (lo+j))=false
theorem Xo.up{X:LI4}{lo n:Nat}(hs:lo+n<=X.size)(h:Xo R X lo n):Up R (Qj X lo (lo+n)) lo n:=fun i j hij hj=>by
 rw[Tp hs (by lia) (by lia),Tp hs (by lia) (by lia),show lo+(lo+n)-1-(lo+j)=lo+(n-1-j) by lia,show lo+(lo+n)-1-(lo+i)=lo+(n-1-i) by lia];exact h _ _ (by lia) (by lia)
structure B0(R0 R:Aa->Aa->Bool)(Ok:Aa->Aa->Prop):Prop where
 up:∀x y,R0 x y=true->R x y=true
 ok:∀x y,Ok x y->R x y=R0 x y
structure Vm(R0 R:Aa->Aa->Bool)(X Y:LI4)(lo q k:Nat):Prop where
 t:Ud X Y lo q
 d:Xo R Y lo q
 e:Eqv R0 Y lo q k
 st:∀i j,i<q->q<=j->j<k->R0 (gA Y (lo+j)) (gA Y (lo+i))=true
 qk:q<k
theorem Vm.turn(C:Pc prog w A s κ U R Ok)(L:B0 R0 R Ok){X Y:LI4}{lo q k n:Nat}(F:Vm R0 R X Y lo q k)(hU:Kj U X)(hs:lo+k<=X.size)(hO:∀e,lo+n<=e->Cm Ok X e)(hq:n<=q) :
  Ud X (Qj Y (lo+q) (lo+k)) lo k/\Xo R (Qj Y (lo+q) (lo+k)) lo k:=by
 have sz:=F.t.size;have uY:=hU.stir F.t;have qk:=F.qk;have hsY:lo+k<=Y.size:=by lia
 refine⟨(F.t.wide (Db _) (by lia)).trans ((VJ (by lia) hsY).wide (by lia) (by lia)),fun i j hij hj=>?_⟩;by_cases a:i<q
 ·rw[E3 hsY (.inl (by lia))]
  by_cases b:j<q
  ·rw[E3 hsY (.inl (by lia))]
   exact F.d i j hij b
  ·rw[Tp hsY (by lia) (by lia),show lo+q+(lo+k)-1-(lo+j)=lo+(q+k-1-j) by lia]
   exact C.asy _ _ (uY _ (by lia)) (uY _ (by lia)) (L.up _ _ (F.st i (q+k-1-j) a (by lia) (by lia)))
 ·rw[Tp hsY (by lia) (by lia),Tp hsY (by lia) (by lia),show lo+q+(lo+k)-1-(lo+j)=lo+(q+k-1-j) by lia,show lo+q+(lo+k)-1-(lo+i)=lo+(q+k-1-i) by lia]
  have ok:=F.t.sep (e:=lo+(q+k-1-i)) (.inr (by lia)) (hO _ (by lia)) (lo+(q+k-1-j)) (lo+(q+k-1-i)) (by lia) (Db _) (by lia);rw[L.ok _ _ ok];exact F.e _ _ (by lia) (by lia) (by lia) (by lia)
theorem Vm.plain(C:Pc prog w A s κ U R Ok)(L:B0 R0 R Ok){X: LI4}{lo q: Nat}(F:Vm R0 R X Y lo q (q+1))(hU:Kj U X)(hs:lo+(q+1)<=X.size): Ud X Y lo (q+1)/\Xo R Y lo (q+1):=by
 have sz:=F.t.size;have uY:=hU.stir F.t;refine⟨F.t.wide (Db _) (by lia),fun i j hij hj=>?_⟩;by_cases b:j<q
 ·exact F.d i j hij b
 ·exact C.asy _ _ (uY _ (by lia)) (uY _ (by lia)) (L.up _ _ (F.st i j (by lia) (by lia) hj))
theorem Vm.above(C0:Pc prog w A s κ U R0 (fun _ _=>True)){X: LI4}{lo q k: Nat}(F:Vm R0 R X Y lo q k)(hU:Kj U X)(hs:lo+k<=X.size)(i:Nat)(hi:i<k): R0 (gA Y (lo+i)) (gA Y (lo+(k-1)))=false:=by
 have sz:=F.t.size;have uY:=hU.stir F.t;have qk:=F.qk;by_cases a:i<q
 ·exact C0.asy _ _ (uY _ (by lia)) (uY _ (by lia)) (F.st i (k-1) a (by lia) (by lia))
 ·exact F.e i (k-1) (by lia) hi (by lia) (by lia)
theorem WV(C0:Pc prog w A s κ U R0 (fun _ _=>True))(ux:U x)(uy:U y)(uz:U z)(h1:R0 x y=true)(h2:R0 z y=false): R0 x z=true:=by
 cases h:R0 x z with
 |true=>rfl
 |false=>rw[C0.tr y z x uy uz ux h2 h] at h1;cases h1
theorem Zbb(C:Pc prog w A s κ U R Ok){st:Sa}{X Z:LI4}{lo n N:Nat}{Q:Option Nat->Sa->Prop}(hk:Ic st=κ)(hU:Kj U X)(hn:lo+N<=X.size)(n1:1<=n)(nN:n<=N)(hO:∀e,lo+n<=e->Cm Ok X e)(t:Ud X Z lo n)(d:Xo R Z lo n)(h:∀m Y,n<=m->m<=N->Ud X Y lo m->Up R Y lo m->Q (some m) (Cf st Y)) :
  wpS (Na prog w) A E s (do
   let mut n:=n
   L5 lo (lo+n)
   for _ in [n:N] do
    let some smaller <- ltAt' (lo+n) (lo+n-1)|return none
    if smaller then break
    n:=n+1
   return some n:StateT Sa Sem (Option Nat)) Q (Cf st Z):=by
 have sZ:=t.size;refine Vb (KC ?_);have t3:Ud X (Qj Z lo (lo+n)) lo n:=t.trans ((VJ (by lia) (by lia)).wide (Db _) (by lia));have u3:Up R (Qj Z lo (lo+n)) lo n:=d.up (by lia);show wpS _ _ _ _ _ _ (Cf st (Qj Z lo (lo+n)));generalize Qj Z lo (lo+n)=Y at t3 u3;have sz3:=t3.size;have uY:=hU.stir t3;refine Vb (Wj (Fi
  (I:=fun x (c:Option (Option Nat)×Nat) (Ba:Sa)=>c.1=none/\Ba=Cf st Y/\c.2=x/\Up R Y lo x)
  (Q:=fun(c:Option (Option Nat)×Nat) (Ba:Sa)=>c.1=none/\Ba=Cf st Y/\(n<=c.2/\c.2<=N)/\Up R Y lo c.2) ?_ ?_ ⟨rfl,rfl,rfl,u3⟩) ?_)
 ·rintro x ⟨o,k⟩ Ba hx1 hx2 ⟨rfl,rfl,h3,h4⟩
  dsimp only at h3 ⊢;subst h3;refine Vb (Bz C (show Ic (Cf st Y)=κ from hk) uY (show lo+k<Y.size by lia) (show lo+k-1<Y.size by lia) (t3.sep (e:=lo+k) (.inr (by lia)) (hO _ (by lia)) _ _ (by lia) (Db _) (by lia)) ?_);dsimp only;show wpS _ _ _ _ (if R (gA Y (lo+k)) (gA Y (lo+k-1))=true then _ else _) _ _;cases hR:R (gA Y (lo+k)) (gA Y (lo+k-1)) with
  |true =>
   rw[Da rfl];exact Bb ⟨rfl,rfl,⟨hx1,by dsimp only;lia⟩,h4⟩
  |false =>
   rw[Qa (by decide)];exact Bb ⟨rfl,rfl,rfl,h4.more C uY (by lia) (.inr hR)⟩
 ·rintro⟨o,k⟩ Ba ⟨h1,h2,h3,h4⟩
  dsimp only at h3 ⊢;subst h3;exact⟨h1,h2,by lia,h4⟩
 ·rintro⟨o,k⟩ Ba ⟨rfl,rfl,h3,h4⟩
  dsimp only at h3 h4 ⊢;exact Bb (h k Y h3.1 h3.2 (t3.wide (Db _) (by lia)) h4)
theorem ZaT(C:Pc prog w A s κ U R Ok)(C0:Pc prog w A s κ U R0 (fun _ _=>True))(L:B0 R0 R Ok){st:Sa}{X:LI4}{lo n N:Nat}{Q:Option Nat->Sa->Prop}(hk:Ic st=κ)(hU:Kj U X)(hn:lo+N<=X.size)(n1:1<=n)(nN:n<N)(hO:∀e,lo+n<=e->Cm Ok X e)(d1:Xo R X lo n)(s1:∀i,i<n->R0 (gA X (lo+n)) (gA X (lo+i))=true)(h:∀m Y,n<=m->m<=N->Ud X Y lo m->Up R Y lo m->Q (some m) (Cf st Y)) :
  wpS (Na prog w) A E s (do
   rule "list.sort.descending-run"
   let mut n:=n+1
   let mut neq:=0
   for _ in [n:N] do
    let some smaller <- ltAt' (lo+n) (lo+n-1)|return none
    if smaller then
     if neq>0 then L5 (lo+n-(neq+1)) (lo+n)
     neq:=0
    else
     let some larger <- ltAt' (lo+n-1) (lo+n)|return none
     if larger then break
     neq:=neq+1
    n:=n+1
   if neq>0 then L5 (lo+n-(neq+1)) (lo+n)
   L5 lo (lo+n)
   for _ in [n:N] do
    let some smaller <- ltAt' (lo+n) (lo+n-1)|return none
    if smaller then break
    n:=n+1
   return some n:StateT Sa Sem (Option Nat)) Q (Cf st X):=by
 refine Vb (wpS_lift (Fn ⟨rfl, ?_⟩));have irr:∀{x:Aa},U x->R0 x x=false:=fun {x} u=>by
  cases h:R0 x x with
  |false=>rfl
  |true=>have:=C0.asy x x u u h;rw[h] at this;cases this
 refine Vb (Wj (Fi
  (I:=fun x (c:Option (Option Nat)×Nat×Nat) (Ba:Sa)=>c.1=none/\c.2.1=x/\c.2.2<x/\∃Y,Ba=Cf st Y/\Vm R0 R X Y lo (x-1-c.2.2) x/\n<=x-1-c.2.2)
  (Q:=fun(c:Option (Option Nat)×Nat×Nat) (Ba:Sa)=>c.1=none/\(n+1<=c.2.1/\c.2.1<=N)/\c.2.2<c.2.1/\∃Y,Ba=Cf st Y/\Vm R0 R X Y lo (c.2.1-1-c.2.2) c.2.1/\n<=c.2.1-1-c.2.2) ?_ ?_
  ⟨rfl,rfl,Nat.succ_pos _,X,rfl,⟨(Ud.refl _ _ _),d1,fun i j i1 i2 j1 j2=>?_,fun i j i1 j1 j2=>?_, ?_⟩, ?_⟩) ?_)
 ·rintro x ⟨o,k,e⟩ Ba hx1 hx2 ⟨rfl,h3,he,Y,rfl,F,hq⟩
  dsimp only at h3 he F hq ⊢;subst h3;have szY:=F.t.size;have uY:=hU.stir F.t;have kN:k<N:=by lia
  have i1:lo+k<Y.size:=by lia
  have i2:lo+k-1<Y.size:=by lia
  have ek:lo+(k-1)=lo+k-1:=by lia
  refine Vb (Bz C0 (show Ic (Cf st Y)=κ from hk) uY i1 i2 trivial ?_);dsimp only;show wpS _ _ _ _ (if R0 (gA Y (lo+k)) (gA Y (lo+k-1))=true then _ else _) _ _;have nxt:∀Z,Ud X Z lo k->Xo R Z lo k->(∀i,i<k->R0 (gA Z (lo+k)) (gA Z (lo+i))=true)->Vm R0 R X Z lo (k+1-1-0) (k+1):=fun Z t d a=>by
   rw[show k+1-1-0=k by lia];have uZ:=hU.stir t;have sZ:=t.size;refine⟨t,d,fun i j a1 a2 b1 b2=>?_,fun i j a1 b1 b2=>?_,HD _⟩
   ·obtain rfl:i=k:=by lia
    obtain rfl:j=i:=by lia
    exact irr (uZ _ (by lia))
   ·obtain rfl:j=k:=by lia
    exact a i a1
  cases hR:R0 (gA Y (lo+k)) (gA Y (lo+k-1)) with
  |true =>
   rw[Da rfl];have low:∀i,i<k->R0 (gA Y (lo+k)) (gA Y (lo+i))=true:=fun i hi=>by
    have:=F.above C0 hU (by lia) i hi;rw[ek] at this;exact WV C0 (uY _ i1) (uY _ i2) (uY _ (by lia)) hR this
   by_cases he0:e>0
   ·rw[Da he0]
    obtain⟨t2,d2⟩:=F.turn C L hU (by lia) hO hq;rw[show lo+(k-1-e)=lo+k-(e+1) by lia] at t2 d2;refine Vb (KC (Bb ⟨rfl,rfl,Nat.succ_pos _,Qj Y (lo+k-(e+1)) (lo+k),rfl,nxt _ t2 d2 fun i hi=>?_, ?_⟩))
    ·have hsY:lo+k<=Y.size:=by lia
     rw[E3 hsY (.inr (Db _))];by_cases a:lo+i<lo+k-(e+1)
     ·rw[E3 hsY (.inl a)];exact low i hi
     ·rw[Tp hsY (by lia) (by lia),show lo+k-(e+1)+(lo+k)-1-(lo+i)=lo+(k-(e+1)+k-1-i) by lia]
      exact low _ (by lia)
    ·dsimp only;lia
   ·rw[Qa he0]
    obtain rfl:e=0:=by lia
    have F':Vm R0 R X Y lo (k-1) (k-1+1):=by
     rw[show k-1+1=k by lia];exact F
    obtain⟨t2,d2⟩:=F'.plain C L hU (by lia);rw[show k-1+1=k by lia] at t2 d2;exact Bb ⟨rfl,rfl,Nat.succ_pos _,Y,rfl,nxt _ t2 d2 low,by dsimp only;lia⟩
  |false =>
   rw[Qa (by decide)];refine Vb (Bz C0 (show Ic (Cf st Y)=κ from hk) uY i2 i1 trivial ?_);dsimp only;show wpS _ _ _ _ (if R0 (gA Y (lo+k-1)) (gA Y (lo+k))=true then _ else _) _ _;cases hL:R0 (gA Y (lo+k-1)) (gA Y (lo+k)) with
   |true =>
    rw[Da rfl];exact Bb ⟨rfl,⟨by dsimp only;lia,by dsimp only;lia⟩,he,Y,rfl,F,hq⟩
   |false =>
    rw[Qa (by decide)];refine Bb ⟨rfl,rfl,Nat.succ_lt_succ he,Y,rfl, ?_, ?_⟩
    ·dsimp only
     rw[show k+1-1-(e+1)=k-1-e by lia];have qk:=F.qk;have bd:∀q,q<k->U (gA Y (lo+q)):=fun q hq=>uY _ (by lia);have gr:∀q,k-1-e<=q->q<k->R0 (gA Y (lo+q)) (gA Y (lo+k))=false/\R0 (gA Y (lo+k)) (gA Y (lo+q))=false:=fun q q1 q2=>by
      have z1:=F.e q (k-1) q1 q2 (by lia) (by lia);have z2:=F.e (k-1) q (by lia) (by lia) q1 q2;rw[ek] at z1 z2;exact⟨C0.tr _ _ _ (uY _ i1) (uY _ i2) (bd q q2) hL z1,C0.tr _ _ _ (bd q q2) (uY _ i2) (uY _ i1) z2 hR⟩
     refine⟨F.t,F.d,fun i j a1 a2 b1 b2=>?_,fun i j a1 b1 b2=>?_,by lia⟩
     ·by_cases a:i<k
      ·by_cases b:j<k
       ·exact F.e i j a1 a b1 b
       ·obtain rfl:j=k:=by lia
        exact(gr i a1 a).1
      ·obtain rfl:i=k:=by lia
       by_cases b:j<i
       ·exact(gr j b1 b).2
       ·obtain rfl:j=i:=by lia
        exact irr (uY _ i1)
     ·by_cases b:j<k
      ·exact F.st i j a1 b1 b
      ·obtain rfl:j=k:=by lia
       have z:=F.st i (j-1) a1 (by lia) (by lia);rw[ek] at z;cases hc:R0 (gA Y (lo+j)) (gA Y (lo+i)) with
       |true=>rfl
       |false=>rw[C0.tr _ _ _ (bd i (by lia)) (uY _ i1) (uY _ i2) hc hL] at z;cases z
    ·dsimp only;lia
 ·rintro⟨o,k,e⟩ Ba ⟨h1,h3,he,Y,h4,F,hq⟩
  dsimp only at h3 he F hq ⊢;subst h3;rw[show max (n+1) N=N by lia] at *;exact⟨h1,⟨by lia,Db _⟩,he,Y,h4,F,hq⟩
 ·dsimp only at i1 j1
  obtain rfl:i=n:=by lia
  obtain rfl:j=i:=by lia
  exact irr (hU _ (by lia))
 ·dsimp only at i1 j1
  obtain rfl:j=n:=by lia
  exact s1 i (by lia)
 ·dsimp only;lia
 ·dsimp only;lia
 ·rintro⟨o,n2,e⟩ Ba ⟨rfl,hn2,he,Y,rfl,F,hq⟩
  dsimp only at hn2 he F hq ⊢;have hO2:∀e,lo+n2<=e->Cm Ok X e:=fun e h=>hO e (by lia);by_cases he0:e>0
  ·rw[Da he0]
   refine Vb (KC ?_);obtain⟨t2,d2⟩:=F.turn C L hU (by lia) hO hq;rw[show lo+(n2-1-e)=lo+n2-(e+1) by lia] at t2 d2;exact Zbb C hk hU hn (by lia) hn2.2 hO2 t2 d2 fun m Y a b=>h m Y (by lia) b
  ·rw[Qa he0]
   obtain rfl:e=0:=by lia
   have F':Vm R0 R X Y lo (n2-1) (n2-1+1):=by
    rw[show n2-1+1=n2 by lia];exact F
   obtain⟨t2,d2⟩:=F'.plain C L hU (by lia);rw[show n2-1+1=n2 by lia] at t2 d2;exact Zbb C hk hU hn (by lia) hn2.2 hO2 t2 d2 fun m Y a b=>h m Y (by lia) b
theorem Zly(C:Pc prog w A s κ U R Ok)(C0:Pc prog w A s κ U R0 (fun _ _=>True))(L:B0 R0 R Ok){st:Sa}{lo N:Nat}{Q:Option Nat->Sa->Prop}(hk:Ic st=κ)(hU:Kj U (Oa st))(hn:lo+N<=(Oa st).size)(n1:1<=N)(hO:∀e,lo<e->Cm Ok (Oa st) e)(h:∀m Y,1<=m->m<=N->Ud (Oa st) Y lo m->Up R Y lo m->Q (some m) (Cf st Y)):wpS (Na prog w) A E s (countRun' lo N) Q st:=by
 rw[countRun'_eq];refine Vb (Wj (Fi
  (I:=fun x (c:Option (Option Nat)×Nat) (Ba:Sa)=>c.1=none/\Ba=st/\c.2=x/\Up R (Oa st) lo x)
  (Q:=fun(c:Option (Option Nat)×Nat) (Ba:Sa)=>c.1=none/\Ba=st/\(1<=c.2/\c.2<=N)/\Up R (Oa st) lo c.2/\(c.2=N\/R (gA (Oa st) (lo+c.2)) (gA (Oa st) (lo+c.2-1))=true)) ?step ?fin ⟨rfl,rfl,rfl,fun i j hij hj=>by lia⟩) ?post)
 case fin =>
  rintro⟨o,n⟩ Ba ⟨h1,h2,h3,h4⟩;dsimp only at h1 h3 ⊢;subst h3;exact⟨h1,h2,by lia,h4,.inl (by lia)⟩
 case step =>
  rintro x ⟨o,n⟩ Ba hx1 hx2 ⟨rfl,rfl,h3,h4⟩;dsimp only at h3 ⊢;subst h3;refine Vb (Bz C hk hU (show lo+n<_ by lia) (show lo+n-1<_ by lia) (hO (lo+n) (by lia) _ _ (by lia) (Db _) (by lia)) ?_);dsimp only;cases hR:R (gA (Oa Ba) (lo+n)) (gA (Oa Ba) (lo+n-1)) with
  |true =>
   rw[Da rfl];exact Bb ⟨rfl,rfl,by dsimp only;lia,h4,.inr hR⟩
  |false =>
   rw[Qa (by decide)];exact Bb ⟨rfl,rfl,rfl,h4.more C hU (by lia) (.inr hR)⟩
 case post =>
  rintro⟨o,n⟩ Ba ⟨h1,h2,h3,h4,h5⟩;have h2:=h2.symm;subst h2;dsimp only at h1 h3 h4 h5 ⊢;subst h1;dsimp only;by_cases e1:n=N
  ·rw[Da (by simpa using e1)]
   exact Bb (h n (Oa st) h3.1 h3.2 (Ud.refl _ _ _) h4)
  rw[Qa (by simpa using e1)];have h5:=h5.resolve_left e1;have bn:lo+n<(Oa st).size:=by lia
  have bn1:lo+n-1<(Oa st).size:=by lia
  have en:lo+(n-1)=lo+n-1:=by lia
  rw[L.ok _ _ (hO (lo+n) (by lia) (lo+n-1) _ (by lia) (Db _) bn)] at h5;have u:∀q,q<n->U (gA (Oa st) (lo+q)):=fun q hq=>hU _ (by lia);have un:=hU _ bn;have un1:U (gA (Oa st) (lo+n-1)):=hU _ bn1;by_cases e2:n>1
  ·rw[Da e2]
   refine Vb (Bz C0 hk hU (show lo<_ by lia) bn1 trivial ?_);dsimp only;cases hR:R0 (gA (Oa st) lo) (gA (Oa st) (lo+n-1)) with
   |true =>
    rw[Da rfl];exact Bb (h n (Oa st) h3.1 h3.2 (Ud.refl _ _ _) h4)
   |false =>
    rw[Qa (by decide)];refine Vb (KC ?_);have u0:Up R0 (Oa st) lo n:=fun i j hij hj=>by
     cases hc:R0 (gA (Oa st) (lo+j)) (gA (Oa st) (lo+i)) with
     |false=>rfl
     |true=>have:=L.up _ _ hc;rw[h4 i j hij hj] at this;cases this
    have irr:∀{x:Aa},U x->R0 x x=false:=fun {x} u=>by
     cases h:R0 x x with
     |false=>rfl
     |true=>have:=C0.asy x x u u h;rw[h] at this;cases this
    have ul:U (gA (Oa st) lo):=u 0 (by lia);have le1:∀q,q<n->R0 (gA (Oa st) (lo+q)) (gA (Oa st) lo)=false/\R0 (gA (Oa st) (lo+n-1)) (gA (Oa st) (lo+q))=false:=fun q hq=>by
     refine⟨?_, ?_⟩
     ·by_cases z:q=0
      ·subst z;exact irr ul
      ·exact u0 0 q (by lia) hq
     ·by_cases z:q=n-1
      ·subst z;rw[en];exact irr un1
      ·have:=u0 q (n-1) (by lia) (by lia);rw[en] at this;exact this
    have eq1:∀i j,i<n->j<n->R0 (gA (Oa st) (lo+i)) (gA (Oa st) (lo+j))=false:=fun i j hi hj=>C0.tr _ _ _ (u j hj) ul (u i hi) (C0.tr _ _ _ (u j hj) un1 ul (le1 j hj).2 hR) (le1 i hi).1;have t0:Ud (Oa st) (Qj (Oa st) lo (lo+n)) lo n:=(VJ (by lia) (by lia)).wide (Db _) (by lia);have hs:lo+n<=(Oa st).size:=by lia
    have d0:Xo R (Qj (Oa st) lo (lo+n)) lo n:=fun i j hij hj=>by
     rw[Tp hs (by lia) (by lia),Tp hs (by lia) (by lia),show lo+(lo+n)-1-(lo+j)=lo+(n-1-j) by lia,show lo+(lo+n)-1-(lo+i)=lo+(n-1-i) by lia];rw[L.ok _ _ (hO (lo+(n-1-i)) (by lia) (lo+(n-1-j)) _ (by lia) (Db _) (by lia))];exact eq1 _ _ (by lia) (by lia)
    have s0:∀i,i<n->R0 (gA (Qj (Oa st) lo (lo+n)) (lo+n)) (gA (Qj (Oa st) lo (lo+n)) (lo+i))=true:=fun i hi=>by
     rw[E3 hs (.inr (Db _)),Tp hs (by lia) (by lia),show lo+(lo+n)-1-(lo+i)=lo+(n-1-i) by lia];refine WV C0 un un1 (u _ (by lia)) h5 ?_;rw[<- en];exact eq1 _ _ (by lia) (by lia)
    exact ZaT C C0 L hk (hU.stir t0) (by rw[t0.size];exact hn) h3.1 (by lia) (fun e he=>t0.sep (.inr he) (hO e (by lia))) d0 s0 fun m Y a b c d=>h m Y (by lia) b ((t0.wide (Db _) (by lia)).trans c) d
  ·rw[Qa e2]
   obtain rfl:n=1:=by lia
   show wpS _ _ _ _ _ _ (Cf st (Oa st));refine ZaT C C0 L hk hU hn (Db _) (by lia) (fun e he=>hO e (by lia)) (fun i j hij hj=>by lia) (fun i hi=>?_) fun m Y a b c d=>h m Y a b c d;obtain rfl:i=0:=by lia
   rw[show lo+1-1=lo+0 by lia] at h5;exact h5
end
noncomputable abbrev Zr:=Nat×Nat×Nat
def Hv(R:Aa->Aa->Bool)(Ok:Aa->Aa->Prop)(X:LI4)(c n:Nat):Prop:=Up R X c n/\Cm Ok X c
noncomputable def De(R:Aa->Aa->Bool)(Ok:Aa->Aa->Prop)(X:LI4):Nat->List Zr->Nat->Prop
 |s,[],e=>s=e
 |s,(c,n,_)::r,e=>c=s/\0<n/\Hv R Ok X c n/\De R Ok X (s+n) r e
section
variable {prog:Bc}{w:Jc}{A:Pd}{E:Va->Ga->Prop}{s:Ga}{κ:Pi}{U:Aa->Prop}{R:Aa->Aa->Bool}{Ok:Aa->Aa->Prop}
theorem De.le: ∀{L:List Zr}{a e:Nat},De R Ok X a L e->a+L.length<=e
 |[],a,e,h=>by have h:a=e:=h;simp[h]
 |(c,n,p)::L,a,e,h=>by
  obtain⟨_,h1,_,h2⟩:=h;have:=De.le h2;simp only[Ci];lia
theorem De.app: ∀{L M:List Zr}{a e:Nat},De R Ok X a (L++M) e ↔ ∃q,De R Ok X a L q/\De R Ok X q M e
 |[],M,a,e=>⟨fun h=>⟨a,rfl,h⟩,fun⟨q,h1,h2⟩=>by have h1:a=q:=h1;subst h1;exact h2⟩
 |(c,n,p)::L,M,a,e=>by
  show (c=a/\0<n/\Hv R Ok X c n/\De R Ok X (a+n) (L++M) e) ↔ ∃q,(c=a/\0<n/\Hv R Ok X c n/\De R Ok X (a+n) L q)/\De R Ok X q M e;constructor
  ·rintro⟨h1,h2,h3,h4⟩
   obtain⟨q,q1,q2⟩:=De.app.mp h4;exact⟨q,⟨h1,h2,h3,q1⟩,q2⟩
  ·rintro⟨q,⟨h1,h2,h3,h4⟩,q2⟩
   exact⟨h1,h2,h3,De.app.mpr ⟨q,h4,q2⟩⟩
theorem Up.stir{lo m c n: Nat}(h:Up R X c n)(t:Ud X Y lo m)(d:c+n<=lo\/lo+m<=c): Up R Y c n:=fun i j hij hj=>by
 rw[Dr (t.out (c+j) (by lia)),Dr (t.out (c+i) (by lia))];exact h i j hij hj
theorem Hv.stir{lo m c n: Nat}(h:Hv R Ok X c n)(t:Ud X Y lo m)(d:c+n<=lo\/lo+m<=c): Hv R Ok Y c n:=⟨h.1.stir t d,t.sep (by lia) h.2⟩
theorem De.stir{lo m: Nat}(t:Ud X Y lo m): ∀{L:List Zr}{a e:Nat},De R Ok X a L e->(e<=lo\/lo+m<=a)->De R Ok Y a L e
 |[],a,e,h,_=>h
 |(c,n,p)::L,a,e,h,d=>by
  obtain⟨h1,h2,h3,h4⟩:=h;have:=De.le h4;exact⟨h1,h2,h3.stir t (by lia),De.stir t h4 (by lia)⟩
theorem Up.srt(h:Up R X c n)(hs:c+n<=X.size): Sc R ((X.toList.drop c).take n):=by
 refine BD.mpr fun i j hi hj hij=>?_;have hi':i<n:=by rw[Ch] at hi;lia
 have hj':j<n:=by rw[Ch] at hj;lia
 have e:∀t,t<n->∀ht,((X.toList.drop c).take n)[t]'ht=gA X (c+t):=fun t htn ht=>by
  have h1:((X.toList.drop c).take n)[t]?=some (gA X (c+t)):=by
   rw[Fj,Da htn,Rj,Ai,Jo (by lia)]
  rw[Yc ht] at h1;exact Option.some.inj h1
 rw[e i hi' hi,e j hj' hj];exact h i j hij hj'
theorem Sc.up(hX:X.toList=pre++(W++post))(lp:pre.length=c)(lW:W.length=n)(h:Sc R W): Up R X c n:=fun i j hij hj=>by
 have g:∀t (ht:t<n),gA X (c+t)=W[t]'(by lia):=fun t ht=>by
  refine Iw ?_;rw[<- Ai,hX,Lg (by lia),lp,show c+t-c=t by lia,Lh (by lia),Yc (by lia)]
 rw[g i (by lia),g j hj];exact BD.mp h i j (by lia) (by lia) hij
theorem ZjI{L: List Zr}{P: Array Zr}(h:P.toList=L++a::b::M): (((P.setIfInBounds L.length c).eraseIdxIfInBounds (L.length+1))).toList=L++c::M:=by
 have hz:L.length+1<(P.setIfInBounds L.length c).size:=by
  have:=Ef List.length h;rw[Oe] at this;rw[Array.size_setIfInBounds,this];simp
 rw[Array.eraseIdxIfInBounds,Xl hz,Array.toList_eraseIdx,Zbi,h];rw[IN _ _ (Db _),V6,List.set_cons_zero,List.eraseIdx_append_of_length_le (by lia),show L.length+1-L.length=1 by lia];rfl
theorem Zl6(C:Pc prog w A s κ U R Ok){st:Sa}{L M:List Zr}{c n p d m p2 e:Nat}{Q:Bool->Sa->Prop}(hk:Ic st=κ)(hf:Vj st=none)(hU:Kj U (Oa st))(hp:(Qc st).toList=L++(c,n,p)::(d,m,p2)::M)(hr:De R Ok (Oa st) 0 (Qc st).toList e)(he:e<=(Oa st).size)(h:∀Ba,Ic Ba=κ->Vj Ba=none->(Qc Ba).toList=L++(c,n+m,p)::M->Ud (Oa st) (Oa Ba) c (n+m)->c+n+m<=e->De R Ok (Oa Ba) 0 (Qc Ba).toList e->Q true Ba) :
  wpS (Na prog w) A E s (mergeAt' L.length) Q st:=by
 rw[hp] at hr;obtain⟨q,r1,r2⟩:=De.app.mp hr;obtain⟨rfl,n0,u1,rfl,m0,u2,r3⟩:=r2;have le3:=De.le r3;have hsz:c+n+m<=(Oa st).size:=by lia
 have sp:(Oa st).toList=(Oa st).toList.take c++(((Oa st).toList.drop c).take n++(((Oa st).toList.drop (c+n)).take m++(Oa st).toList.drop (c+n+m))):=by
  rw[Uw,Uw,Oi]
 have lt:(Oa st).toList.length=(Oa st).size:=Oe;have inU:∀x∈(Oa st).toList,U x:=fun x hx=>by
  obtain⟨i,hi⟩:=Ej hx;have hl:=(Cd.mp hi).1;rw[Ai] at hi;rw[<- Iw hi];exact hU i (by lia)
 have i1:(Qc st)[L.length]?=some (c,n,p):=by
  rw[<- Ai,hp,Lg (Db _),V6];rfl
 have i2:(Qc st)[L.length+1]?=some (c+n,m,p2):=by
  rw[<- Ai,hp,Lg (by lia),show L.length+1-L.length=1 by lia];rfl
 refine Zl3 C hk hf i1 i2 sp (by rw[Ch];lia) (by rw[Ch,Ws];lia) (by rw[Ch,Ws];lia) rfl n0 m0
  (fun x hx=>inU x (Bn (Cn hx))) (fun x hx=>inU x (Bn (Cn hx))) (u1.1.srt (by lia)) (u2.1.srt (by lia)) (fun y hy x hx=>?ok) fun Ba W k1 k2 k3 k4 k5 k6=>?main
 case ok =>
  obtain⟨i,hi⟩:=Ej hy;obtain⟨j,hj⟩:=Ej hx;rw[Fj] at hi hj
  split at hi
  ·split at hj
   ·rename_i ci cj
    rw[Rj,Ai] at hi hj;rw[<- Iw hi,<- Iw hj];exact u2.2 _ _ (by lia) (by lia) (by lia)
   ·cases hj
  ·cases hi
 have lW:W.length=n+m:=by rw[k6.length_eq,Gj,Ch,Ch,Ws,Ws];lia
 have lpre:((Oa st).toList.take c).length=c:=by rw[Ch];lia
 have hst:Ud (Oa st) (Oa Ba) c (n+m):=by
  refine⟨?_,fun k hk'=>?_⟩
  ·refine YM.mpr ?_
   rw[k4]
   conv=>rhs;rw[sp]
   refine List.Perm.append_left _ ?_;rw[<- Qf];exact k6.append_right _
  ·rw[<- Ai,<- Ai,k4]
   rcases hk' with z|z
   ·rw[Lh (by lia),Fj,Da z]
   ·rw[Lg (by lia),lpre,Lg (by lia),lW,Rj]
    congr 1;lia
 have kp:(Qc Ba).toList=L++(c,n+m,p)::M:=by rw[k3];exact ZjI hp
 refine h Ba k1 k2 kp hst (by lia) ?_;rw[kp];refine De.app.mpr ⟨c,r1.stir hst (.inl (Db _)),rfl,by lia,⟨Sc.up k4 lpre lW k5,hst.sep (.inl (Db _)) u1.2⟩, ?_⟩;rw[<- Nat.add_assoc];exact r3.stir hst (.inr (by lia))
variable {R0:Aa->Aa->Bool}
structure Ph(κ:Pi)(U:Aa->Prop)(R:Aa->Aa->Bool)(Ok:Aa->Aa->Prop)(X:LI4)(lo hi:Nat)(Ba:Sa):Prop where
 kd:Ic Ba=κ
 fl:Vj Ba=none
 pm:(Oa Ba).Perm X
 us:Kj U (Oa Ba)
 rn:De R Ok (Oa Ba) 0 (Qc Ba).toList lo
 le:lo<=X.size
 lh:lo<=hi
 sp:∀e,e=lo\/hi<=e->Cm Ok (Oa Ba) e
theorem Ph.sz{X: LI4}{lo hi: Nat}(h:Ph κ U R Ok X lo hi Ba): (Oa Ba).size=X.size:=h.pm.size_eq
theorem De.mod(hf:∀c n p,∃p',f (c,n,p)=(c,n,p')): ∀{L:List Zr}{a e:Nat},De R Ok X a L e->∀i,De R Ok X a (L.modify i f) e
 |[],a,e,h,i=>by simpa using h
 |(c,n,p)::L,a,e,h,0=>by
  obtain⟨p',hp'⟩:=hf c n p;rw[List.modify_zero_cons,hp'];exact h
 |(c,n,p)::L,a,e,h,i+1=>by
  rw[List.modify_succ_cons];exact⟨h.1,h.2.1,h.2.2.1,De.mod hf h.2.2.2 i⟩
theorem ZkG(h:i+1<L.length): ∃A a b B,L=A++a::b::B/\A.length=i:=by
 refine⟨L.take i,L[i],L[i+1],L.drop (i+2), ?_,by rw[Ch];lia⟩;rw[<- Tl h,<- Tl (by lia),Oi]
theorem TM(C:Pc prog w A s κ U R Ok){lo hi i: Nat}{Q: Bool->Sa->Prop}(S1:Ph κ U R Ok X lo hi st1)(hi':i+1<(Qc st1).size)(h:∀Ba,Ph κ U R Ok X lo hi Ba->(Qc Ba).size+1=(Qc st1).size->(∀n,Up R (Oa st1) lo n->Up R (Oa Ba) lo n)->Q true Ba): wpS (Na prog w) A E s (mergeAt' i) Q st1:=by
 obtain⟨L,⟨c,n,p⟩,⟨d,m,p2⟩,M,hL,rfl⟩:=ZkG (L:=(Qc st1).toList) (by rw[Oe];exact hi');refine Zl6 C S1.kd S1.fl S1.us hL S1.rn (by rw[S1.sz];exact S1.le) fun Ba k1 k2 k3 k4 k5 k6=>h Ba ⟨k1,k2,k4.perm.trans S1.pm,S1.us.stir k4,k6,S1.le,S1.lh,fun e he=>k4.sep (.inr (by have:=S1.lh;lia)) (S1.sp e he)⟩ ?_ fun q hq=>hq.stir k4 (.inr (by lia));have e1:=Ef List.length hL;have e2:=Ef List.length k3;rw[Oe] at e1 e2;simp only[Gj,Ci] at e1 e2;lia
theorem Zba(C:Pc prog w A s κ U R Ok)(C0:Pc prog w A s κ U R0 (fun _ _=>True))(L:B0 R0 R Ok){st:Sa}{Q:Unit->Sa->Prop}(hk:Ic st=κ)(hf:Vj st=none)(hU:Kj U (Oa st))(hp:Qc st=#[])(hO:∀e,Cm Ok (Oa st) e)(h:∀Ba,Vj Ba=none->(Oa Ba).Perm (Oa st)->Up R (Oa Ba) 0 (Oa st).size->Q () Ba):wpS (Na prog w) A E s sortRuns' Q st:=by
 rw[sortRuns'_eq];refine Vb (Yl ?_);dsimp only;have S0:Ph κ U R Ok (Oa st) 0 0 st:=⟨hk,hf,Array.Perm.refl _,hU,by rw[hp];rfl,Ng _,Db _,fun e _=>hO e⟩
 generalize hX:Oa st=X at S0 h;refine Vb (Wj (Fi
  (I:=fun x (c:Option Unit×Nat) (Ba:Sa)=>c.1=none/\Ph κ U R Ok X c.2 c.2 Ba/\(x<=c.2\/X.size<=c.2))
  (Q:=fun(c:Option Unit×Nat) (Ba:Sa)=>c.1=none/\Ph κ U R Ok X X.size X.size Ba) ?step ?fin ⟨rfl,S0,.inl (Db _)⟩) ?post)
 case fin =>
  rintro⟨o,lo⟩ Ba ⟨h1,h2,h3⟩;dsimp only at h1 h2 h3 ⊢;have:=h2.le;obtain rfl:lo=X.size:=by lia
  exact⟨h1,h2⟩
 case step =>
  rintro x ⟨o,lo⟩ st1 _ hx ⟨rfl,S1,h3⟩;dsimp only at S1 h3 ⊢;have hle:=S1.le;have hsz:=S1.sz;by_cases e0:lo ≥ X.size
  ·rw[Da e0]
   obtain rfl:lo=X.size:=by lia
   exact Bb ⟨rfl,S1⟩
  rw[Qa e0];refine Vb (Zly C C0 L S1.kd S1.us (show lo+(X.size-lo)<=_ by lia) (by lia) (fun e he=>S1.sp e (.inr (by lia))) fun m Y m1 m2 t u=>?_);dsimp only;have S1':Ph κ U R Ok X lo (lo+m) (Cf st1 Y):=⟨S1.kd,S1.fl,t.perm.trans S1.pm,S1.us.stir t,S1.rn.stir t (.inl (Db _)),S1.le,by lia,fun e he=>t.sep (by lia) (S1.sp e (by lia))⟩
  by_cases e1:m<minRun' X.size X.size 0
  ·rw[Da e1]
   have f1:m<=min (X.size-lo) (minRun' X.size X.size 0):=by lia
   have f2:min (X.size-lo) (minRun' X.size X.size 0)<=X.size-lo:=ID _ _;generalize min (X.size-lo) (minRun' X.size X.size 0)=N1 at f1 f2;refine Vb (wpS_lift (Fn ⟨rfl, ?_⟩));refine Vb (Zlx C (show Ic (Cf st1 Y)=κ from S1.kd) S1'.us (show lo+N1<=(Oa (Cf st1 Y)).size by rw[S1'.sz];lia) f1 (by lia) u (fun e he=>S1'.sp e (.inr he)) fun Y2 t2 u2=>?_);rw[Qa (by decide)];have t2:Ud Y Y2 lo N1:=t2;have S2:Ph κ U R Ok X lo (lo+N1) (Cf st1 Y2):=⟨S1.kd,S1.fl,t2.perm.trans S1'.pm,S1'.us.stir t2,S1'.rn.stir t2 (.inl (Db _)),S1.le,by lia,fun e he=>t2.sep (by lia) (S1'.sp e (by lia))⟩
   show wpS _ _ _ _ _ _ (Cf st1 Y2);have PUSH:∀Ec,Ph κ U R Ok X lo (lo+N1) Ec->Up R (Oa Ec) lo (N1)->Ph κ U R Ok X (lo+(N1)) (lo+(N1)) (Ro Ec ((Qc Ec).push (lo,N1,0))):=fun Ec S3 u3 =>
    ⟨S3.kd,S3.fl,S3.pm,S3.us,by
     show De R Ok (Oa Ec) 0 ((Qc Ec).push (lo,N1,0)).toList (lo+(N1));rw[OC];exact De.app.mpr ⟨lo,S3.rn,rfl,by lia,⟨u3,S3.sp lo (.inl rfl)⟩,rfl⟩,by lia,Db _,fun e he=>S3.sp e (.inr (by lia))⟩
   refine Vb (Yl ?_);cases hb:(Qc (Cf st1 Y2)).back? with
   |none =>
    dsimp only;exact Vb (So (Bb ⟨rfl,PUSH _ S2 u2,.inl (by dsimp only;lia)⟩))
   |some q =>
    obtain⟨s1,n1,p1⟩:=q;dsimp only;refine Vb (Wj (Fi
     (I:=fun _ (c:Option Unit×Unit) (Ba:Sa)=>c.1=none/\Ph κ U R Ok X lo (lo+N1) Ba/\Up R (Oa Ba) lo (N1))
     (Q:=fun(c:Option Unit×Unit) (Ba:Sa)=>c.1=none/\Ph κ U R Ok X lo (lo+N1) Ba/\Up R (Oa Ba) lo (N1)) ?_ (fun c Ba hc=>hc) ⟨rfl,S2,u2⟩) ?_)
    ·rintro y ⟨o,_⟩ Ec _ hy ⟨rfl,S3,u3⟩
     refine Vb (Yl ?_);by_cases hsz3:(Qc Ec).size>1
     ·rw[Da hsz3]
      have hg:(Qc Ec)[(Qc Ec).size-2]?=some ((Qc Ec)[(Qc Ec).size-2]'(by lia)):=XM (by lia);rw[hg];generalize (Qc Ec)[(Qc Ec).size-2]'(by lia)=q3 at hg;obtain⟨a3,b3,older⟩:=q3;dsimp only
      split
      ·exact Bb ⟨rfl,S3,u3⟩
      ·refine Vb (TM C S3 (by lia) fun st4 S4 _ up4=>?_)
       rw[Qa (by decide)];exact Bb ⟨rfl,S4,up4 _ u3⟩
     ·rw[Qa hsz3]
      exact Bb ⟨rfl,S3,u3⟩
    ·rintro⟨o,_⟩ Ec ⟨h1,S3,u3⟩
     dsimp only at h1;subst h1;dsimp only;refine Vb (So (Vb (So (Bb ⟨rfl, ?_,.inl (by dsimp only;lia)⟩))));refine PUSH (Ro Ec _) ⟨S3.kd,S3.fl,S3.pm,S3.us, ?_,S3.le,S3.lh,S3.sp⟩ u3;show De R Ok (Oa Ec) 0 ((Qc Ec).modify _ _).toList lo;rw[Array.toList_modify];exact S3.rn.mod (fun _ _ _=>⟨_,rfl⟩) _
  ·rw[Qa e1]
   have S2:=S1';have u2:=u;have PUSH:∀Ec,Ph κ U R Ok X lo (lo+m) Ec->Up R (Oa Ec) lo (m)->Ph κ U R Ok X (lo+(m)) (lo+(m)) (Ro Ec ((Qc Ec).push (lo,m,0))):=fun Ec S3 u3 =>
    ⟨S3.kd,S3.fl,S3.pm,S3.us,by
     show De R Ok (Oa Ec) 0 ((Qc Ec).push (lo,m,0)).toList (lo+(m));rw[OC];exact De.app.mpr ⟨lo,S3.rn,rfl,by lia,⟨u3,S3.sp lo (.inl rfl)⟩,rfl⟩,by lia,Db _,fun e he=>S3.sp e (.inr (by lia))⟩
   refine Vb (Yl ?_);cases hb:(Qc (Cf st1 Y)).back? with
   |none =>
    dsimp only;exact Vb (So (Bb ⟨rfl,PUSH _ S2 u2,.inl (by dsimp only;lia)⟩))
   |some q =>
    obtain⟨s1,n1,p1⟩:=q;dsimp only;refine Vb (Wj (Fi
     (I:=fun _ (c:Option Unit×Unit) (Ba:Sa)=>c.1=none/\Ph κ U R Ok X lo (lo+m) Ba/\Up R (Oa Ba) lo (m))
     (Q:=fun(c:Option Unit×Unit) (Ba:Sa)=>c.1=none/\Ph κ U R Ok X lo (lo+m) Ba/\Up R (Oa Ba) lo (m)) ?_ (fun c Ba hc=>hc) ⟨rfl,S2,u2⟩) ?_)
    ·rintro y ⟨o,_⟩ Ec _ hy ⟨rfl,S3,u3⟩
     refine Vb (Yl ?_);by_cases hsz3:(Qc Ec).size>1
     ·rw[Da hsz3]
      have hg:(Qc Ec)[(Qc Ec).size-2]?=some ((Qc Ec)[(Qc Ec).size-2]'(by lia)):=XM (by lia);rw[hg];generalize (Qc Ec)[(Qc Ec).size-2]'(by lia)=q3 at hg;obtain⟨a3,b3,older⟩:=q3;dsimp only
      split
      ·exact Bb ⟨rfl,S3,u3⟩
      ·refine Vb (TM C S3 (by lia) fun st4 S4 _ up4=>?_)
       rw[Qa (by decide)];exact Bb ⟨rfl,S4,up4 _ u3⟩
     ·rw[Qa hsz3]
      exact Bb ⟨rfl,S3,u3⟩
    ·rintro⟨o,_⟩ Ec ⟨h1,S3,u3⟩
     dsimp only at h1;subst h1;dsimp only;refine Vb (So (Vb (So (Bb ⟨rfl, ?_,.inl (by dsimp only;lia)⟩))));refine PUSH (Ro Ec _) ⟨S3.kd,S3.fl,S3.pm,S3.us, ?_,S3.le,S3.lh,S3.sp⟩ u3;show De R Ok (Oa Ec) 0 ((Qc Ec).modify _ _).toList lo;rw[Array.toList_modify];exact S3.rn.mod (fun _ _ _=>⟨_,rfl⟩) _
 case post =>
  rintro⟨o,lo⟩ st1 ⟨h1,S1⟩;dsimp only at h1;subst h1;dsimp only;refine Vb (Wj (Fi
   (I:=fun x (c:Option Unit×Unit) (Ba:Sa)=>c.1=none/\Ph κ U R Ok X X.size X.size Ba/\((Qc Ba).size+x<=X.size\/(Qc Ba).size<=1))
   (Q:=fun(c:Option Unit×Unit) (Ba:Sa)=>c.1=none/\Ph κ U R Ok X X.size X.size Ba/\(Qc Ba).size<=1) ?_ ?_ ⟨rfl,S1,.inl ?_⟩) ?_)
  ·rintro x ⟨o,_⟩ Ec _ hx ⟨rfl,S3,h3⟩
   refine Vb (Yl ?_);by_cases e1:(Qc Ec).size<=1
   ·rw[Da e1]
    exact Bb ⟨rfl,S3,e1⟩
   ·rw[Qa e1]
    refine Vb (TM C S3 ?_ fun st4 S4 z4 _=>?_)
    ·have hp3:1<(Qc Ec).size:=Nat.lt_of_not_le e1
     have both:∀(b:Prop) [Decidable b],(if b then (Qc Ec).size-2-1 else (Qc Ec).size-2)+1<(Qc Ec).size:=fun b _=>by
      by_cases hb:b
      ·rw[Da hb];lia
      ·rw[Qa hb];lia
     exact both _
    ·rw[Qa (by decide)]
     exact Bb ⟨rfl,S4,by lia⟩
  ·rintro⟨o,_⟩ Ec ⟨h1,S3,h3⟩
   have:=De.le S3.rn;rw[Oe] at this;exact⟨h1,S3,by lia⟩
  ·have:=De.le S1.rn
   rw[Oe] at this;lia
  ·rintro⟨o,_⟩ Ec ⟨h1,S3,h3⟩
   dsimp only at h1;subst h1;refine Bb (h Ec S3.fl S3.pm ?_);have rn:=S3.rn;have hl:(Qc Ec).toList.length<=1:=by rw[Oe];exact h3
   match hL:(Qc Ec).toList with
   |[] =>
    rw[hL] at rn;have z:0=X.size:=rn;intro i j _ hj;lia
   |[(c,n,p)] =>
    rw[hL] at rn;obtain⟨rfl,_,z1,z2⟩:=rn;have z2:0+n=X.size:=z2;rw[<- z2,Jl];exact z1.1
   |_::_::_ =>
    rw[hL] at hl;simp at hl
end
end L2
namespace L2
open PySem PySem.Spec PyProof.Rows
section
end
theorem CH{α:Type}{f:PV->Rr (Option PV)}{q:α->PV}{p:α->Bool}{g:α->PV}{L:List α}(h:∀x∈L,f (q x)=.ok (if p x=true then some (g x) else none)):Rh f (L.map q)=.ok ((L.filter p).map g):=by
 induction L with
 |nil=>rfl
 |cons a l ih =>
  simp only[Ed,Rh,h a (by simp),Rr.bind_ok,ih fun z hz=>h z (by simp[hz])];cases hp:p a<;>simp[hp,List.filter_cons]
noncomputable def minus(H:Hp)(G:LI2):Hp:=fun a=>if a∈G then none else H a
theorem AW(h:a∈G): minus H G a=none:=Da h
theorem Kk(h:a ∉ G): minus H G a=H a:=Qa h
theorem Zia: La (minus H G) H:=fun a o h=>by
 unfold minus at h
 split at h
 ·cases h
 ·exact h
theorem Rd.minus(h:Rd H a u)(n:a ∉ G): Rd (minus H G) a u:=by
 rcases h with h|⟨o,h⟩
 ·exact .inl (by rw[Kk n];exact h)
 ·exact .inr ⟨o,by rw[Kk n];exact h⟩
theorem Im.minus{K:ZlR}{H:Hp}{G:LI2}{a:Ja}{k:HO}(hG:∀b∈G,∃vs:Bm,H b=some vs.1)(h:Im K H a k):Im K (minus H G) a k:=by
 refine⟨?_,h.2⟩;rw[Kk fun z=>?_]
 ·exact h.1
 ·obtain⟨vs,q⟩:=hG a z
  exact NI vs.2 h.2 (by rw[h.1] at q;exact Option.some.inj q)
section
variable {K:ZlR}{B:Ja->Prop}{H0 H H':Hp}{σ:St}{Γ:List Md}{ρ:LI5}{F:Nat->LI2}
theorem Ag.lost(A:Ag K B H0 H σ Γ ρ F (G++[]))(s:La (minus H G) H'): Ag K B H0 H' σ Γ ρ F []:=by
 have hG:∀b∈G,∃vs:Bm,H b=some vs.1:=fun b hb=>A.liveR b (by simp[hb]);refine⟨fun a o h=>s a o ?_,A.own,A.young,by simp,fun i a ha=>?_,by simp,A.disj,by simp,A.lenS,A.lenR,fun i=>?_⟩
 ·rw[Kk (fun z=>by have:=A.youngR a (by simp[z]);rw[h] at this;cases this)]
  exact A.same a o h
 ·obtain⟨vs,q⟩:=A.live i a ha
  exact⟨vs,s _ _ (by rw[Kk (fun z=>A.disjR i a ha (by simp[z]))];exact q)⟩
 ·refine(A.slot i).mono (fun a vs n r=>⟨(r.minus (fun z=>n.2.1 (by simp[z]))).same s,n.1,by simp,n.2.2⟩) (fun a vs r=>s.im (r.minus hG)) fun a ha vs q=>s _ _ (by rw[Kk (fun z=>A.disjR i a ha (by simp[z]))];exact q)
end
noncomputable def Bo(ns:LI0):Int:=- Ll (ns.map fun n=>-n)
theorem XI(h:ns≠[]): Bo ns∈ns:=by
 have:=H8 (ns:=ns.map fun n=>-n) (by simpa using h);obtain⟨n,h1,h2⟩:=Nd.mp this;unfold Bo;rw[<- h2,Int.neg_neg];exact h1
theorem ZW{a: Int}(h:a∈ns): a<=Bo ns:=by
 have:=G8 (ns:=ns.map fun n=>-n) (Nd.mpr ⟨a,h,rfl⟩);unfold Bo;lia
theorem ZhX{m: Int}(h1:m∈ns)(h2:∀a∈ns,a<=m): m=Bo ns:=Int.le_antisymm (ZW h1) (h2 _ (XI (GN h1)))
section
variable {K:ZlR}{EX:PX->Hp->Prop}{Γ:List Md}{tt:TT}{c:LI5->Rr Bool}
theorem Ze2(hm:Γ[i]?=some .O)(ht:DT K EX (Γ.set i .S++[.S]) (Γ.set i .S++[.S]) tt c)(hn:n=Γ.length):
  DE K EX Γ (Γ.set i .U) .F (Lu (X2 K (Bg i)) Ku tt (Bg n)) (fun ρ=>(asL (gv i ρ)).bind fun xs=>(lenM xs).bind fun _=>(Rh (fun x=>(c (ρ++[x])).bind fun b=>.ok (if b=true then some x else none)) xs).bind fun ys=>.ok (.lst ys)):=fun B H0 H σ ρ F R Q A d=>by
 obtain⟨xs,exs,d⟩:=Dn.asL d.bind;obtain⟨Ge,d⟩:=Dn.lenM d.bind;obtain⟨v,h1,h2⟩:=A.getO hm;rw[show ρ.getD i .non=.lst xs from exs] at h2;obtain⟨a,vs,G1,rfl,ha,htr,hna,hFi⟩:=h2;have hl:vs.length=xs.length:=htr.length;generalize hgx:(fun x=>(c (ρ++[x])).bind fun b=>Rr.ok (if b=true then some x else none))=gx at d;have A1:=A.freeze hm (by decide);have AM:=A.move hm;have l1:=A.lenS;have l2:=A.lenR;have inF:∀b∈G1,b∈F i:=fun b hb=>by rw[hFi];simp[hb]
 refine⟨.ref a,h1,a,rfl,⟨vs,Yb.of ha⟩, ?_⟩;refine⟨fun k m ys H2=>∃zs Gz Gb,m=xs.length-k/\k<=xs.length/\ys.length<=k/\La H H2/\Trees K H zs ys Gz/\Trees K H (xs.drop k) (vs.drop k) Gb/\(∀b∈Gz,b∈G1)/\(∀b∈Gb,b∈G1)/\(∀b∈Gz,b ∉ Gb) /\
  Dn ((Rh gx (xs.drop k)).bind fun ys'=>.ok (.lst (zs++ys'))) (fun x=>∀v H',La H H'->Lc K B H0 H σ (Γ.set i .U) ρ F R .F x v H'->Q v H') (fun e=>∀H',La H0 H'->EX e H'),
  ⟨xs.length,[],[],G1,by simp,Ng _,Db _,La.refl _,⟨rfl,rfl⟩,by simpa using htr,by simp,fun _ h=>h,by simp,by simpa using d⟩, ?_⟩
 rintro k m ys H2 ⟨zs,Gz,Gb,rfl,hk,hyl,s2,tz,tb,z1,z2,z3,dn⟩;refine⟨Il (by lia), ?_⟩;cases hx:xs[k]? with
 |none =>
  have hge:=Ts.mp hx;refine .inl ⟨⟨vs,(Yb.of (s2 _ _ ha)),by lia⟩,fun p hp=>?_⟩;have hd:xs.drop k=[]:=Ez hge;rw[hd] at dn;have dn':∀v H',La H H'->Lc K B H0 H σ (Γ.set i .U) ρ F R .F (.lst (zs++[])) v H'->Q v H':=dn;rw[Rs] at dn';refine dn' _ _ (s2.trans (La.new hp)) (Lc.newF s2 Zx (tz.same s2) (fun b hb=>⟨A.disjR i b (inF b (z1 b hb)),.inr ⟨i,inF b (z1 b hb)⟩⟩) ((AM.grow s2).less fun b hb=>?_) hp);rcases Nc.mp hb with z|z
  ·exact Zf _ (inF b (z1 b z))
  ·exact Td _ z
 |some x =>
  have hlt:k<xs.length:=(Cd.mp hx).1;have hdx:xs.drop k=x::xs.drop (k+1):=by
   rw[Tl hlt];rw[Yc hlt] at hx;cases hx;rfl
  rw[hdx] at dn tb;obtain⟨w,r,Gx,Gr,ew,t1,t2,t3,rfl⟩:=tb;have hvk:vs[k]?=some w:=by
   have:=Ef (fun l=>l[0]?) ew;simpa using this
  have hvr:vs.drop (k+1)=r:=by
   have:=Ef (fun l=>l.drop 1) ew;simpa[SC,Nat.add_comm] using this
  simp only[Rh,Rr.assoc] at dn;rw[<- hgx] at dn;simp only[Rr.assoc,Rr.bind_ok] at dn;rw[hgx] at dn;refine .inr ⟨⟨vs,w,Yb.of (s2 _ _ ha),hvk⟩,fun ys' H'=>∃zs Gz Gb,ys'.length<=k+1/\La H H'/\Trees K H zs ys' Gz/\Trees K H (xs.drop (k+1)) (vs.drop (k+1)) Gb/\(∀b∈Gz,b∈G1)/\(∀b∈Gb,b∈G1)/\(∀b∈Gz,b ∉ Gb) /\
   Dn ((Rh gx (xs.drop (k+1))).bind fun ys'=>.ok (.lst (zs++ys'))) (fun x=>∀v H',La H H'->Lc K B H0 H σ (Γ.set i .U) ρ F R .F x v H'->Q v H') (fun e=>∀H',La H0 H'->EX e H'),
   fun ys' H' ⟨zs,Gz,Gb,a1,a2,a3,a4,a5,a6,a7,a8⟩=>⟨xs.length-(k+1),by lia,zs,Gz,Gb,rfl,hlt,a1,a2,a3,a4,a5,a6,a7,a8⟩,fun v H3 ⟨e3,yv⟩=>?_⟩
  subst e3;have:=yv vs (Yb.of (s2 _ _ ha));rw[hvk] at this;cases this;have rx:Ta K H3 (NO B (Ae F i []) R) x w:=(t1.same s2).rep fun b hb=>by
   have hbG:=z2 b (by simp[hb]);refine⟨A.own b (A.young i b (inF b hbG)),A.disjR i b (inF b hbG),fun j z=>?_⟩;unfold Ae at z
   split at z
   ·simp at z
   ·rename_i hj
    exact A.disj i j (fun q=>hj q.symm) b (inF b hbG) z
  refine⟨[w],rfl, ?_⟩;have A3:=(A1.grow s2).push rx;refine ht B H0 H3 _ _ _ R _ A3 (dn.bind.imp (fun b _ dn H4 F4 s4 f4 A4=>?_) fun e q=>q);cases b with
  |false =>
   rw[Qa Bool.false_ne_true] at dn ⊢;simp only[Pz,Xs] at dn;exact⟨zs,Gz,Gr,by lia,s2.trans s4,tz,hvr▸t2,z1,fun b hb=>z2 b (by simp[hb]),fun b hb z=>z3 b hb (by simp[z]),dn⟩
  |true =>
   rw[Da rfl] at dn ⊢;simp only[Pz] at dn;refine⟨w, ?_,zs++[x],Gz++Gx,Gr,by simp;lia,s2.trans s4,Trees.append tz (Trees.one t1) (fun b hb z=>z3 b hb (by simp[z])),hvr▸t2,fun b hb=>?_,fun b hb=>z2 b (by simp[hb]),fun b hb z=>?_, ?_⟩
   ·rw[hn,<- l1];simp
   ·rcases Nc.mp hb with q|q
    ·exact z1 b q
    ·exact z2 b (by simp[q])
   ·rcases Nc.mp hb with q|q
    ·exact z3 b q (by simp[z])
    ·exact t3 b q z
   ·simp only[Qf]
    exact dn
end
noncomputable def frz(m:Md):Md:=if m=.O\/m=.T then .S else m
section
end
end L2
namespace HL
open PySem PyProof.Rows
section
open PySem.SeqAt
open PySem.AutoSeq1 (wpAny_loadPart')
open PySem.MeetsSeq PySem.MeetsSeq2 PySem.MeetsSeq3 SeqRoads2
end
section
end
end HL
namespace L2
open PySem PySem.Spec PyProof.Rows
section
end
def G0(K:ZlR)(B:Ja->Prop)(H0 H:Hp)(σ:St)(Γb:List Md)(ρ:LI5)(L v:Nat)(a:Ja)(vs:List V)(xs:LI5)(G Gx:LI2):Prop:=
 Ag K B H0 H σ Γb ρ (fun _=>[]) (a::(G++Gx))/\σ[L]?=some (some (.ref a))/\gv L ρ=.lst xs/\H a=some (.lst vs)/\Trees K H xs vs G/\a ∉ G/\∃w,σ[v]?=some (some w)/\vs[0]?=some w/\xs[0]?=some (gv v ρ)
section
end
section
open Builtin Builtin.Str
end
section
variable {K:ZlR}{B:Ja->Prop}{EX:PX->Hp->Prop}{H0 H:Hp}{σ:St}{Γ Γ':List Md}{ρ:LI5}{F:Nat->LI2}{R:LI2}
theorem ZeB(ha:Ce K EX Γ Γ' ta fa): DE K EX Γ Γ' .A (JM ta) (fun ρ=>(fa ρ).bind mkL):=fun B H0 H σ ρ F R Q A d=>by
 refine ha B H0 H σ ρ F R _ A (d.bind.imp (fun xs _ d vs H1 F1 s1 f1 p1 A1=>?_) fun e q=>q);obtain⟨hl,d⟩:=Dn.mkL d;refine⟨by rw[p1.length];exact D8 hl,fun p hp=>?_⟩;have e:=La.new (H:=H1) (o:=.lst vs) hp;exact d _ _ (s1.trans e) ⟨F1,f1,⟨p,vs,rfl,.inl ⟨.inl Uf,trivial⟩,p1.same e⟩,A1.grow e⟩
end
section
variable {κ:Type} [DecidableEq κ]
noncomputable def Ym(Ub:List (κ×V))(k:κ):Option V:=(Ub.find? fun kv=>decide (kv.1=k)).map (·.2)
noncomputable def Ml(Ub:List (κ×V))(k:κ)(v:V):List (κ×V):=
 if (Ub.any fun kv=>decide (kv.1=k))=true then Ub.map (fun kv=>if kv.1=k then (kv.1,v) else kv) else Ub++[(k,v)]
theorem GC{p: κ×V}(e:p.1=k): Ym (p::r) k=some p.2:=by simp[Ym,Fz,e]
theorem FC{p: κ×V}(e:¬p.1=k): Ym (p::r) k=Ym r k:=by simp[Ym,Fz,e]
theorem ZaN(k:κ):∀Ub:List (κ×V),(Ub.any fun kv=>decide (kv.1=k))=(Ym Ub k).isSome
 |[]=>rfl
 |p::r=>by
  rw[Ou];by_cases e:p.1=k
  ·simp only[GC e,Hb e,Bool.true_or,Option.isSome_some]
  ·rw[FC e,Fb e,Bool.false_or];exact ZaN k r
theorem HV(Ub:List (κ×V))(k:κ)(v:V):(Ml Ub k v).length<=Ub.length+1:=by
 unfold Ml
 split
 ·rw[Pb];lia
 ·rw[Gj,Ci,Kz];lia
theorem Ln.isSome_eq(r:Ln o u): o.isSome=u.isSome:=by
 cases o with
 |none=>cases u with
  |none=>rfl
  |some _=>exact(show False from r).elim
 |some _=>cases u with
  |none=>exact(show False from r).elim
  |some _=>rfl
theorem KV.val{Ub:List (κ×V)}{vs:List (κ×Va)}(r:KV Ub vs)(k:κ):Ln (Ym Ub k) (valueAt vs k):=by
 unfold KV at r
 induction r with
 |nil=>exact True.intro
 |@cons p q ps qs h t ih =>
  obtain⟨h1,h2⟩:=h;by_cases e:p.1=k
  ·have e':q.1=k:=h1.symm.trans e
   have b:valueAt (q::qs) k=some q.2:=by simp[valueAt,Fz,e']
   rw[GC e,b];exact h2
  ·have e':¬q.1=k:=fun z=>e (h1.trans z)
   have b:valueAt (q::qs) k=valueAt qs k:=by simp[valueAt,Fz,e']
   rw[FC e,b];exact ih
theorem KV.any(r:KV Ub vs)(k:κ): (Ub.any fun kv=>decide (kv.1=k))=vs.any fun kv=>decide (kv.1=k):=by
 unfold KV at r
 induction r with
 |nil=>rfl
 |cons h t ih=>rw[Ou,Ou,ih,h.1]
theorem KV.repl(r:KV Ub vs)(k:κ)(ry:Ob y u):
  KV (Ub.map fun kv=>if kv.1=k then (kv.1,y) else kv) (vs.map fun kv=>if kv.1=k then (kv.1,u) else kv):=by
 unfold KV at r ⊢
 induction r with
 |nil=>exact .nil
 |@cons p q ps qs h t ih =>
  rw[Ed,Ed];refine .cons ?_ ih;obtain⟨h1,h2⟩:=h;by_cases e:p.1=k
  ·rw[Da e,Da (h1.symm.trans e)];exact⟨h1,ry⟩
  ·rw[Qa e,Qa (fun z=>e (h1.trans z))];exact⟨h1,h2⟩
theorem KV.put(r:KV Ub vs)(k:κ)(ry:Ob y u): KV (Ml Ub k y) (stored vs k u):=by
 unfold Ml stored;rw[r.any k];by_cases e:(vs.any fun kv=>decide (kv.1=k))=true
 ·rw[Da e,Da e];exact r.repl k ry
 ·rw[Qa e,Qa e];exact Paired.snoc r ⟨rfl,ry⟩
theorem KV.length(r:KV Ub vs): Ub.length=vs.length:=Paired.length r
end
theorem V3(r:Ob (kV k) u): (Uk P w).is k u=true:=by
 cases k with
 |inl i=>obtain⟨t,e⟩:=(show ∃t,u=Value.int i t from r);subst e;exact Zib P w i t
 |inr x=>obtain⟨t,e⟩:=(show ∃t,u=Value.str x t from r);subst e;exact Zic P w x t
theorem TU: ∀{ks:List Sb}{us:LI3},Ab (ks.map kV) us->ItemsAre (Uk P w) ks us
 |[],_,r=>by rw[X5] at r;cases r;exact .nil
 |k::ks,_,r=>by
  rw[Ed] at r;cases r with
  |cons h t=>exact .cons (V3 h) (TU t)
noncomputable abbrev KT(H:Hp):List (List Sb×V)->List (List Sb×Ja×Va)->Prop:=Paired fun p q=>p.1=q.1/\H q.2.1=some (.tup (p.1.map kV))/\Ob p.2 q.2.2
theorem KT.val{H:Hp}{Ub:List (List Sb×V)}{xs:List (List Sb×Ja×Va)}(r:KT H Ub xs)(k:List Sb):Ln (Ym Ub k) ((atKey xs k).map (·.2)):=by
 induction r with
 |nil=>exact True.intro
 |@cons p q ps qs h t ih =>
  obtain⟨h1,_,h2⟩:=h;by_cases e:p.1=k
  ·have e':q.1=k:=h1.symm.trans e
   have b:atKey (q::qs) k=some q.2:=by simp[atKey,Fz,e']
   rw[GC e,b];exact h2
  ·have e':¬q.1=k:=fun z=>e (h1.trans z)
   have b:atKey (q::qs) k=atKey qs k:=by simp[atKey,Fz,e']
   rw[FC e,b];exact ih
theorem KT.repl(r:KT H Ub xs)(k:List Sb)(ry:Ob y u):
  KT H (Ub.map fun kv=>if kv.1=k then (kv.1,y) else kv) (xs.map (putAt k u)):=by
 induction r with
 |nil=>exact .nil
 |@cons p q ps qs h t ih =>
  rw[Ed,Ed];refine .cons ?_ ih;obtain⟨h1,h2,h3⟩:=h;unfold putAt;by_cases e:p.1=k
  ·rw[Da e,Da (h1.symm.trans e)];exact⟨h1,h2,ry⟩
  ·rw[Qa e,Qa (fun z=>e (h1.trans z))];exact⟨h1,h2,h3⟩
theorem KT.put(r:KT H Ub xs)(k:List Sb)(hb:H b=some (.tup (k.map kV)))(ry:Ob y u):
  KT H (Ml Ub k y) (storedH xs k b u):=by
 have e:(Ub.any fun kv=>decide (kv.1=k))=(atKey xs k).isSome:=by
  rw[ZaN,(r.val k).isSome_eq,RN]
 unfold Ml storedH;rw[e];by_cases q:(atKey xs k).isSome=true
 ·rw[Da q,Da q];exact r.repl k ry
 ·rw[Qa q,Qa q];exact Paired.snoc r ⟨rfl,hb,ry⟩
theorem KT.keeps(r:KT H Ub xs)(ht:∀b ys,H b=some (.tup ys)->H' b=some (.tup ys)): KT H' Ub xs:=
 Paired.mapP r fun _ _ z=>⟨z.1,ht _ _ z.2.1,z.2.2⟩
section
variable {P:Bc}{w:Jc}{H:Hp}{h:Heap}{a:Ja}
theorem P9(ok:He P w H h)(e:Rd H a u): Wf P w H h a u:=e.ok ok
theorem D2(ok:He P w H h)(e:Rd H a (.dK Ub)): Ub.length<=Cc/\(a==Ij)=false/\∃vs,KV Ub vs/\h.DictOf (Uk P w) a vs:=
 show Wf P w H h a (.dK Ub) from P9 ok e
theorem ZeW(ok:He P w H h)(e:H a=some (.dK Ub)): Ub.length<=Cc/\(a==Ij)=false/\∃vs,KV Ub vs/\h.DictOf (Uk P w) a vs:=D2 ok (.inl e)
theorem Pw(ok:He P w H h)(e:H a=some (.tup (ks.map kV))): (tupleKind (Uk P w)).is h ks a:=by
 obtain⟨_,its,r,o,h1,h2,n,h3⟩:=(show Wf P w H h a (.tup (ks.map kV)) from ok a _ e)
 exact⟨o,its.toArray,n,h1,h2,h3,by simpa using TU r⟩
theorem K2(ok:He P w H h)(e:Rd H a (.dT Ub)): Ub.length<=Cc/\(a==Ij)=false /\
  ∃xs,KT H Ub xs/\h.DictOfH (tupleKind (Uk P w)) a xs:=by
 obtain⟨z,y,xs,r,o,es,ep,h1,h2,h3,h4,h5⟩:=(show Wf P w H h a (.dT Ub) from P9 ok e)
 refine⟨z,y,xs,r,o,es,ep,h1,h2,h3,h4,fun x hx=>?_,h5⟩;have all:∀{l:List (List Sb×V)}{m:List (List Sb×Ja×Va)},KT H l m->∀x∈m,(tupleKind (Uk P w)).is h x.1 x.2.1:=by
  intro l m q
  induction q with
  |nil=>intro x hx;exact nomatch hx
  |@cons p q ps qs hq t ih =>
   intro x hx;rcases Vd.mp hx with e|hx
   ·subst e
    exact Pw ok (by rw[<- hq.1];exact hq.2.1)
   ·exact ih x hx
 exact all r x hx
theorem IS(ok:He P w H h)(e:H a=some (.dT Ub)): Ub.length<=Cc/\(a==Ij)=false /\
  ∃xs,KT H Ub xs/\h.DictOfH (tupleKind (Uk P w)) a xs:=K2 ok (.inl e)
end
def Xq(H:Hp)(a:Ja)(y:V)(r:Option V):Prop:=
 (∃Ub k,Rd H a (.dK Ub)/\y=kV k/\r=Ym Ub k)\/∃Ub k b,Rd H a (.dT Ub)/\y=.ref b/\H b=some (.tup (k.map kV))/\r=Ym Ub k
def BO(H:Hp)(a:Ja)(y v:V)(H':Hp):Prop:=
 (∃Ub k,H a=some (.dK Ub)/\y=kV k/\Ub.length<Cc/\H'=upd H a (.dK (Ml Ub k v))) \/
 ∃Ub k b,H a=some (.dT Ub)/\y=.ref b/\H b=some (.tup (k.map kV))/\Ub.length<Cc/\H'=upd H a (.dT (Ml Ub k v))
section
variable {X:Cx}{Za:List (Ja×Obj)}{σ:St}{H:Hp}{s:Ga}{a:Ja}{y v:V}{u r:Va}{o:Option V}{A:Pd}{E:Va->Ga->Prop}
theorem Ca.big(I:Ca X Za σ H s):Ij<s.heap.objs.size:=by
 have h:Tg<s.heap.objs.size:=(I.mod.glob.keeps I.bk).lt;exact Nat.lt_trans (by decide) h
theorem Zea(hu:A.units+1<cLine)(I:Ca X Za σ H s)(g:Xq H a y (some v))(ry:Ob y u)(h:∀w' s',Ca X Za σ H s'->Ob v w'->Q w' s'):
  Ra (Na X.prog X.w) A (getItem (.ref a) u) Q E s:=by
 rcases g with ⟨Ub,k,e,ey,l⟩|⟨Ub,k,b,e,ey,eb,l⟩
 ·subst ey
  obtain⟨z,hd,vs,rel,dd⟩:=D2 I.hok e;obtain⟨w',hw,rw'⟩:=Ln.some_of (v:=v) (o:=valueAt vs k) (by rw[l];exact rel.val k);exact wpAny_getItem_of (V3 ry) dd.mapOf hw (h w' _ (I.tok _) rw')
 ·subst ey
  cases (show u=Value.ref b from ry);obtain⟨z,hd,xs,rel,dd⟩:=K2 I.hok e;obtain⟨w',hw,rw'⟩:=Ln.some_of (v:=v) (o:=(atKey xs k).map (·.2)) (by rw[l];exact rel.val k);obtain⟨p,hp,hp2⟩:=SN.mp hw;refine wpAny_getItem_heap (OD hu) (Pw I.hok eb) dd hp ?_;rw[hp2];exact h w' _ (I.tok _) rw'
theorem Zeb(hu:A.units+1<cLine)(I:Ca X Za σ H s)(g:Xq H a y o)(ry:Ob y u)(h:∀s',Ca X Za σ H s'->Q (.bool o.isSome) s'):
  Ra (Na X.prog X.w) A (Hj .In u (.ref a)) Q E s:=by
 rcases g with ⟨Ub,k,e,ey,l⟩|⟨Ub,k,b,e,ey,eb,l⟩
 ·subst ey
  obtain⟨z,hd,vs,rel,dd⟩:=D2 I.hok e;refine wpAny_in_of (V3 ry) hd dd.mapOf ?_;rw[<- (rel.val k).isSome_eq,<- l];exact h _ (I.tok _)
 ·subst ey
  cases (show u=Value.ref b from ry);obtain⟨z,hd,xs,rel,dd⟩:=K2 I.hok e;refine wpAny_in_heap (OD hu) (Pw I.hok eb) hd dd ?_;have q:=(rel.val k).isSome_eq;rw[RN] at q;rw[<- q,<- l];exact h _ (I.tok _)
theorem Zel(hu:A.units+1<cLine)(I:Ca X Za σ H s)(g:Xq H a y o)(ry:Ob y u)(h:∀s',Ca X Za σ H s'->Q (.bool (!o.isSome)) s'):
  Ra (Na X.prog X.w) A (Hj .NotIn u (.ref a)) Q E s:=by
 rcases g with ⟨Ub,k,e,ey,l⟩|⟨Ub,k,b,e,ey,eb,l⟩
 ·subst ey
  obtain⟨z,hd,vs,rel,dd⟩:=D2 I.hok e;refine wpAny_notIn_of (V3 ry) hd dd.mapOf ?_;rw[<- (rel.val k).isSome_eq,<- l];exact h _ (I.tok _)
 ·subst ey
  cases (show u=Value.ref b from ry);obtain⟨z,hd,xs,rel,dd⟩:=K2 I.hok e;refine wpAny_notIn_heap (OD hu) (Pw I.hok eb) hd dd ?_;have q:=(rel.val k).isSome_eq;rw[RN] at q;rw[<- q,<- l];exact h _ (I.tok _)
theorem RG(I:Ca X Za σ H s)(mu:Y0 (H a))(hs:Heap.SameBut a s.heap h')(he:∃q,h'.get? a=some q)(new:Wf X.prog X.w (upd H a ob) h' a ob):
  Ca X Za σ (upd H a ob) { s with heap:=h',toks:=t' }:=
 I.write (x:=a) (e:=a) mu (.inl rfl) (fun b q hb z=>(hs.2 b hb).trans z) he new
theorem ZeV(z:Ub.length<=Cc)(hd:(a==Ij)=false)(rel:KV Ub vs)(dd:h'.DictOf (Uk P w) a vs):
  Wf P w H' h' a (.dK Ub):=⟨z,hd,vs,rel,dd⟩
theorem Zep(hu:A.units+1<cLine)(I:Ca X Za σ H s)(g:BO H a y v H')(ry:Ob y u)(rv:Ob v r)(h:∀s',Ca X Za σ H' s'->Q () s'):
  Ra (Na X.prog X.w) A (setItem (.ref a) u r) Q E s:=by
 rcases g with ⟨Ub,k,e,ey,l,eH⟩|⟨Ub,k,b,e,ey,eb,l,eH⟩
 ·subst ey eH
  obtain⟨z,hd,vs,rel,dd⟩:=ZeW I.hok e;have hz:vs.length<=Cc:=by rw[<- rel.length];exact z
  have hl:(Ml Ub k v).length<=Cc:=by have:=HV Ub k v;lia
  refine wpAny_setItem_pairs (hsz:=hz) (V3 ry) dd fun h' dd' hs=>h _ ?_;have he:∃q,h'.get? a=some q:=let ⟨q,_,_,hq,_⟩:=dd';⟨q,hq⟩;exact RG I (by rw[e];exact True.intro) hs he (ZeV hl hd (rel.put k rv) dd')
 ·subst ey eH
  cases (show u=Value.ref b from ry);obtain⟨z,hd,xs,rel,dd⟩:=IS I.hok e;have hz:xs.length<=Cc:=by rw[<- Paired.length rel];exact z
  have hl:(Ml Ub k v).length<=Cc:=by have:=HV Ub k v;lia
  refine wpAny_setItem_heap (hsz:=hz) (OD hu) (Pw I.hok eb) dd fun h' dd' hs=>h _ ?_;obtain⟨q,es,ep,hq,h2,h3,h4,_,h5⟩:=dd';refine RG I (by rw[e];exact True.intro) hs ⟨q,hq⟩ ⟨hl,hd,_,(rel.put k eb rv).keeps fun c ys ec=>?_,q,es,ep,hq,h2,h3,h4,h5⟩;rw[Rb (QJ ec e (fun z=>nomatch z))];exact ec
end
def XO(i:Expr):Prop:=∀ov iv,subscripted i false ov iv=operate [ov,iv] (getItem ov iv)
theorem ZkK{prog:Bc}{w:Jc}{A:Pd}{E:Va->Ga->Prop}{s:Ga}{env:Env}{value slice:Expr}{pos:Pos}{T id:String}{Q:Va->Ga->Prop}(hl:typeLookup (.type T) "__getitem__"=pure (some (.builtin id)))(hs:XO slice)(h:Ra (Na prog w) A (eval value env) (fun o s₁=>Ra (Na prog w) A (eval slice env) (fun i s₂=>s₂.TypeIs o T/\Ra (Na prog w) A (getItem o i) Q E s₂) E s₁) E s) :
  Ra (Na prog w) A (eval (.Subscript value slice pos) env) Q E s:=by
 refine Subscript_ (Vf h (fun o s₁ h₁=>Vf h₁ (fun i s₂ h₂=>?_) fun _ _ x=>x) fun _ _ x=>x);obtain⟨hT,h₂⟩:=h₂;unfold subscriptTail;refine Ia ?_;rw[getitemInPython_of_ne hT.not_modules];refine Ia (wpAny_specialOf hT hl ?_);have fin:Ra (Na prog w) A (subscripted slice false o i) (fun r s₃=>Ra (Na prog w) A (letTemporaryGo value o r >>= fun _=>pure r) Q E s₃) E s₂:=by
  rw[hs o i];exact wpAny_operating (Vf h₂ (fun r s₃ h₃=>Ia (wpAny_letTemporaryGo (Ib h₃))) fun _ _ x=>x)
 first
  |exact Ib (Ia fin)
  |exact Ia (Ib (Ia fin))
  |exact Ia fin
theorem ZeU(I:Ca X Za σ H s)(g:Xq H a y o): s.TypeIs (.ref a) "dict":=by
 rcases g with ⟨Ub,k,e,_,_⟩|⟨Ub,k,b,e,_,_,_⟩
 ·obtain⟨_,_,vs,_,dd⟩:=D2 I.hok e
  exact dd.typeIs
 ·obtain⟨_,_,xs,_,dd⟩:=K2 I.hok e
  exact dd.typeIs
noncomputable def Zap(td ty:TE):TE:=fun σ H Q=>td σ H fun x H1=>ty σ H1 fun y H2=>∃a v,x=.ref a/\Xq H2 a y (some v)/\Q v H2
noncomputable def Zaq(ty td:TE):TE:=fun σ H Q=>ty σ H fun y H1=>td σ H1 fun x H2=>∃a o,x=.ref a/\Xq H2 a y o/\Q (.bl o.isSome) H2
noncomputable def Zas(ty td:TE):TE:=fun σ H Q=>ty σ H fun y H1=>td σ H1 fun x H2=>∃a o,x=.ref a/\Xq H2 a y o/\Q (.bl (!o.isSome)) H2
noncomputable def AZ(td ty tv:TE):TS:=fun D σ H=>tv σ H fun v H1=>td σ H1 fun x H2=>ty σ H2 fun y H3=>∃a H4,x=.ref a/\BO H3 a y v H4/\D.nx σ H4
section
variable {X:Cx}{o i value:Expr}{pos pos':Pos}{td ty tv:TE}
theorem Au(hu:X.A.units+1<cLine)(ho:PE X o td)(hi:PE X i ty)(hs:XO i):PE X (.Subscript o i pos) (Zap td ty):=by
 intro Za s σ H Q I h;refine ZkK PySem.F.slot_dict_getitem.lookup hs (Qb (ho Za s σ H _ I h) fun u s1 ⟨x,H1,I1,rx,q1⟩=>Qb (hi Za s1 σ H1 _ I1 q1) fun iv s2 ⟨y,H2,I2,ry,a,v,ex,g,q2⟩=>?_);subst ex;obtain rfl:u=Value.ref a:=rx;exact⟨ZeU I2 g,Zea hu I2 g ry fun w' s3 I3 rw'=>⟨v,H2,I3,rw',q2⟩⟩
theorem Zjx(hu:X.A.units+1<cLine)(hi:PE X i ty)(ho:PE X o td):PC X .In i o (Zaq ty td):=by
 intro Za s σ H Q I h;refine Qb (hi Za s σ H _ I h) fun iv s1 ⟨y,H1,I1,ry,q1⟩=>Qb (ho Za s1 σ H1 _ I1 q1) fun u s2 ⟨x,H2,I2,rx,a,ov,ex,g,q2⟩=>?_;subst ex;obtain rfl:u=Value.ref a:=rx;exact Zeb hu I2 g ry fun s3 I3=>⟨.bl ov.isSome,H2,I3,rfl,q2⟩
theorem Zjy(hu:X.A.units+1<cLine)(hi:PE X i ty)(ho:PE X o td):PC X .NotIn i o (Zas ty td):=by
 intro Za s σ H Q I h;refine Qb (hi Za s σ H _ I h) fun iv s1 ⟨y,H1,I1,ry,q1⟩=>Qb (ho Za s1 σ H1 _ I1 q1) fun u s2 ⟨x,H2,I2,rx,a,ov,ex,g,q2⟩=>?_;subst ex;obtain rfl:u=Value.ref a:=rx;exact Zel hu I2 g ry fun s3 I3=>⟨.bl (!ov.isSome),H2,I3,rfl,q2⟩
theorem ZY(hu:X.A.units+1<cLine)(ho:PE X o td)(hi:PE X i ty)(hv:PE X value tv)(hs:swapsWith value (some (.Subscript o i pos')) pos.line X.env=pure false) :
  PS X (.Assign [.Subscript o i pos'] value pos) (AZ td ty tv):=by
 intro Za s σ H D I h;refine wpAny_Assign_Subscript (Qb (hv Za s σ H _ I h) fun r s1 ⟨v,H1,I1,rv,q1⟩=>Qb (ho Za s1 σ H1 _ I1 q1) fun u s2 ⟨x,H2,I2,rx,q2⟩=>Qb (hi Za s2 σ H2 _ I2 q2) fun iv s3 ⟨y,H3,I3,ry,a,H4,ex,g,q3⟩=>?_) hs;subst ex;obtain rfl:u=Value.ref a:=rx;exact Zep hu I3 g ry rv fun s4 I4=>⟨σ,H4,I4,q3⟩
end
theorem HS(h:Heap)(hb:Ij<h.objs.size): Wf P w H (h.push { cls:=.type "dict",data:=.dict #[] }) h.objs.size (.dT []):=
 ⟨Ng _,beq_eq_false_iff_ne.mpr (Ne.symm (Jf hb)),[],.nil,_,#[],0,Heap.get?_push_size _ rfl,⟨rfl,rfl,rfl⟩,rfl,rfl,List.nodup_nil⟩
noncomputable def Zar:TE:=fun _ H Q=>∀p,H p=none->Q (.ref p) (upd H p (.dT []))
section
variable {X:Cx}{pos:Pos}
theorem ZjC:PE X (.Dict [] [] pos) Zar:=fun Za s σ H Q I h =>
 wpAny_Dict_empty ⟨.ref s.heap.objs.size,_,I.laid (a:=s.heap.objs.size) (o:=.dT []) (t':=s.toks) (fun _ _ q=>Heap.get?_push_of_some _ q) (Db _) (HS s.heap I.big),rfl,h _ (I.hok.fresh (Db _))⟩
end
noncomputable def QC:List (TE×TE)->St->Hp->(List (V×V)->Hp->Prop)->Prop
 |[],_,H,Q=>Q [] H
 |(tk,tv)::r,σ,H,Q=>tk σ H fun x H1=>tv σ H1 fun y H2=>QC r σ H2 fun ps H3=>Q ((x,y)::ps) H3
noncomputable abbrev VV:List (V×V)->List (Va×Va)->Prop:=Paired fun p q=>Ob p.1 q.1/\Ob p.2 q.2
def JF(X:Cx)(pos:Pos)(keys:List (Option Expr))(values:List Expr)(trs:List (TE×TE)):Prop:=
 ∀(Za:List (Ja×Obj)) (s:Ga) (σ:St) (H:Hp) (Q:List (V×V)->Hp->Prop),Ca X Za σ H s->QC trs σ H Q ->
  Ra (Na X.prog X.w) X.A (evalPairs (pairTrees keys values X.env pos)) (fun vs s'=>∃ps H',Ca X Za σ H' s'/\VV ps vs/\Q ps H') X.xe s
theorem ZjR: JF X pos [] [] []:=fun Za s σ H Q I h=>pairTrees_nil_walk ⟨[],H,I,.nil,h⟩
theorem ZjQ(hk:PE X k tk)(hv:PE X v tv)(hr:JF X pos ks vs trs):
  JF X pos (some k::ks) (v::vs) ((tk,tv)::trs):=fun Za s σ H Q I h =>
 pairTrees_cons_walk (Qb (hk Za s σ H _ I h) fun u s1 ⟨x,H1,I1,rx,q1⟩=>Qb (hv Za s1 σ H1 _ I1 q1) fun w2 s2 ⟨y,H2,I2,ry,q2⟩ =>
  Qb (hr Za s2 σ H2 _ I2 q2) fun ws s3 ⟨ps,H3,I3,rel,q3⟩=>⟨(x,y)::ps,H3,I3,.cons ⟨rx,ry⟩ rel,q3⟩)
section
end
noncomputable def Vk:Sb->PV
 |.inl i=>.int i
 |.inr x=>.str x
noncomputable def Ow:PV->Option Sb
 |.int i=>some (.inl i)
 |.str x=>some (.inr x)
 |_=>none
noncomputable def Rp:LI5->Option (List Sb)
 |[]=>some []
 |x::xs=>match Ow x,Rp xs with
  |some k,some ks=>some (k::ks)
  |_,_=>none
theorem CI(h:Ow x=some k): x=Vk k:=by
 cases x<;>first|(cases h;rfl)|cases h
theorem Z8:∀{xs:LI5}{ks:List Sb},Rp xs=some ks->xs=ks.map Vk
 |[],ks,h=>by cases h;rfl
 |x::xs,ks,h=>by
  unfold Rp at h
  split at h
  ·rename_i k ks' h1 h2
   cases h;rw[CI h1,Z8 h2];rfl
  ·cases h
@[simp] theorem ZlP(k:Sb):Ow (Vk k)=some k:=by cases k<;>rfl
@[simp] theorem J8:∀ks:List Sb,Rp (ks.map Vk)=some ks
 |[]=>rfl
 |k::ks=>by simp[Rp,J8 ks]
section
variable {K:ZlR}{H:Hp}{S:Ja->Prop}
theorem PK(h:Ta K H S (Vk k) v): v=kV k:=by cases k<;>exact h
theorem S9:∀{ks:List Sb}{vs:List V},Reps K H S (ks.map Vk) vs->vs=ks.map kV
 |[],_,h=>h
 |k::ks,_,h=>by
  obtain⟨v,r,rfl,h1,h2⟩:=h;rw[PK h1,S9 h2];rfl
end
section
variable {κ:Type} [DecidableEq κ] {α:Type}
noncomputable def Wc:List κ->List α->κ->Option α
 |k'::ks,x::xs,k=>if k'=k then some x else Wc ks xs k
 |_,_,_=>none
noncomputable def Iq:List κ->List α->κ->α->List α
 |k'::ks,x::xs,k,y=>(if k'=k then y else x)::Iq ks xs k y
 |_,_,_,_=>[]
noncomputable def YI(k:κ)(ks:List κ):Bool:=decide (k∈ks)
theorem JW{k: κ}(h:YI k ks=false): k ∉ ks:=of_decide_eq_false h
noncomputable def Io(ks:List κ)(k:κ):List κ:=if k∈ks then ks else ks++[k]
noncomputable def Mk(ks:List κ)(xs:List α)(k:κ)(y:α):List α:=if k∈ks then Iq ks xs k y else xs++[y]
theorem MZ:∀{ks:List κ}{xs:List α}{k:κ}{y:α},ks.length=xs.length->(Iq ks xs k y).length=ks.length
 |[],[],_,_,_=>rfl
 |k'::ks,x::xs,k,y,h=>by simp[Iq,MZ (ks:=ks) (xs:=xs) (k:=k) (y:=y) (by simpa using h)]
 |[],_::_,_,_,h=>by simp at h
 |_::_,[],_,_,h=>by simp at h
theorem AY{ks: List κ}{xs: List α}(h:ks.length=xs.length): (Io ks k).length=(Mk ks xs k y).length:=by
 unfold Io Mk
 split
 ·rw[MZ h]
 ·simp[h]
theorem LM:∀{ks:List κ}{vs:List V}{k:κ},ks.length=vs.length->Ym (ks.zip vs) k=Wc ks vs k
 |[],[],_,_=>rfl
 |k'::ks,v::vs,k,h=>by
  rw[FD];unfold Wc;by_cases e:k'=k
  ·rw[GC e,Da e]
  ·rw[FC e,Qa e,LM (by simpa using h)]
 |[],_::_,_,h=>by simp at h
 |_::_,[],_,h=>by simp at h
theorem FF:∀{ks:List κ}{vs:List V}{k:κ},ks.length=vs.length->(((ks.zip vs).any fun kv=>decide (kv.1=k))=true ↔ k∈ks)
 |[],[],_,_=>by simp
 |k'::ks,v::vs,k,h=>by
  rw[FD,Ou,Bool.or_eq_true,FF (by simpa using h),Vd,decide_eq_true_eq];exact⟨fun z=>z.imp Eq.symm id,fun z=>z.imp Eq.symm id⟩
 |[],_::_,_,h=>by simp at h
 |_::_,[],_,h=>by simp at h
theorem NZ:∀{ks:List κ}{vs:List V}{k:κ}{y:V},ks.length=vs.length->((ks.zip vs).map fun kv=>if kv.1=k then (kv.1,y) else kv)=ks.zip (Iq ks vs k y)
 |[],[],_,_,_=>rfl
 |k'::ks,v::vs,k,y,h=>by
  rw[FD,Ed,NZ (by simpa using h)];show _=(k'::ks).zip ((if k'=k then y else v)::Iq ks vs k y);by_cases e:k'=k
  ·rw[Da e,Da e];rfl
  ·rw[Qa e,Qa e];rfl
 |[],_::_,_,_,h=>by simp at h
 |_::_,[],_,_,h=>by simp at h
theorem VY{ks: List κ}{vs: List V}(h:ks.length=vs.length): Ml (ks.zip vs) k y=(Io ks k).zip (Mk ks vs k y):=by
 unfold Ml Io Mk;by_cases c:k∈ks
 ·rw[Da ((FF h).mpr c),Da c,Da c,NZ h]
 ·rw[Qa (fun z=>c ((FF h).mp z)),Qa c,Qa c,List.zip_append h];rfl
end
section
variable {κ:Type} [DecidableEq κ] {K:ZlR}{H:Hp}{S:Ja->Prop}
theorem JZ:∀{ks:List κ}{xs:LI5}{vs:List V}{k:κ},Reps K H S xs vs->match Wc ks xs k with
  |some y=>∃v,Wc ks vs k=some v/\Ta K H S y v
  |none=>Wc ks vs k=none
 |[],xs,vs,k,h=>by simp[Wc]
 |k'::ks,[],vs,k,h=>by rw[h];simp[Wc]
 |k'::ks,x::xs,vs,k,h=>by
  obtain⟨v,r,rfl,h1,h2⟩:=h;unfold Wc;by_cases e:k'=k
  ·rw[Da e,Da e];exact⟨v,rfl,h1⟩
  ·rw[Qa e,Qa e];exact JZ h2
theorem ZaI:∀{ks:List κ}{xs:LI5}{vs:List V}{G:LI2}{k:κ}{y:PV}{w:V},ks.length=xs.length->Trees K H xs vs G->Dc K H y w []->∃G',(∀a∈G',a∈G)/\Trees K H (Iq ks xs k y) (Iq ks vs k w) G'
 |[],[],vs,G,k,y,w,_,h,_=>⟨[],by simp,by rw[h.1];exact⟨rfl,rfl⟩⟩
 |k'::ks,x::xs,vs,G,k,y,w,hl,h,hy=>by
  obtain⟨v,r,G1,G2,rfl,h1,h2,h3,rfl⟩:=h;obtain⟨G',g1,g2⟩:=ZaI (ks:=ks) (k:=k) (y:=y) (w:=w) (by simpa using hl) h2 hy;unfold Iq;by_cases e:k'=k
  ·rw[Da e,Da e]
   exact⟨G',fun a ha=>Td _ (g1 a ha),w,_,[],G',rfl,hy,g2,by simp,rfl⟩
  ·rw[Qa e,Qa e]
   refine⟨G1++G',fun a ha=>?_,v,_,G1,G',rfl,h1,g2,fun a ha z=>h3 a ha (g1 a z),rfl⟩;rcases Nc.mp ha with z|z
   ·exact Zf _ z
   ·exact Td _ (g1 a z)
 |[],_::_,_,_,_,_,_,hl,_,_=>by simp at hl
 |_::_,[],_,_,_,_,_,hl,_,_=>by simp at hl
theorem Dc.flatG(f:x.flat=true)(h:Dc K H x v G): Dc K H x v []:=Ta.tree f (h.rep (S:=fun _=>True) fun _ _=>trivial)
end
section
variable {K:ZlR}{B:Ja->Prop}{EX:PX->Hp->Prop}{H0 H H':Hp}{σ:St}{Γ Γ' Γ1 Γ2 Γ3:List Md}{ρ:LI5}{F F':Nat->LI2}{R:LI2}{ta tb:TE}{f fa fb:LI5->Rr PV}{k:Kd}
theorem Lc.newBox(s1:La H H1)(f1:∀i,∀a∈F1 i,a∈F i)(hb:Jv K s vs u)(p1:Reps K H1 S xs vs)(hx:PV.flats xs=true)(A1:Ag K B H0 H1 σ Γ' ρ F1 R)(hp:H1 p=none):
  Lc K B H0 H σ Γ' ρ F R .F (.box none s xs) (.ref p) (upd H1 p u):=by
 have e:La H1 (upd H1 p u):=La.new hp;refine⟨F1,f1,[p],⟨p,vs,u,[],rfl,Uf,⟨trivial,hb⟩,(Reps.trees hx p1).same e,by simp,rfl⟩,fun a ha=>?_,A1.newB hb.lv hp⟩;rw[Di.mp ha];exact⟨(A1.fresh hp).1,.inl (s1.free hp)⟩
theorem Ze6:DE K EX Γ Γ .F Zar (fun _=>.ok (.box none (.dt []) [])):=fun B H0 H σ ρ F R Q A d p hp =>
 d _ _ (La.new hp) (Lc.newBox (S:=fun _=>True) (vs:=[]) (La.refl _) (fun _ _ h=>h) ⟨rfl,rfl⟩ rfl rfl A hp)
noncomputable def Dp(x y:PV):Option (Option PV):=match x,y with
 |.box _ (.dk ks) xs,y=>(Ow y).map fun k=>Wc ks xs k
 |.box _ (.dt ks) xs,.tup ys=>(Rp ys).map fun k=>Wc ks xs k
 |_,_=>none
noncomputable def Jx(g:Bool->Bool)(y x:PV):Rr PV:=match Dp x y with
 |some o=>.ok (.bl (g o.isSome))
 |none=>.bad
noncomputable def T8(x y:PV):Rr PV:=match Dp x y with
 |some (some z)=>.ok z
 |_=>.bad
theorem MG(hx:Ta K H S x v)(hy:Ta K H (fun _=>True) y w)(e:Dp x y=some o):
  ∃a r,v=.ref a/\Xq H a w r/\r.isSome=o.isSome/\∀z,o=some z->∃u,r=some u/\Ta K H S z u:=by
 have fin:∀{κ:Type} [DecidableEq κ] {ks:List κ}{xs:LI5}{vs:List V}{k:κ},Reps K H S xs vs->o=Wc ks xs k->(Wc ks vs k).isSome=o.isSome/\∀z,o=some z->∃u,Wc ks vs k=some u/\Ta K H S z u:=fun {κ} _ {ks xs vs k} h e=>by
  have:=JZ (ks:=ks) (k:=k) h;rw[<- e] at this;cases o with
  |none=>exact⟨by rw[this];rfl,fun z q=>by cases q⟩
  |some z =>
   obtain⟨u,e1,e2⟩:=this;exact⟨by rw[e1];rfl,fun z' q=>by cases q;exact⟨u,e1,e2⟩⟩
 unfold Dp at e
 split at e
 ·rename_i p ks xs
  obtain⟨a,vs,u,rfl,hr,⟨_,hl,rfl⟩,hxs⟩:=hx;cases ek:Ow y with
  |none=>rw[ek] at e;cases e
  |some k =>
   rw[ek] at e;cases e;rw[CI ek] at hy;obtain⟨g1,g2⟩:=fin (ks:=ks) (k:=k) hxs rfl;exact⟨a,Wc ks vs k,rfl,.inl ⟨_,k,hr.1,PK hy,(LM hl).symm⟩,g1,g2⟩
 ·rename_i p ks xs ys
  obtain⟨a,vs,u,rfl,hr,⟨_,hl,rfl⟩,hxs⟩:=hx;cases ek:Rp ys with
  |none=>rw[ek] at e;cases e
  |some k =>
   rw[ek] at e;cases e;rw[Z8 ek] at hy;obtain⟨b,ws,rfl,hb,hws⟩:=hy;rw[S9 hws] at hb;obtain⟨g1,g2⟩:=fin (ks:=ks) (k:=k) hxs rfl;exact⟨a,Wc ks vs k,rfl,.inr ⟨_,k,b,hr.1,rfl,hb.1,(LM hl).symm⟩,g1,g2⟩
 ·cases e
theorem Ze4(ha:DE K EX Γ Γ1 .A ta fa)(hb:DE K EX Γ1 Γ2 .A tb fb):DE K EX Γ Γ2 .P (Zaq ta tb) (fun ρ=>(fa ρ).bind fun y=>(fb ρ).bind fun x=>Jx id y x):=fun B H0 H σ ρ F R Q A d=>by
 refine Nu ha hb A d.bind2 fun y x w v H' F' d s f py px A'=>?_;unfold Jx at d;cases e:Dp x y with
 |none=>rw[e] at d;exact d.elim
 |some o =>
  rw[e] at d;obtain⟨a,r,rfl,g1,g2,_⟩:=MG px py e;exact⟨a,r,rfl,g1,by rw[g2];exact d _ _ s ⟨F',f,rfl,rfl,A'⟩⟩
theorem Ze7(ha:DE K EX Γ Γ1 .A ta fa)(hb:DE K EX Γ1 Γ2 .A tb fb):DE K EX Γ Γ2 .P (Zas ta tb) (fun ρ=>(fa ρ).bind fun y=>(fb ρ).bind fun x=>Jx (!·) y x):=fun B H0 H σ ρ F R Q A d=>by
 refine Nu ha hb A d.bind2 fun y x w v H' F' d s f py px A'=>?_;unfold Jx at d;cases e:Dp x y with
 |none=>rw[e] at d;exact d.elim
 |some o =>
  rw[e] at d;obtain⟨a,r,rfl,g1,g2,_⟩:=MG px py e;exact⟨a,r,rfl,g1,by rw[g2];exact d _ _ s ⟨F',f,rfl,rfl,A'⟩⟩
theorem Wt(ha:DE K EX Γ Γ1 .A ta fa)(hb:DE K EX Γ1 Γ2 .A tb fb):DE K EX Γ Γ2 .A (Zap ta tb) (fun ρ=>(fa ρ).bind fun x=>(fb ρ).bind fun y=>T8 x y):=fun B H0 H σ ρ F R Q A d=>by
 refine Nu ha hb A d.bind2 fun x y v w H' F' d s f px py A'=>?_;unfold T8 at d;cases e:Dp x y with
 |none=>rw[e] at d;exact d.elim
 |some o =>
  rw[e] at d;cases o with
  |none=>exact d.elim
  |some z =>
   obtain⟨a,r,rfl,g1,_,g3⟩:=MG px py e;obtain⟨u,rfl,hu⟩:=g3 z rfl;exact⟨a,u,rfl,g1,d _ _ s ⟨F',f,hu,A'⟩⟩
noncomputable def W8(x y z:PV):Rr PV:=match x,y with
 |.box p (.dk ks) xs,y=>match Ow y with
  |some k=>if xs.length<1000000/\(YI k ks=false\/z.flat=true) then .ok (.box p (.dk (Io ks k)) (Mk ks xs k z)) else .bad
  |none=>.bad
 |.box p (.dt ks) xs,.tup ys=>match Rp ys with
  |some k=>if xs.length<1000000/\(YI k ks=false\/z.flat=true) then .ok (.box p (.dt (Io ks k)) (Mk ks xs k z)) else .bad
  |none=>.bad
 |_,_=>.bad
theorem ZaH{κ: Type}[DecidableEq κ]{ks: List κ}{xs: LI5}{k: κ}{y: PV}(hl:ks.length=xs.length)(h:Trees K H xs vs G)(hy:Dc K H y w G2)(hd:∀a∈G,a ∉ G2)(hk:k∈ks->y.flat=true):
  ∃G',(∀a∈G',a∈G\/a∈G2)/\Trees K H (Mk ks xs k y) (Mk ks vs k w) G':=by
 unfold Mk;by_cases c:k∈ks
 ·rw[Da c,Da c]
  obtain⟨G',g1,g2⟩:=ZaI (k:=k) hl h (hy.flatG (hk c));exact⟨G',fun a ha=>.inl (g1 a ha),g2⟩
 ·rw[Qa c,Qa c]
  exact⟨G++G2,fun a ha=>Nc.mp ha,Trees.append h (Trees.one hy) hd⟩
theorem ES{i:Nat}{tv:TE}{fv:LI5->Rr PV}(hm:Γ1[i]?=some .O)(hv:DE K EX Γ Γ1 .F tv fv)(hk:DE K EX Γ1 Γ1 .A tb fb) :
  DS K EX Γ ⟨Γ1,Γ2,Γ3,k⟩ (AZ (Bg i) tb tv) (fun ρ=>(fv ρ).thenS fun z=>(fb ρ).thenS fun y=>(W8 (gv i ρ) y z).thenS fun x=>.next (ρ.set i x)):=fun B H0 H σ ρ F D A d=>by
 refine hv B H0 H σ ρ F [] _ A (d.thenS.imp (fun z _ d w H1 s1 r1=>?_) fun e q=>q);obtain⟨F1,f1,G2,t1,o1,A1⟩:=r1;obtain⟨v,h1,h2⟩:=A1.getO hm;refine⟨v,h1,hk B H0 H1 σ ρ F1 (G2++[]) _ A1 (d.thenS.imp (fun y _ d yv H2 s2 r2=>?_) fun e q=>q)⟩;obtain⟨F2,f2,p2,A2⟩:=r2;obtain⟨v',h1',h2'⟩:=A2.getO hm;rw[h1] at h1';cases h1';have d:=d.thenS;have t2:=t1.same s2;have core:∀{p:Option Ja}{s s':Sh}{xs xs':LI5}{a:Ja}{vs vs':List V}{u u':HO}{G G':LI2},ρ.getD i .non=.box p s xs->H2 a=some u->S6 p a->Trees K H2 xs vs G->a ∉ G->F2 i=a::G->Jv K s' vs' u'->Trees K H2 xs' vs' G'->(∀b∈G',b∈G\/b∈G2) ->
   σ[i]?=some (some (.ref a))->Si K B EX ⟨Γ1,Γ2,Γ3,k⟩ H0 H F D (.next (ρ.set i (.box p s' xs')))->D.nx σ (upd H2 a u'):=fun {p s s' xs xs' a vs vs' u u' G G'} er hH hpn ht hn hF hb Ad hsub hσ d=>by
  have haF:a∈F2 i:=by rw[hF];simp
  have na2:a ∉ G2:=fun z=>A2.disjR i a haF (Zf _ z);have hna:a ∉ G':=fun z=>(hsub a z).elim hn na2;have hsub2:∀b∈a::G',b∈F2 i\/b∈G2:=fun b hb=>by
   rcases Vd.mp hb with rfl|hb
   ·exact .inl haF
   ·rcases hsub b hb with z|z
    ·exact .inl (by rw[hF];simp[z])
    ·exact .inr z
  obtain⟨lv,hlv⟩:=A2.live i a haF;refine d σ _ (Ae F2 i (a::G')) (N2 (s1.trans s2) (fun j b hb=>f1 j b (f2 j b hb)) haF fun b hb=>?_) (Ag.chgB hb.lv (G:=G2) (R:=[]) A2 hm haF hsub2 (by simp) ?_)
  ·rcases hsub2 b hb with z|z
   ·exact .inr ⟨i,f1 i b (f2 i b z)⟩
   ·exact(o1 b z).2
  ·exact⟨_,hσ,a,vs',u',G',rfl,Uf,⟨hpn,hb⟩,Trees.putL hlv hna Ad,hna,rfl⟩
 unfold W8 at d
 split at d
 ·rename_i p ks xs er _ _
  rw[show ρ.getD i .non=.box p (.dk ks) xs from er] at h2';obtain⟨a,vs,u,G,rfl,hH,⟨hpn,hl,rfl⟩,ht,hn,hF⟩:=h2'
  split at d
  ·rename_i kk ek
   split at d
   ·rename_i hc
    rw[CI ek] at p2;have hl':ks.length=xs.length:=by rw[hl,ht.length]
    have dj:∀b∈G,b ∉ G2:=fun b hb z=>A2.disjR i b (by rw[hF];simp[hb]) (Zf _ z);obtain⟨G',g1,g2⟩:=ZaH (k:=kk) hl' ht t2 dj (fun c=>hc.2.resolve_left (fun z=>JW z c));refine⟨a,_,rfl,.inl ⟨_,kk,hH,PK p2, ?_,rfl⟩,core er hH hpn ht hn hF (s':=.dk (Io ks kk)) (vs':=Mk ks vs kk w) ⟨AY hl, ?_⟩ g2 g1 h1 d⟩
    ·rw[Lz,hl,Nat.min_self,ht.length];exact Mg hc.1 (by decide)
    ·rw[VY hl]
   ·exact d.elim
  ·exact d.elim
 ·rename_i p ks xs ys er _ _
  rw[show ρ.getD i .non=.box p (.dt ks) xs from er] at h2';obtain⟨a,vs,u,G,rfl,hH,⟨hpn,hl,rfl⟩,ht,hn,hF⟩:=h2'
  split at d
  ·rename_i kk ek
   split at d
   ·rename_i hc
    rw[Z8 ek] at p2;obtain⟨b,ws,rfl,hb,hws⟩:=p2;rw[S9 hws] at hb;have hl':ks.length=xs.length:=by rw[hl,ht.length]
    have dj:∀b∈G,b ∉ G2:=fun b hb z=>A2.disjR i b (by rw[hF];simp[hb]) (Zf _ z);obtain⟨G',g1,g2⟩:=ZaH (k:=kk) hl' ht t2 dj (fun c=>hc.2.resolve_left (fun z=>JW z c));refine⟨a,_,rfl,.inr ⟨_,kk,b,hH,rfl,hb.1, ?_,rfl⟩,core er hH hpn ht hn hF (s':=.dt (Io ks kk)) (vs':=Mk ks vs kk w) ⟨AY hl, ?_⟩ g2 g1 h1 d⟩
    ·rw[Lz,hl,Nat.min_self,ht.length];exact Mg hc.1 (by decide)
    ·rw[VY hl]
   ·exact d.elim
  ·exact d.elim
 ·exact d.elim
end
noncomputable def Zat(tk tv:TE):TE:=fun σ H Q=>∀p,H p=none->tk σ (upd H p (.dT [])) fun x H1=>tv σ H1 fun y H2=>∃b k,x=.ref b/\H2 b=some (.tup (k.map kV))/\H2 p=some (.dT [])/\Q (.ref p) (upd H2 p (.dT [(k,y)]))
theorem ZjB(hu:X.A.units+1<cLine)(hk:PE X e tk)(hv:PE X v tv): PE X (.Dict [some e] [v] pos) (Zat tk tv):=by
 intro Za s σ H Q I q;have hn:=I.hok.fresh (Db s.heap.objs.size);have I1:=I.laid (a:=s.heap.objs.size) (o:=.dT []) (h':=s.heap.push { cls:=.type "dict",data:=.dict #[] }) (t':=s.toks) (fun _ _ q=>Heap.get?_push_of_some _ q) (Db _) (HS s.heap I.big);have hp:=ZjQ (pos:=pos) hk hv ZjR;refine wpAny_Dict_any rfl rfl (by simp) (by simp) (Qb (hp Za _ σ _ (fun ps H2=>∃x y,ps=[(x,y)]/\∃b k,x=.ref b/\H2 b=some (.tup (k.map kV))/\H2 s.heap.objs.size=some (.dT [])/\Q (.ref s.heap.objs.size) (upd H2 s.heap.objs.size (.dT [(k,y)]))) I1 ?_) fun ws s2 ⟨ps,H2,I2,rel,x,y,ep,b,kk,ex,eb,e,q2⟩=>?_)
 ·have:=q _ hn
  show QC [(tk,tv)] σ _ _;unfold QC;refine cast (Ef (fun f=>tk σ (upd H s.heap.objs.size (.dT [])) f) (funext fun x=>funext fun H1=>Ef (fun f=>tv σ H1 f) (funext fun y=>funext fun H2=>propext ⟨fun z=>⟨x,y,rfl,z⟩,fun⟨x',y',e',z⟩=>by cases e';exact z⟩))) this
 subst ep ex;rcases ws with _|⟨⟨uk,uv⟩,ws⟩
 ·cases rel
 cases rel with
 |cons r1 r2 =>
  cases r2;obtain⟨rk,rv⟩:=r1;have ek:uk=Value.ref b:=rk;subst ek;obtain⟨z,hd,xs,rl,dd⟩:=IS I2.hok e;cases rl;show Ra _ _ (forIn [(Value.ref b,uv)] PUnit.unit _) _ _ s2;rw[List.forIn_cons];refine Ia (Ia (wpAny_dictSet_heap (hsz:=Ng _) (show X.A.units<cLine by lia) (Pw I2.hok eb) dd fun h' dd' hs=>Ib ?_));dsimp only;rw[List.forIn_nil];refine Ib ⟨.ref s.heap.objs.size,_, ?_,rfl,q2⟩;obtain⟨qo,es,ep,hq,h2,h3,h4,_,h5⟩:=dd';refine RG I2 (by rw[e];exact True.intro) hs ⟨qo,hq⟩ ⟨?_,hd,_, ?_,qo,es,ep,hq,h2,h3,h4,h5⟩
  ·show 1<=Cc
   decide
  ·refine .cons ⟨rfl, ?_,rv⟩ .nil
   show upd H2 s.heap.objs.size _ b=_;rw[Rb (QJ eb e (fun z=>nomatch z))];exact eb
section
variable {K:ZlR}{B:Ja->Prop}{EX:PX->Hp->Prop}{H0 H:Hp}{σ:St}{Γ Γ1 Γ2:List Md}{ρ:LI5}{F:Nat->LI2}{R:LI2}{ta tb:TE}{fa fb:LI5->Rr PV}{k:Kd}
noncomputable def X8(y z:PV):Rr PV:=match y with
 |.tup ys=>match Rp ys with
  |some k=>.ok (.box none (.dt [k]) [z])
  |none=>.bad
 |_=>.bad
theorem Ze5(ha:DE K EX Γ Γ1 .A ta fa)(hb:DE K EX Γ1 Γ2 .P tb fb):DE K EX Γ Γ2 .F (Zat ta tb) (fun ρ=>(fa ρ).bind fun y=>(fb ρ).bind fun z=>X8 y z):=fun B H0 H σ ρ F R Q A d p hp=>by
 have A0:=A.newB (u:=.dT []) trivial hp;have s0:La H (upd H p (.dT [])):=La.new hp;refine ha B H0 _ σ ρ F (p::R) _ A0 (d.bind.imp (fun y _ d w H1 s1 r1=>?_) fun e q=>q);obtain⟨F1,f1,p1,A1⟩:=r1;refine hb B H0 H1 σ ρ F1 (p::R) _ A1 (d.bind.imp (fun z _ d v H2 s2 r2=>?_) fun e q=>q);obtain⟨F2,f2,z1,z2,A2⟩:=r2;have p1':=p1.same s2;unfold X8 at d
 split at d
 ·rename_i ys
  split at d
  ·rename_i kk ek
   rw[Z8 ek] at p1';obtain⟨b,ws,rfl,hb,hws⟩:=p1';rw[S9 hws] at hb;have hH:H2 p=some (.dT []):=s2 _ _ (s1 _ _ Uf);refine⟨b,kk,rfl,hb.1,hH, ?_⟩;have hpR:p ∉ R:=fun q=>by obtain⟨u,e⟩:=A.liveR p q;rw[hp] at e;cases e
   have hpF:∀i,p ∉ F i:=fun i q=>by obtain⟨u,e⟩:=A.live i p q;rw[hp] at e;cases e
   have AR:Ag K B H0 (upd H2 p (.dT [(kk,v)])) σ Γ2 ρ F2 (p::R):=by
    refine⟨fun c o e=>?_,A2.own,A2.young,A2.youngR,fun i c hc=>?_,fun c hc=>?_,A2.disj,A2.disjR,A2.lenS,A2.lenR,fun i=>?_⟩
    ·rw[Rb (fun z=>by rw[z] at e;have:=A2.youngR p (by simp);rw[e] at this;cases this)];exact A2.same c o e
    ·rw[Rb (fun z=>by rw[z] at hc;exact A2.disjR i p hc (by simp))];exact A2.live i c hc
    ·by_cases q:c=p
     ·exact⟨⟨.dT [(kk,v)],trivial⟩,by rw[q,Uf]⟩
     ·rw[Rb q];exact A2.liveR c hc
    ·refine(A2.slot i).mono (fun c us s r=>⟨?_,s⟩) (fun c us r=>Im.putL (us:=⟨.dT [],trivial⟩) hH r) fun c hc us q=>?_
     ·have hne:c≠p:=fun z=>s.2.1 (by rw[z];simp)
      rcases r with r|⟨o',r⟩
      ·exact .inl (by rw[Rb hne];exact r)
      ·exact .inr ⟨o',by rw[Rb hne];exact r⟩
     ·have hne:c≠p:=fun z=>A2.disjR i c hc (by rw[z];simp)
      rw[Rb hne];exact q
   have sm:La H (upd H2 p (.dT [(kk,v)])):=fun c o e=>by
    rw[Rb (Qg e hp)];exact s2 _ _ (s1 _ _ (s0 _ _ e))
   refine d _ _ sm ⟨F2,fun i a h=>f1 i a (f2 i a h),[p],⟨p,[v],_,[],rfl,Uf,⟨trivial,rfl,rfl⟩, ?_,by simp,rfl⟩,fun a ha=>?_,AR⟩
   ·exact⟨v,[],[],[],rfl,Dc.mono (fun a ha=>by cases ha) (fun c us r=>Im.putL (us:=⟨.dT [],trivial⟩) hH r) (z2.tree z1),⟨rfl,rfl⟩,by simp,rfl⟩
   ·rw[Di.mp ha];exact⟨hpR,.inl hp⟩
  ·exact d.elim
 ·exact d.elim
end
section
variable {X:Cx}{K:ZlR}
def PY(K:ZlR):List V->Hp->VK->Prop:=fun xs H Q=>∃p ys,xs=[.ref p]/\((Yb K H p ys/\∀l,H l=none->Q (.ref l) (upd H l (.tup ys)))\/(Af K H p ys/\Q (.ref p) H))
theorem Lv(e:X.K=K:=by rfl):Og X (.type "tuple") (PY K):=by subst e;exact Zd7
theorem Kv:Gh "tuple"=some (.type "tuple"):=by decide +kernel
noncomputable def Za9(K:ZlR)(ta:TE):TT:=fun σ H Q=>ta σ H fun x H'=>∃k,BF K x H' k/\Q k H'
theorem ZjX(ha:PE X a ta)(e:X.K=K:=by rfl)(he:∀whole,isTrue a X.env whole=(do let v <- whole;standAt a.pos;holding [v] (truthy v)):=by exact fun _=>rfl): PT X a (Za9 K ta):=by subst e;exact ZjY ha he
variable {B:Ja->Prop}{EX:PX->Hp->Prop}{H0 H:Hp}{σ:St}{Γ Γ':List Md}{ρ:LI5}{F:Nat->LI2}{R:LI2}{te:TE}{ta:TA}{f:LI5->Rr PV}{fa:LI5->Rr LI5}
noncomputable def Bx(xs:LI5):Rr PV:=match xs with
 |[.lst ys]=>.ok (.tup ys)
 |[.tup ys]=>.ok (.tup ys)
 |_=>.bad
theorem Zw(ha:Ce K EX Γ Γ' ta fa):DE K EX Γ Γ' .A (Zj (PY K) ta) (fun ρ=>(fa ρ).bind Bx):=fun B H0 H σ ρ F R Q A d=>by
 refine ha B H0 H σ ρ F R _ A (d.bind.imp (fun xs _ d vs H1 F1 s1 f1 p1 A1=>?_) fun e q=>q);unfold Bx at d
 split at d
 ·obtain⟨v,rfl,a,ws,rfl,hn,hr⟩:=Xi p1
  refine⟨a,ws,rfl,.inl ⟨Nf (S:=fun _=>True) hn,fun l hl=>?_⟩⟩;have e:=La.new (H:=H1) (o:=.tup ws) hl;exact d _ _ (s1.trans e) ⟨F1,f1,⟨l,ws,rfl,⟨Uf,trivial⟩,hr.same e⟩,A1.grow e⟩
 ·obtain⟨v,rfl,a,ws,rfl,hn,hr⟩:=Xi p1
  exact⟨a,ws,rfl,.inr ⟨hn.sqT,d _ _ s1 ⟨F1,f1,⟨a,ws,rfl,hn,hr⟩,A1⟩⟩⟩
 ·exact d.elim
noncomputable def Zjs(x:PV):Rr Bool:=match x with
 |.lst xs=>.ok (!xs.isEmpty)
 |.bl b=>.ok b
 |_=>.bad
theorem Zfg(ha:DE K EX Γ Γ' .A te f):DT K EX Γ Γ' (Za9 K te) (fun ρ=>(f ρ).bind Zjs):=fun B H0 H σ ρ F R Q A d=>by
 refine ha B H0 H σ ρ F R _ A (d.bind.imp (fun x _ d v H1 s1 r1=>?_) fun e q=>q);obtain⟨F1,f1,p1,A1⟩:=r1;cases x with
 |lst xs =>
  obtain⟨a,vs,rfl,hn,hr⟩:=p1;refine⟨!xs.isEmpty,.inl ⟨vs,Nf (S:=fun _=>True) hn, ?_⟩,d _ F1 s1 f1 A1⟩;cases xs with
  |nil=>rw[show vs=[] from hr];rfl
  |cons x xs=>obtain⟨v,r,rfl,_⟩:=hr;rfl
 |bl b=>cases p1;exact⟨b,rfl,d _ F1 s1 f1 A1⟩
 |_=>exact d.elim
end
noncomputable def ins{α:Type}:Nat->α->List α->List α
 |0,v,us=>v::us
 |_+1,v,[]=>[v]
 |j+1,v,u::us=>u::ins j v us
theorem J3: ∀{j:Nat}{v:α}{us:List α},(ins j v us).length=us.length+1
 |0,_,_=>rfl
 |_+1,_,[]=>rfl
 |j+1,v,u::us=>by simp[ins,J3 (j:=j) (v:=v) (us:=us)]
theorem T7: ∀{j:Nat}{v:α}{us:List α} (i:Nat),j<=us.length->(ins j v us)[i]?=if i<j then us[i]? else if i=j then some v else us[i-1]?
 |0,v,us,0,_=>rfl
 |0,v,us,i+1,_=>by simp[ins]
 |j+1,v,[],_,h=>by simp at h
 |j+1,v,u::us,0,_=>rfl
 |j+1,v,u::us,i+1,h=>by
  have:=T7 (j:=j) (v:=v) (us:=us) i (by simpa using h);rw[ins,VN,this];by_cases c:i<j
  ·rw[Da c,Da (show i+1<j+1 by lia)];rfl
  ·by_cases e:i=j
   ·rw[Qa c,Da e,Qa (show ¬i+1<j+1 by lia),Da (show i+1=j+1 by lia)]
   ·rw[Qa c,Qa e,Qa (show ¬i+1<j+1 by lia),Qa (show ¬i+1=j+1 by lia)]
    obtain⟨m,rfl⟩:∃m,i=m+1:=⟨i-1,by lia⟩
    rfl
theorem KU: ∀{j:Nat}{v:α}{us:List α},(ins j v us).map f=ins j (f v) (us.map f)
 |0,_,_=>rfl
 |_+1,_,[]=>rfl
 |j+1,v,u::us=>by simp[ins,KU (j:=j) (v:=v) (us:=us)]
theorem IU: ∀{j:Nat}{v:α}{us:List α},j<=us.length->ins j v us++r=ins j v (us++r)
 |0,_,_,_=>rfl
 |_+1,_,[],h=>by simp at h
 |j+1,v,u::us,h=>by
  show u::(ins j v us++r)=u::ins j v (us++r);rw[IU (by simpa using h)]
section
variable {K:ZlR}{H:Hp}
theorem Dc.pin(h:Dc K H (.box p s ys) (.ref a) G): Dc K H (.box (some a) s ys) (.ref a) G:=by
 obtain⟨a',vs,u,G',e,h1,h2,h3⟩:=h;cases e;exact⟨a,vs,u,G',rfl,h1,⟨rfl,h2.2⟩,h3⟩
theorem Dc.unpin(h:Dc K H (.box p s ys) v G): Dc K H (.box none s ys) v G:=by
 obtain⟨a',vs,u,G',e,h1,h2,h3⟩:=h;exact⟨a',vs,u,G',e,h1,⟨trivial,h2.2⟩,h3⟩
theorem Dc.repin(hp:S6 p a)(h:Dc K H (.box none s ys) (.ref a) G): Dc K H (.box p s ys) (.ref a) G:=by
 obtain⟨a',vs,u,G',e,h1,h2,h3⟩:=h;cases e;exact⟨a,vs,u,G',rfl,h1,⟨hp,h2.2⟩,h3⟩
theorem Dc.pinned(h:Dc K H (.box (some b) s ys) v G): v=.ref b:=by
 obtain⟨a',vs,u,G',e,h1,h2,h3⟩:=h;rw[e,show a'=b from h2.1]
end
noncomputable def ML(K:ZlR)(n j:Nat)(m:PV->LI5->Rr PV):Sp:=fun vs H Q E=>∃(B:Ja->Prop) (xs:LI5) (us:List V) (a:Ja) (s:Sh) (ys:LI5) (G:LI2),
 vs=ins j (.ref a) us/\xs.length=n/\Reps K H B xs us/\Dc K H (.box none s ys) (.ref a) G/\(∀b,B b->b ∉ G) /\
 Dn (m (.box none s ys) xs) (fun r=>∃y s' ys',r=.tup [y,.box none s' ys']/\∀u H' G1 G2,La (minus H G) H'->Dc K H' y u G1->Dc K H' (.box none s' ys') (.ref a) G2->(∀b∈G1,b ∉ G2)->(∀b∈G1,minus H G b=none)->(∀b∈G2,minus H G b=none)->Q u H') (fun _=>False)
noncomputable def AK(a:Ja)(b:PV):PV:=match b with
 |.box _ s ys=>.box (some a) s ys
 |x=>x
noncomputable def BK(a:Ja)(r:Rr PV):Rr PV:=match r with
 |.ok (.tup [y,.box _ s ys])=>.ok (.tup [y,.box (some a) s ys])
 |.ok _=>.bad
 |.exc e=>.exc e
 |.bad=>.bad
noncomputable def RS.outN(j:Nat)(r:RS):Rr PV:=match r with
 |.next ρ=>.ok (.tup [.non,gv j ρ])
 |.ret x=>.ok x
 |.exc e=>.exc e
 |_=>.bad
section
variable {K:ZlR}{B:Ja->Prop}{EX:PX->Hp->Prop}{H0 H:Hp}{σ:St}{Γ Γ' Γ1 Γ2 Γ3:List Md}{ρ:LI5}{F:Nat->LI2}
theorem Ag.initM(ht:Dc K H (.box none s ys) (.ref a) G)(h:Reps K H B xs us)(hB:∀b,B b->b ∉ G)(hj:j<=xs.length):
  Ag K (fun b=>B b\/minus H G b=none) (minus H G) H (ins j (some (.ref a)) (us.map some++List.replicate l none)) (ins j .O (List.replicate xs.length .S++List.replicate l .U)) (ins j (.box (some a) s ys) (xs++List.replicate l .non)) (Ae (fun _=>[]) j G) []:=by
 have fin:∀i,∀b∈Ae (fun _=>[]) j G i,i=j/\b∈G:=fun i b hb=>by
  unfold Ae at hb
  split at hb
  ·exact⟨by assumption,hb⟩
  ·simp at hb
 have A:=Ag.init (n:=l) h;refine⟨Zia,fun b h=>.inr h,fun i b hb=>AW (fin i b hb).2,by simp,fun i b hb=>ht.alive b (fin i b hb).2,by simp,fun i k hik b hb z=>hik ((fin i b hb).1.trans (fin k b z).1.symm),by simp,by simp[J3,h.length],by simp[J3],fun i=>?_⟩;have hjs:j<=(us.map some++List.replicate l (none:Option V)).length:=by simp[h.length];lia
 have hjg:j<=(List.replicate xs.length Md.S++List.replicate l Md.U).length:=by simp;lia
 have hjr:j<=(xs++List.replicate l PV.non).length:=by simp;lia
 rw[Cb,Cb,T7 i hjs,T7 i hjg,T7 i hjr];have go:∀q,q≠j\/True->Mn K H (NO (fun b=>B b\/minus H G b=none) (Ae (fun _=>[]) j G) []) ((List.replicate xs.length Md.S++List.replicate l Md.U)[q]?.getD .U) ((xs++List.replicate l PV.non)[q]?.getD .non) (us.map some++List.replicate l none)[q]? []:=fun q _=>by
  have sl:=A.slot q;rw[Cb,Cb] at sl;refine sl.mono (fun b u s r=>⟨r, ?_,by simp,fun k z=>?_⟩) (fun b u r=>r) (fun b hb=>by cases hb)
  ·rcases s.1 with s|s
   ·exact .inl s
   ·exact .inr (by
     by_cases q:b∈G
     ·exact AW q
     ·rw[Kk q];exact s)
  ·have z:=(fin k b z).2
   rcases s.1 with s|s
   ·exact hB b s z
   ·obtain⟨vs,q⟩:=ht.alive b z
    rw[s] at q;cases q
 by_cases c:i<j
 ·rw[Da c,Da c,Da c,Me (by lia)]
  exact go i (.inr trivial)
 ·rw[Qa c,Qa c,Qa c]
  by_cases e:i=j
  ·rw[Da e,Da e,Da e]
   subst e;rw[Bf];exact⟨_,rfl,ht.pin⟩
  ·rw[Qa e,Qa e,Qa e,Me e]
   exact go (i-1) (.inr trivial)
noncomputable def YK(y x:PV):RS:=match x with
 |.box (some a) s xs=>.ret (.tup [y,.box (some a) s xs])
 |_=>.bad
theorem Zfb(he:DE K EX Γ Γ' .F te f)(hm:Γ'[j]?=some .O): DS K EX Γ ⟨Γ3,Γ1,Γ2,.N⟩ (Y4 te) (fun ρ=>(f ρ).thenS fun y=>YK y (gv j ρ)):=fun B H0 H σ ρ F D A d=>by
 refine he B H0 H σ ρ F [] _ A (d.thenS.imp (fun y _ d v H1 s1 r1=>?_) fun e q=>q);obtain⟨F1,f1,G,h1,h2,A1⟩:=r1;unfold YK at d
 split at d
 ·rename_i a s xs ex
  obtain⟨w,w1,w2⟩:=A1.getO hm;rw[show ρ.getD j .non=.box (some a) s xs from ex] at w2;have:=w2.pinned;subst this;exact d v H1 A1.same ⟨y,a,s,xs,G,F1 j,rfl,h1,w2,fun b hb z=>A1.disjR j b z (Zf _ hb),fun b hb=>A1.youngR b (Zf _ hb),fun b hb=>A1.young j b hb⟩
 ·exact d.elim
end
section
variable {P:Bc}{w:Jc}{K:ZlR}{mg:Str->Option Va}{base:Heap}
theorem Xb.okM{x qual:Str}{st:Kb}{f:Ja}{fd:Fk}{N ps:List Str}{k n l j:Nat}{m:PV->LI5->Rr PV}(F:Xb K x qual st f fd)(S:Uc N ps (Mb st))(hn:ps.length=n+1)(hl:N.length-(n+1)=l)(hj:j<=n)(hbody:∀(Lb:Va) (A:Pd) (outer:List Env) (s:Ga) (H:Hp) (E:XK),Fe k (A.deeper (envOfC qual (Mb st) s.heap.objs.size f Lb)) ->
   ∃t g Y,Y.r=.N/\Y.n[j]?=some .O/\Wg (Gi Fc P w K mg base N qual (Mb st) f Lb A outer s H E).nox (Dl st) t/\DS K X0 (ins j .O (List.replicate n .S++List.replicate l .U)) Y t g /\
    ∀a b xs,Fv (BK a (m b xs)) ((g (ins j (AK a b) (xs++List.replicate l .non))).outN j)) :
  Wb P w K mg base Fc (k+1) f fd ps (ML K n j m):=by
 refine F.ok S (fun vs H Q E h=>?_) (fun Lb A outer s H vs Q E hr h=>?_)
 ·obtain⟨B,xs,us,a,s,ys,G,rfl,h1,h2,_⟩:=h
  rw[J3,h2.length,h1,hn]
 ·obtain⟨B,xs,us,a,s',ys,G,rfl,h1,h2,h3,h4,dn⟩:=h
  obtain⟨t,g,Y,hY,hYn,ht,hd,href⟩:=hbody Lb A outer s H E hr;refine⟨t,ht, ?_⟩;have A0:=Ag.initM (l:=l) h3 h2 h4 (show j<=xs.length by lia);have est:Dj N (ins j (.ref a) us)=ins j (some (.ref a)) (us.map some++List.replicate l none):=by
   unfold Dj;rw[J3,h2.length,h1,hl,KU,IU (by rw[Pb,h2.length];lia)]
  rw[est];rw[h1] at A0;refine hd _ (minus H G) H _ _ _ _ A0 ?_;have hr:=href a (.box none s' ys) xs;rw[show AK a (.box none s' ys)=.box (some a) s' ys from rfl] at hr;cases em:m (.box none s' ys) xs with
  |bad=>rw[em] at dn;exact dn.elim
  |exc q=>rw[em] at dn;exact dn.elim
  |ok r =>
   rw[em] at dn hr;obtain⟨y,s2,ys2,rfl,q⟩:=dn;have ho:(g (ins j (.box (some a) s' ys) (xs++List.replicate l .non))).outN j=.ok (.tup [y,.box (some a) s2 ys2]):=by
    rcases hr with e|e
    ·cases e
    ·exact e.symm
   cases e:g (ins j (.box (some a) s' ys) (xs++List.replicate l .non)) with
   |next ρ =>
    rw[e] at ho;have hy:PV.tup [.non,gv j ρ]=.tup [y,.box (some a) s2 ys2]:=by simpa[RS.outN] using ho
    simp only[PV.tup.injEq,List.cons.injEq,and_true] at hy;obtain⟨rfl,hb⟩:=hy;refine fun σ' H' F' fr A'=>?_;obtain⟨v,w1,w2⟩:=A'.getO hYn;rw[show ρ.getD j .non=.box (some a) s2 ys2 from hb] at w2;have:=w2.pinned;subst this;exact q .non H' [] (F' j) A'.same ⟨rfl,rfl⟩ w2.unpin (by simp) (by simp) fun b hb=>A'.young j b hb
   |ret z =>
    rw[e] at ho;have hy:z=.tup [y,.box (some a) s2 ys2]:=by simpa[RS.outN] using ho
    subst hy;refine fun v H' s r=>?_;rw[hY] at r;obtain⟨y',a',s3,xs3,G1,G2,e1,r1,r2,r3,r4,r5⟩:=r;simp only[PV.tup.injEq,List.cons.injEq,and_true,PV.box.injEq,Option.some.injEq] at e1;obtain⟨rfl,rfl,rfl,rfl⟩:=e1;exact q v H' G1 G2 s r1 r2.unpin r3 r4 r5
   |exc q=>rw[e] at ho;cases ho
   |brk ρ=>rw[e] at ho;cases ho
   |cont ρ=>rw[e] at ho;cases ho
   |bad=>rw[e] at ho;cases ho
end
def Z1{α:Type}(f:LI5->Rr α):Prop:=∀ρ e,f ρ≠.exc e
def AO(K:ZlR)(Γ:List Md)(te:TE)(f:LI5->Rr PV):Prop:=Z1 f /\
 ∀(B:Ja->Prop) (H0 H:Hp) (σ:St) (ρ:LI5) (F:Nat->LI2) (R:LI2) (Q:VK),Ag K B H0 H σ Γ ρ F R ->
  (∃x,f ρ=.ok x/\∀v,Ta K H (fun a=>a ∉ R) x v->Q v H)->te σ H Q
def QO(K:ZlR)(Γ:List Md)(ta:TA)(f:LI5->Rr LI5):Prop:=Z1 f /\
 ∀(B:Ja->Prop) (H0 H:Hp) (σ:St) (ρ:LI5) (F:Nat->LI2) (R:LI2) (Q:List V->Hp->Prop),Ag K B H0 H σ Γ ρ F R ->
  (∃xs,f ρ=.ok xs/\∀vs,Reps K H (fun a=>a ∉ R) xs vs->Q vs H)->ta σ H Q
def E6(K:ZlR)(Γ:List Md)(i j:Nat)(ta:TA)(f:LI5->Rr LI5):Prop:=Z1 f /\
 ∀(B:Ja->Prop) (H0 H:Hp) (σ:St) (ρ:LI5) (F:Nat->LI2) (R:LI2) (v:V) (Q:List V->Hp->Prop),Ag K B H0 H σ Γ ρ F R->σ[i]?=some (some v) ->
  (∃xs,f ρ=.ok xs/\∀vs,Reps K H (fun a=>a ∉ R) xs vs->Q (ins j v vs) H)->ta σ H Q
theorem bind_ok{r: Rr α}(h:r.bind g=.ok y): ∃x,r=.ok x/\g x=.ok y:=by
 cases r with
 |ok x=>exact⟨x,rfl,h⟩
 |exc e=>cases h
 |bad=>cases h
theorem EW{α β:Type}{f:LI5->Rr α}{g:LI5->α->Rr β}(h1:Z1 f)(h2:∀ρ x e,g ρ x≠.exc e):Z1 (fun ρ=>(f ρ).bind (g ρ)):=fun ρ e q=>by
 cases ef:f ρ with
 |ok x=>simp only[ef] at q;exact h2 ρ x e q
 |exc e'=>exact h1 ρ e' ef
 |bad=>simp only[ef] at q;cases q
section
variable {K:ZlR}{B:Ja->Prop}{EX:PX->Hp->Prop}{H0 H H':Hp}{σ:St}{Γ Γ1 Γ2:List Md}{ρ:LI5}{F F':Nat->LI2}{R:LI2}{te:TE}{ta:TA}{f:LI5->Rr PV}{fa:LI5->Rr LI5}{i j n:Nat}{m:PV->LI5->Rr PV}
theorem QS(h:Γ[l]?=some md)(hm:md≠.U): AO K Γ (Bg l) (fun ρ=>.ok (gv l ρ)):=⟨fun ρ e q=>(by cases q),fun B H0 H σ ρ F R Q A d=>by
 obtain⟨x,e,d⟩:=d;cases e;cases md with
 |U=>exact Eb rfl hm
 |P=>obtain⟨v,h1,h2,h3⟩:=A.getP h;exact⟨v,h1,d v (h3.flatS h2)⟩
 |S=>obtain⟨v,h1,h2⟩:=A.getS h;exact⟨v,h1,d v (Ta.mono (fun a u s r=>⟨r,s.2.1⟩) (fun a u r=>r) h2)⟩
 |T =>
  obtain⟨a,vs,xs,h1,h2,h3,h4,h5⟩:=A.getT h;refine⟨_,h1,d _ ?_⟩;rw[show gv l ρ=.lst xs from h2];exact⟨a,vs,rfl,.inl ⟨.inl h3,A.disjR l a (by rw[h5];simp)⟩,Reps.mono (fun a u s r=>⟨r,s.2.1⟩) (fun a u r=>r) h4⟩
 |O=>obtain⟨v,h1,h2⟩:=A.getO h;exact⟨v,h1,d v (h2.rep fun a ha=>A.disjR l a ha)⟩⟩
theorem Zev:QO K Γ Sl (fun _=>.ok []):=⟨fun ρ e q=>(by cases q),fun B H0 H σ ρ F R Q A d=>by
 obtain⟨x,e,d⟩:=d;cases e;exact d [] rfl⟩
theorem Zeu(ha:QO K Γ ta fa):E6 K Γ i 0 (Dk (Bg i) ta) fa:=⟨ha.1,fun B H0 H σ ρ F R v Q A hv d=>⟨v,hv,ha.2 B H0 H σ ρ F R _ A d⟩⟩
theorem MR(he:AO K Γ te f)(ha:E6 K Γ i j ta fa):E6 K Γ i (j+1) (Dk te ta) (fun ρ=>(f ρ).bind fun x=>(fa ρ).bind fun xs=>.ok (x::xs)):=⟨EW he.1 fun ρ x e q=>(EW (g:=fun _ xs=>.ok (x::xs)) ha.1 fun _ y e q=>by cases q) ρ e q,fun B H0 H σ ρ F R v Q A hv d=>by
 obtain⟨z,e,d⟩:=d;obtain⟨x,e1,e⟩:=bind_ok e;obtain⟨y,e2,e⟩:=bind_ok e;cases e;exact he.2 B H0 H σ ρ F R _ A ⟨x,e1,fun u hu=>ha.2 B H0 H σ ρ F R v _ A hv ⟨y,e2,fun vs hvs=>d (u::vs) ⟨u,vs,rfl,hu,hvs⟩⟩⟩⟩
def DM(K:ZlR)(EX:PX->Hp->Prop)(Γ:List Md)(i:Nat)(te:TE)(fm:LI5->Rr (PV×PV)):Prop:=
 ∀(B:Ja->Prop) (H0 H:Hp) (σ:St) (ρ:LI5) (F:Nat->LI2) (Q:VK),Ag K B H0 H σ Γ ρ F [] ->
  Dn (fm ρ) (fun r=>∀v H' F' G,Kc H F H' F'->Dc K H' r.1 v G->(∀b∈G,H b=none\/∃l,b∈F l)->Ag K B H0 H' σ Γ (ρ.set i r.2) F' (G++[])->Q v H') (fun e=>∀H',La H0 H'->EX e H')->te σ H Q
noncomputable def P1(m:PV->LI5->Rr PV)(x:PV)(xs:LI5):Rr (PV×PV):=match x with
 |.box p s ys=>match m (.box none s ys) xs with
  |.ok (.tup [y,.box none s' ys'])=>.ok (y,.box p s' ys')
  |_=>.bad
 |_=>.bad
theorem Zk1{l: List α}(h:l[i]?=some v): l.set i v=l:=by
 apply Vn;intro q;by_cases e:i=q
 ·subst e;rw[Sj (Cd.mp h).1,h]
 ·rw[Tk e]
theorem ZeX(hm:Γ[i]?=some .O)(hn:Nh fa n)(ha:E6 K (Γ.set i .U) i j ta fa):DM K EX Γ i (Rl (ML K n j m) ta) (fun ρ=>(fa ρ).bind fun xs=>P1 m (gv i ρ) xs):=fun B H0 H σ ρ F Q A d=>by
 obtain⟨v,h1,h2⟩:=A.getO hm;have hi:=A.lt hm;cases ea:fa ρ with
 |bad=>dsimp only at d;rw[ea] at d;exact d.elim
 |exc q=>exact Eb ea (ha.1 ρ q)
 |ok xs =>
  refine ha.2 B H0 H σ ρ _ (F i++[]) v _ (A.move hm) h1 ⟨xs,ea,fun vs hvs=>?_⟩;dsimp only at d;rw[ea] at d;have d:Dn (P1 m (gv i ρ) xs) _ _:=d;unfold P1 at d
  split at d
  ·rename_i p s ys er
   rw[show ρ.getD i .non=.box p s ys from er] at h2
   split at d
   ·rename_i y s2 ys2 em
    obtain⟨a,ws,u0,G0,rfl,hH,hb,ht,hna,hF⟩:=id h2;refine⟨fun b=>b ∉ F i,xs,vs,a,s,ys,F i,rfl,hn ρ xs ea,Reps.mono (fun b u s r=>⟨r,fun z=>s (by simp[z])⟩) (fun b u r=>r) hvs,h2.unpin,fun b hb z=>hb z, ?_⟩;rw[em];refine⟨y,s2,ys2,rfl,fun u H' G1 G2 sm t1 t2 dj n1 n2=>?_⟩;have AL:=(A.move hm).lost sm;have hiU:(Γ.set i .U)[i]?=some .U:=by rw[Sj hi]
    have nw:∀b,minus H (F i) b=none->(∀l,b ∉ Ae F i [] l)/\H0 b=none:=fun b hb=>by
     refine⟨fun l z=>?_, ?_⟩
     ·by_cases q:l=i
      ·subst q;rw[Bf] at z;simp at z
      ·rw[Me q] at z
       rw[Kk (fun w=>A.disj l i q b z w)] at hb;obtain⟨o,e⟩:=A.live l b z;rw[hb] at e;cases e
     ·by_cases q:b∈F i
      ·exact A.young i b q
      ·rw[Kk q] at hb
       exact A.same.free hb
    have AM:Ag K B H0 H' σ (Γ.set i .U) ρ (Ae F i []) (G2++(G1++[])):=by
     refine⟨AL.same,AL.own,AL.young,fun b hb=>?_,AL.live,fun b hb=>?_,AL.disj,fun l b hb z=>?_,AL.lenS,AL.lenR,fun l=>?_⟩
     ·rcases Nc.mp hb with z|z
      ·exact(nw b (n2 b z)).2
      ·exact(nw b (n1 b (by simpa using z))).2
     ·rcases Nc.mp hb with z|z
      ·exact t2.alive b z
      ·exact t1.alive b (by simpa using z)
     ·rcases Nc.mp z with z|z
      ·exact(nw b (n2 b z)).1 l hb
      ·exact(nw b (n1 b (by simpa using z))).1 l hb
     ·refine((A.move hm).slot l).mono (fun b o s r=>⟨(r.minus (fun z=>s.2.1 (by simp[z]))).same sm,s.1,fun z=>?_,s.2.2⟩) (fun b o r=>sm.im (r.minus fun c hc=>A.live i c hc)) fun b hb o q=>sm _ _ ?_
      ·have hb:minus H (F i) b≠none:=by
        rw[Kk (fun z=>s.2.1 (by simp[z]))];rcases r with r|⟨o',r⟩<;>(rw[r];simp)
       rcases Nc.mp z with z|z
       ·exact hb (n2 b z)
       ·exact hb (n1 b (by simpa using z))
      ·rw[Kk (fun z=>(A.move hm).disjR l b hb (by simp[z]))];exact q
    have AP:=Ag.put (i:=i) (m:=.O) (x:=.box p s2 ys2) (v:=.ref a) (G:=G2) (R:=G1++[]) AM (by rw[Tu];exact hi) (fun b hb z=>dj b (by simpa using z) hb) ⟨.ref a,rfl,t2.repin hb.1⟩;rw[Zk1 h1,List.set_set,Zk2 hm] at AP;refine d u H' _ G1 (fun b o h n=>?_) t1 (fun b hb=>?_) AP
    ·have e:minus H (F i) b=some o:=by rw[Kk (n i)];exact h
     refine⟨sm _ _ e,fun l z=>?_⟩;by_cases q:l=i
     ·subst q
      rw[Bf] at z;rw[n2 b z] at e;cases e
     ·rw[Me q,Me q] at z
      exact n l z
    ·have:=n1 b hb
     by_cases q:b∈F i
     ·exact .inr ⟨i,q⟩
     ·rw[Kk q] at this;exact .inl this
   ·exact d.elim
  ·exact d.elim
variable {fm:LI5->Rr (PV×PV)}{k:Kd}{l:Nat}
theorem ZfT(fr:Kc H F H' F1)(hG:∀a∈G,H a=none\/∃j,a∈F j): Kc H F H' (Ae F1 l G):=fun b o h n=>by
 obtain⟨h1,h2⟩:=fr b o h n;refine⟨h1,fun q z=>?_⟩;by_cases e:q=l
 ·subst e;rw[Bf] at z
  rcases hG b z with w|⟨c,w⟩
  ·rw[h] at w;cases w
  ·exact n c w
 ·rw[Me e] at z;exact h2 q z
theorem Zfd(he:DM K EX Γ i te fm)(hl:l<Γ.length):DS K EX Γ ⟨Γ.set l .O,Γ1,Γ2,k⟩ (Xm te (Ti l)) (fun ρ=>(fm ρ).thenS fun r=>.next ((ρ.set i r.2).set l r.1)):=fun B H0 H σ ρ F D A d=>by
 refine he B H0 H σ ρ F _ A (d.thenS.imp (fun r _ d v H1 F1 G fr t1 h1 A1=>?_) fun e q=>q);exact d _ H1 _ (ZfT fr h1) (Ag.put (R:=[]) A1 hl (by simp) ⟨v,rfl,t1⟩)
end
noncomputable def Pm.fnM(m:Pm)(b:PV)(xs:LI5):Rr PV:=m.fn (b::xs)
theorem Hl(h:n+64<c): n+1<c:=by lia
theorem Zke: YK y (.box (some a) s xs)=.ret (.tup [y,.box (some a) s xs]):=rfl
theorem Zdu(h:m (.box none s ys) xs=.ok (.tup [y,.box none s' ys'])): P1 m (.box p s ys) xs=.ok (y,.box p s' ys'):=by
 unfold P1;simp only[h]
section
variable {prog:Bc}{w:Jc}{A:Pd}{s:Ga}
theorem C8: ∀{ns ms:LI0}{vs ws:LI3}{i:Nat},Ab (ns.map V.int) vs->Ab (ms.map V.int) ws->fin=decide (vs.length<ws.length)->Q (HT.Zc ns ms) s ->
  PySem.W.KatLex prog w A true fin Q (vs.zip ws) i s
 |[],[],_,_,i,.nil,.nil,e,q=>by subst e;exact q
 |[],m::ms,_,_,i,.nil,.cons r t,e,q=>by
  have:fin=true:=by rw[e];simp
  subst this;exact q
 |n::ns,[],_,_,i,.cons r t,.nil,e,q=>by
  have:fin=false:=by rw[e];simp
  subst this;exact q
 |n::ns,m::ms,_,_,i,.cons r t,.cons r' t',e,q=>by
  obtain⟨k,rfl⟩:=r;obtain⟨k',rfl⟩:=r';rw[FD];refine PySem.W.kat_cons (wpAny_eqBool_int ?_);rw[HT.B3] at q;by_cases h:n=m
  ·subst h
   rw[Da rfl] at q;simp only[beq_self_eq_true];exact PySem.W.kat_yes (C8 t t' (by rw[e];simp) q)
  ·rw[Qa h] at q
   have hb:(n==m)=false:=by simpa using h
   rw[hb];refine PySem.W.kat_no ?_;cases i with
   |zero=>exact oneLt_int q
   |succ i=>exact PySem.W.kat_one _ _ (PyProof.Rows.lt_int q)
end
noncomputable def Ya(t:LI0):PV:=.tup (t.map PV.int)
theorem U5:∀{a b:LI1},a.map Ya=b.map Ya->a=b
 |[],[],_=>rfl
 |[],y::b,h=>by simp at h
 |x::a,[],h=>by simp at h
 |x::a,y::b,h=>by
  simp only[Ed,List.cons.injEq,Ya,PV.tup.injEq] at h;rw[Nj h.1,U5 h.2]
section
variable {K:ZlR}{B:Ja->Prop}{EX:PX->Hp->Prop}{H0 H:Hp}{σ:St}{Γ Γ1 Γ3:List Md}{ρ:LI5}{F:Nat->LI2}{R:LI2}{k:Kd}
theorem Zfc(hm:Γ[i]?=some .O): DS K EX Γ ⟨Γ,Γ1,Γ3,k⟩ (JC (W4 K "list" NY (Bg i) Sl)) (fun ρ=>(asL (gv i ρ)).thenS fun xs=>(newF xs.reverse).thenS fun z=>.next (ρ.set i z)):=fun B H0 H σ ρ F D A d=>by
 obtain⟨v,h1,h2⟩:=A.getO hm;refine⟨v,h1, ?_⟩;obtain⟨xs,e1,d⟩:=Dn.asL d.thenS;rw[show ρ.getD i .non=.lst xs from e1] at h2;obtain⟨a,vs,G,rfl,hH,ht,hn,hF⟩:=h2;obtain⟨fl,hz,d⟩:=Dn.newF d.thenS;refine⟨.inl ⟨rfl,_,Yb.of hH⟩,a,vs,rfl,rfl,hH, ?_⟩;have haF:a∈F i:=by rw[hF];simp
 have hr:Reps K H (fun _=>True) xs.reverse vs.reverse:=Reps.rev (ht.reps fun _ _=>trivial);refine d σ _ (Ae F i [a]) (N2 (La.refl H) (fun _ _ h=>h) haF fun b hb=>.inr ⟨i,by rw[hF];simpa using .inl (Di.mp hb)⟩) (Ag.chg (G:=[]) (R:=[]) A hm haF (fun b hb=>.inl (by rw[hF];simpa using .inl (Di.mp hb))) (by simp) ?_);exact⟨_,h1,a,_,[],rfl,Uf,(hr.trees fl).put hH (by simp),by simp,rfl⟩
end
theorem Pm.refM2(m:Pm){r:Ja->PV->LI5->Rr PV}(h:∀i,m.pre i->∀a b xs,m.enc i=b::xs->r a b xs=BK a (m.out i)):∀a b xs,Fv (BK a (m.fnM b xs)) (r a b xs):=fun a b xs=>by
 unfold Pm.fnM Pm.fn;by_cases hx:∃i,m.enc i=b::xs/\m.pre i
 ·rw[Xl hx]
  exact .inr (h _ hx.choose_spec.2 a b xs hx.choose_spec.1).symm
 ·rw[dif_neg hx];exact .inl rfl
theorem OF:Gh "sorted"=some (.builtin "sorted"):=by decide +kernel
section
variable {prog:Bc}{w:Jc}{A:Pd}{E:Va->Ga->Prop}{s:Ga}
theorem BY: ∀{l:List α},l.length<2->l.Pairwise R
 |[],_=>List.Pairwise.nil
 |[_],_=>List.pairwise_singleton _ _
theorem XZ(κ:Pi)(Rv:Va->Va->Bool)(ho:s.heap.get? a=some (Fd "list" vs.toArray n))(hz:vs.length<=1000000)(hk:2<=vs.length->∀(s1:Ga) (Q:Pi->Ga->Prop),(∀b o,b≠a->s.heap.get? b=some o->s1.heap.get? b=some o)->Q κ s1->Ra (Na prog w) A (keyKind' vs.toArray) Q E s1)(hc:∀(s1:Ga) x y,x∈vs->y∈vs->(∀b o,b≠a->s.heap.get? b=some o->s1.heap.get? b=some o)->∀C:Bool->Ga->Prop,C (Rv x y) s1->Ra (Na prog w) A (keyLt' κ x y) C (fun _ _=>False) s1)(asy:∀x y,x∈vs->y∈vs->Rv x y=true->Rv y x=false)(tr:∀x y z,x∈vs->y∈vs->z∈vs->Rv y x=false->Rv z y=false->Rv z x=false)(hq:∀h' c out,(∀b o,b≠a->s.heap.get? b=some o->h'.get? b=some o)->out.Perm vs->out.Pairwise (fun x y=>Rv y x=false)->h'.get? a=some (Fd "list" (List.toArray out) c)->P (.done (.ret .none)) { s with heap:=h' }):
  Ra (Na prog w) A (Builtin.«list.sort» ⟨[.ref a],[]⟩) P E s:=by
 have la:a<s.heap.objs.size:=Heap.lt_size ho;have line:vs.length<=Cc:=Il hz;obtain⟨e1,ho1⟩:∃c,(s.heap.update a (Obj.mapSeq fun _=>(#[]:Array Va))).get? a=some (Fd "list" #[] c):=⟨_,get?_update_seq ho _⟩
 rw[list_sort_plain];refine Ia (listItems_at ho rfl (Ia (Wz ho rfl (Ia (seqEpoch_at ho1 rfl (Ia (wpAny_newTuple (Ia (U0 (Tj ?_) (Ng _))) ?_)))) ?_ (Ng _))));rotate_left
 ·exact line
 ·rw[Ve];exact line
 generalize eh:((s.heap.update a (Obj.mapSeq fun _=>(#[]:Array Va))).push (Fd "tuple" vs.toArray 0)).push (Fd "list" #[] 0)=h3;have k3:∀b o,b≠a->s.heap.get? b=some o->h3.get? b=some o:=fun b o nb q=>by
  subst eh;exact Heap.get?_push_of_some _ (Heap.get?_push_of_some _ ((Heap.get?_update_ne _ _ _ _ nb).trans q))
 have a3:h3.get? a=some (Fd "list" #[] e1):=by subst eh;exact Heap.get?_push_of_some _ (Heap.get?_push_of_some _ ho1)
 show Ra _ _ _ P E { s with heap:=h3 };have fin:∀(out:LI3) (st:Sa),(Oa st).map (·.2)=List.toArray out->Vj st=none->out.Perm vs->out.Pairwise (fun x y=>Rv y x=false) ->
   Ra (Na prog w) A (do
    let sorted:=(Oa st).map (·.2)
    let touched:=(<- seqEpoch a) != e1
    Builtin.List.listUpdate (.ref a) fun _=>sorted
    if let some e:=Vj st then rule "list.sort.comparison-raised";throw e
    if touched then rule "list.sort.modified";raiseError "ValueError" "list modified during sort"
    ret .none) P E { s with heap:=h3 }:=fun out st ho hf hl hout=>by
  dsimp only;rw[ho,hf];obtain⟨c2,hc2⟩:∃c,(h3.update a (Obj.mapSeq fun _=>List.toArray out)).get? a=some (Fd "list" (List.toArray out) c):=⟨_,get?_update_seq a3 _⟩
  refine Ia (seqEpoch_at a3 rfl (Ia (Wz a3 rfl ?_ (Ng _) ?_)))
  ·simp only[bne_self_eq_false,Bool.false_eq_true,if_false]
   exact Ib (hq _ c2 out (fun b o nb q=>(Heap.get?_update_ne _ _ _ _ nb).trans (k3 b o nb q)) hl hout hc2)
  ·show (List.toArray out).size<=_
   rw[Ve,hl.length_eq];exact Se line (Wu _)
 dsimp only;have zs:((vs.toArray.zip vs.toArray).map (·.2))=vs.toArray:=by
  apply O5.mp;simp only[Dz,Array.toList_zip];exact List.map_snd_zip (Db _)
 by_cases h2:vs.length<2
 ·have e2:vs.toArray.size<2:=by rw[Ve];exact h2
  rw[Da e2,Da e2];refine Ia (Ib (Ia (Ib ?_)));refine fin vs _ zs rfl (List.Perm.refl _) ?_;exact BY h2
 ·have e2:¬vs.toArray.size<2:=by rw[Ve];exact h2
  rw[Qa e2,Qa e2];refine Ia (hk (by lia) _ _ k3 ?_);have zmem:∀x∈vs.toArray.zip vs.toArray,x.1∈vs/\x.1=x.2:=fun x hx=>by
   have hx:x∈vs.zip vs:=by simpa using hx
   obtain⟨i,hi⟩:=Ej hx;rw[Hz] at hi;have e:=hi.1.symm.trans hi.2;exact⟨Zd hi.1,Option.some.inj e⟩
  have C:Pc prog w A { s with heap:=h3 } κ (fun x=>x.1∈vs/\x.1=x.2) (fun x y=>Rv x.1 y.1) (fun _ _=>True):=
   ⟨fun x y hx hy _ Q q=>hc _ _ _ hx.1 hy.1 k3 Q q,fun x y hx hy q=>asy _ _ hx.1 hy.1 q,fun x y z hx hy hz q r=>tr _ _ _ hx.1 hy.1 hz.1 q r⟩
  have run:=Zba (E:=E) C C ⟨fun _ _ h=>h,fun _ _ _=>rfl⟩ (st:=SortSt.mk' κ (vs.toArray.zip vs.toArray) #[] 7 none) (Q:=fun _ Ba=>Vj Ba=none/\(Oa Ba).Perm (vs.toArray.zip vs.toArray)/\Up (fun x y=>Rv x.1 y.1) (Oa Ba) 0 (vs.toArray.zip vs.toArray).size) rfl rfl
   (fun i hi=>zmem _ (Array.mem_of_getElem? (Jo hi))) rfl (fun _ _ _ _ _ _=>trivial) (fun Ba k1 k2 k3=>⟨k1,k2,k3⟩)
  refine Ia (Vf run ?_ fun _ _ e=>e);rintro⟨⟨⟩,st⟩ s' ⟨rfl,hf,hp,hu⟩;dsimp only at hf hp hu;have hsz:(Oa st).size=(vs.toArray.zip vs.toArray).size:=hp.size_eq;have same:∀x∈(Oa st).toList,x.1=x.2:=fun x hx=>(zmem x ((Array.Perm.mem_iff hp).mp (by simpa using hx))).2;refine fin ((Oa st).toList.map (·.2)) st ?_ hf ?_ ?_
  ·apply O5.mp
   rw[Dz]
  ·have p1:((Oa st).toList.map (·.2)).Perm ((vs.toArray.zip vs.toArray).toList.map (·.2)):=(YM.mp hp).map _
   have p2:=Ef Array.toList zs;rw[Dz] at p2;rw[p2] at p1;simpa using p1
  ·have sr:=hu.srt (Z6 (by rw[Jl,hsz]))
   rw[Su,Yk (Z6 (by rw[Oe,hsz]))] at sr;rw[Zt];refine List.Pairwise.imp_of_mem ?_ sr;intro x y hx hy q;rw[<- same x hx,<- same y hy];exact q
theorem Zk7(κ:Pi)(Rv:Va->Va->Bool)(hl:s.heap.IsList l vs.toArray)(hz:vs.length<=1000000)(hk:2<=vs.length->∀(s1:Ga) (Q:Pi->Ga->Prop),(∀b o,s.heap.get? b=some o->s1.heap.get? b=some o)->Q κ s1->Ra (Na prog w) A.in1.in1 (keyKind' vs.toArray) Q E s1)(hc:∀(s1:Ga) x y,x∈vs->y∈vs->(∀b o,s.heap.get? b=some o->s1.heap.get? b=some o)->∀C:Bool->Ga->Prop,C (Rv x y) s1->Ra (Na prog w) A.in1.in1 (keyLt' κ x y) C (fun _ _=>False) s1)(asy:∀x y,x∈vs->y∈vs->Rv x y=true->Rv y x=false)(tr:∀x y z,x∈vs->y∈vs->z∈vs->Rv y x=false->Rv z y=false->Rv z x=false)(hq:∀D h' c out,(∀b o,s.heap.get? b=some o->h'.get? b=some o)->s.heap.objs.size<=D->out.Perm vs->out.Pairwise (fun x y=>Rv y x=false)->h'.get? D=some (Fd "list" (List.toArray out) c)->Q (.ref D) { s with heap:=h' }):
  Ra (Na prog w) A (call (.builtin "sorted") [.ref l]) Q E s:=by
 refine Calls.call_function_entry kind_sorted plain_sorted entry_sorted (args_sorted1 _) ?_;unfold Builtin.«sorted»;have line:vs.length<=Cc:=Il hz;refine Ia (m:=checkCount "sorted" 1 1 _) (Ib (Ia (collect_list hl (Ia (U0 ?_ line)) line)));generalize eg:(s.heap.push (Fd "list" #[] 0)).update s.heap.objs.size (Obj.mapSeq (·++vs.toArray))=h1;have z1:h1.objs.size=s.heap.objs.size+1:=by subst eg;rw[Heap.size_update,size_push']
 have k1:∀b o,s.heap.get? b=some o->h1.get? b=some o:=fun b o q=>by
  have lb:=Heap.lt_size q;subst eg;rw[Heap.get?_update_ne _ _ _ _ (Jf lb)];exact Heap.get?_push_of_some _ q
 have hD:(h1.push (Fd "list" vs.toArray 0)).get? h1.objs.size=some (Fd "list" vs.toArray 0):=Heap.get?_push_size _ rfl;show Ra _ _ _ _ _ { s with heap:=h1.push (Fd "list" vs.toArray 0) };have up:∀(h2:Heap),(∀b o,b≠h1.objs.size->(h1.push (Fd "list" vs.toArray 0)).get? b=some o->h2.get? b=some o)->∀b o,s.heap.get? b=some o->h2.get? b=some o:=fun h2 k b o q =>
  k b o (Jf (by rw[z1];exact GD (Heap.lt_size q))) (Heap.get?_push_of_some _ (k1 b o q))
 refine Ia (Tj (B6 slot_list_sort ⟨_,hD,rfl⟩ entry_list_sort (XZ (s:={ s with heap:=h1.push (Fd "list" vs.toArray 0) }) κ Rv hD hz (fun h2 s1 Q k q=>hk h2 s1 Q (up _ k) q) (fun s1 x y hx hy k C q=>hc s1 x y hx hy (up _ k) C q) asy tr fun h' c out k p1 p2 e=>?_) (args_list_sort _)));exact⟨_,rfl,Ib ⟨_,rfl,hq _ h' c out (up _ k) (by rw[z1];exact Wu _) p1 p2 e⟩⟩
end
noncomputable def Zlq:Va->Int
 |.int i _=>i
 |_=>0
theorem B5:∀{ns:LI0}{us:LI3},Ab (ns.map V.int) us->us.map Zlq=ns/\∀u∈us,∃i t,u=Value.int i t
 |[],_,.nil=>⟨rfl,by simp⟩
 |n::ns,_,.cons (b:=u) r rr=>by
  obtain⟨t,rfl⟩:=r;obtain⟨h1,h2⟩:=B5 rr;refine⟨by rw[Ed,h1];rfl,fun v hv=>?_⟩;rcases Vd.mp hv with rfl|hv
  ·exact⟨n,t,rfl⟩
  ·exact h2 v hv
section
end
theorem YY:∀{K:ZlR}{H:Hp}{S:Ja->Prop} (ns:LI0),Reps K H S (ns.map PV.int) (ns.map V.int)
 |_,_,_,[]=>rfl
 |_,_,_,n::ns=>⟨_,_,rfl,rfl,YY ns⟩
section
variable {K:ZlR}{EX:PX->Hp->Prop}{Γ Γ1 Γ2:List Md}{ta tb:TE}{fa fb:LI5->Rr PV}
noncomputable abbrev BX:PV->PV->Rr PV:=oI (fun i j=>decide (0<=j)) fun i j=>.int (i/2^j.toNat)
theorem ZeH(ha:DE K EX Γ Γ1 .A ta fa)(hb:DE K EX Γ1 Γ2 .A tb fb):DE K EX Γ Γ2 .P (Pf (rI (fun _ j=>0<=j) fun i j=>.int (i/2^j.toNat)) ta tb) (fun ρ=>(fa ρ).bind fun x=>(fb ρ).bind fun y=>BX x y):=Q2 (fun _ _ h=>Ei h) (fun _ _ _=>rfl) (fun _ _=>rfl) ha hb
theorem Zjm{i j:Int}(h1:0<=j):BX (.int i) (.int j)=.ok (.int (i/2^j.toNat)):=K3 (Hb h1)
end
noncomputable def Mw(x:LI0):LI1->LI1
 |[]=>[x]
 |y::l=>if HT.Zc y x=true then y::Mw x l else x::y::l
noncomputable def Ni:LI1->LI1
 |[]=>[]
 |x::l=>Mw x (Ni l)
noncomputable abbrev Nn(l:LI1):Prop:=l.Pairwise fun a b=>HT.Zc b a=false
theorem JI(x:LI0):∀l,(Mw x l).Perm (x::l)
 |[]=>List.Perm.refl _
 |y::l=>by
  unfold Mw
  split
  ·exact((JI x l).cons y).trans (List.Perm.swap x y l)
  ·exact List.Perm.refl _
theorem Pj:∀l,(Ni l).Perm l
 |[]=>List.Perm.refl _
 |x::l=>(JI x _).trans ((Pj l).cons x)
theorem B8(h1:HT.Zc b a=false)(h2:HT.Zc c b=false): HT.Zc c a=false:=by
 cases h:HT.Zc c a with
 |false=>rfl
 |true =>
  exfalso;cases h3:HT.Zc a b with
  |true=>rw[HL.HI h h3] at h2;cases h2
  |false=>rw[HL.A8 h3 h1] at h;rw[h] at h2;cases h2
theorem Q8(h:HT.Zc a b=true): HT.Zc b a=false:=by
 cases h2:HT.Zc b a with
 |false=>rfl
 |true=>have:=HL.HI h h2;rw[HL.GI] at this;cases this
theorem LU: ∀{l:LI1},Nn l->Nn (Mw x l)
 |[],_=>List.pairwise_singleton _ _
 |y::l,h=>by
  obtain⟨h1,h2⟩:=Mz.mp h;unfold Mw
  split
  ·rename_i e
   refine Mz.mpr ⟨fun z hz=>?_,LU h2⟩;rcases Vd.mp ((JI x l).mem_iff.mp hz) with rfl|hz
   ·exact Q8 e
   ·exact h1 z hz
  ·rename_i e
   have e:=Bool.eq_false_iff.mpr e;refine Mz.mpr ⟨fun z hz=>?_,h⟩;rcases Vd.mp hz with rfl|hz
   ·exact e
   ·exact B8 e (h1 z hz)
theorem Iu:∀l,Nn (Ni l)
 |[]=>List.Pairwise.nil
 |x::l=>LU (Iu l)
theorem Q5:∀{l m:LI1},Nn l->Nn m->l.Perm m->l=m
 |[],m,_,_,p=>(List.nil_perm.mp p).symm
 |x::l,[],_,_,p=>Eb (List.perm_nil.mp p) (by simp)
 |x::l,y::m,h1,h2,p=>by
  obtain⟨a1,a2⟩:=Mz.mp h1;obtain⟨b1,b2⟩:=Mz.mp h2;have e:x=y:=by
   have hx:x∈y::m:=p.mem_iff.mp (by simp);have hy:y∈x::l:=p.mem_iff.mpr (by simp);rcases Vd.mp hx with z|z
   ·exact z
   ·rcases Vd.mp hy with z'|z'
    ·exact z'.symm
    ·exact HL.A8 (b1 x z) (a1 y z')
  subst e;rw[Q5 a2 b2 (List.perm_cons _ |>.mp p)]
theorem ZkH(p:l.Perm m): Ni l=Ni m:=Q5 (Iu l) (Iu m) ((Pj l).trans (p.trans (Pj m).symm))
noncomputable def Ff(ts:List Ue)(a:Ja):LI0:=((ts.find? fun t=>decide (t.1=a)).map (·.2)).getD []
theorem Fm(hu:∀t∈ts,∀t'∈ts,t.1=t'.1->t.2=t'.2)(ht:t∈ts): Ff ts t.1=t.2:=by
 unfold Ff;cases hf:ts.find? fun q=>decide (q.1=t.1) with
 |none=>exact Eb (Hb rfl) (XC.mp hf t ht)
 |some q =>
  have h1:=List.find?_some hf;have h2:=List.mem_of_find?_eq_some hf;exact hu q h2 t ht (Ei h1)
noncomputable def Ac:Va->Ja
 |.ref a=>a
 |_=>0
theorem PM:∀{ts:List Ue}{us:LI3},Ab (ts.map fun t=>V.ref t.1) us->us=ts.map fun t=>Value.ref t.1
 |[],_,.nil=>rfl
 |t::ts,_,.cons r rr=>by
  have r:_=Value.ref t.1:=r;rw[r,PM rr];rfl
theorem C4:∀(ts:List Ue),Ab (ts.map fun t=>V.ref t.1) (ts.map fun t=>Value.ref t.1)
 |[]=>.nil
 |t::ts=>.cons rfl (C4 ts)
section
variable {X:Cx}
def MK(K:ZlR):List V->Hp->VK->Prop:=fun xs H Q=>∃p,∃ts:List Ue,xs=[.ref p]/\Yb K H p (ts.map fun t=>V.ref t.1) /\
  (∀t∈ts,Af K H t.1 (t.2.map V.int)/\t.2≠[])/\ts.length<=1000000/\∀l,H l=none->∀qs:List Ue,qs.Perm ts->Nn (qs.map (·.2))->Q (.ref l) (upd H l (.lst (qs.map fun t=>V.ref t.1)))
theorem Zd4:Og X (.builtin "sorted") (MK X.K):=by
 intro Za s σ H xs us Q I r h;obtain⟨p,ts,rfl,hq,hall,hz0,q⟩:=h;obtain⟨u,rfl,rx⟩:=Zn r;cases rx;obtain⟨its,r',pl,hz⟩:=I.list hq;have hits:=PM r';subst hits;have tup:∀(s1:Ga),(∀b o,s.heap.get? b=some o->s1.heap.get? b=some o)->∀t∈ts,∃vs:LI3,Ab (t.2.map V.int) vs/\IsTup s1.heap t.1 vs.toArray:=fun s1 k t ht=>by
  have I':Ca X Za σ H { s with heap:=s1.heap,toks:=s1.toks }:=I.kept k;obtain⟨vs,rv,pt,_⟩:=I'.tuple (hall t ht).1;exact⟨vs,rv,pt⟩
 have hu:∀t∈ts,∀t'∈ts,t.1=t'.1->t.2=t'.2:=fun t ht t' Ad e=>by
  obtain⟨vs,rv,ob,eo,oc,k1,od⟩:=tup s (fun _ _ h=>h) t ht;obtain⟨vs',rv',ob',eo',oc',k1',od'⟩:=tup s (fun _ _ h=>h) t' Ad;rw[e,eo'] at eo;cases eo;rw[od] at od';have e2:vs.toArray=vs'.toArray:=by injection od'
  have e3:vs=vs':=by simpa using e2
  subst e3;rw[<- (B5 rv).1,<- (B5 rv').1]
 refine Zk7 (tuples' true) (fun x y=>HT.Zc (Ff ts (Ac x)) (Ff ts (Ac y))) pl.isList (by simpa using hz0) (fun h2 s1 Q' k q'=>?_) (fun s1 x y hx hy k C q'=>?_) (fun x y _ _ h=>Q8 h) (fun x y z _ _ _ h1 h2=>B8 h1 h2) fun D h' c out k hD p1 p2 e=>?_
 ·have:∀(ts:List Ue) (its:LI3),(∀t∈ts,t.2≠[]/\∃vs:LI3,Ab (t.2.map V.int) vs/\IsTup s1.heap t.1 vs.toArray)->Ab (ts.map fun t=>V.ref t.1) its->∃fs:LI3,fs.length=ts.length/\PySem.W.KatTups s1.heap its fs/\∀v∈fs,∃n t,v=Value.int n t:=by
   intro ts
   induction ts with
   |nil =>
    intro its _ rv;cases rv;exact⟨[],rfl,trivial,by simp⟩
   |cons t ts ih =>
    intro its ht rv;cases rv with
    |cons rv tv =>
     obtain⟨fs,e1,e2,e3⟩:=ih _ (fun t' h'=>ht t' (Jj _ h')) tv;obtain⟨hne,vs,rvs,ob,eo,oc,k,od⟩:=ht t (Wl ..);obtain⟨n,ns,en⟩:=WC hne;rw[en] at rvs;cases rvs with
     |cons rn tn =>
      obtain⟨tk,rfl⟩:=rn;have rv':_=Value.ref t.1:=rv;subst rv';exact⟨.int n tk::fs,by simp[e1],⟨⟨t.1,ob,_,k,rfl,eo,oc,od,rfl⟩,e2⟩,fun v hv=>(Vd.mp hv).elim (fun z=>⟨n,tk,z⟩) (e3 v)⟩
  obtain⟨fs,e1,e2,e3⟩:=this ts _ (fun t ht=>⟨(hall t ht).2,tup s1 k t ht⟩) r';exact PySem.W.kat_kind (T:=.type "int") e2 (by rw[e1];simp at h2;lia) (fun v hv=>by obtain⟨n,t,rfl⟩:=e3 v hv;exact PySem.W.Looks.of_pure rfl) rfl q'
 ·obtain⟨t,ht,rfl⟩:=Nd.mp hx
  obtain⟨t',Ad,rfl⟩:=Nd.mp hy;obtain⟨vs,rv,ob,eo,oc,k1,od⟩:=tup s1 k t ht;obtain⟨vs',rv',ob',eo',oc',k1',od'⟩:=tup s1 k t' Ad;refine PySem.W.kat_lt eo od eo' od' (C8 rv rv' ?_ ?_)
  ·simp
  ·rw[show Ac (.ref t.1)=t.1 from rfl,show Ac (.ref t'.1)=t'.1 from rfl,Fm hu ht,Fm hu Ad] at q'
   exact q'
 ·have ho:∀u∈out,∃t∈ts,u=Value.ref t.1:=fun u hu=>by
   obtain⟨t,ht,e⟩:=Nd.mp (p1.mem_iff.mp hu);exact⟨t,ht,e.symm⟩
  have hp:(out.map fun v=>((Ac v,Ff ts (Ac v)):Ue)).Perm ts:=by
   have h1:=p1.map fun v=>((Ac v,Ff ts (Ac v)):Ue)
   rw[Sd] at h1;have h2:ts.map ((fun v=>((Ac v,Ff ts (Ac v)):Ue))∘fun t=>Value.ref t.1)=ts:=by
    have:ts.map ((fun v=>((Ac v,Ff ts (Ac v)):Ue))∘fun t=>Value.ref t.1)=ts.map id:=Xk fun t ht=>by
     show ((t.1,Ff ts t.1):Ue)=t;rw[Fm hu ht]
    rw[this,T5]
   rw[h2] at h1;exact h1
  have hup:Nn ((out.map fun v=>((Ac v,Ff ts (Ac v)):Ue)).map (·.2)):=by
   rw[Sd];exact Zt.mpr (p2.imp fun h=>h)
  have hout:out=(out.map fun v=>((Ac v,Ff ts (Ac v)):Ue)).map fun t=>Value.ref t.1:=by
   rw[Sd];have:out.map ((fun(t:Ue)=>Value.ref t.1)∘fun v=>((Ac v,Ff ts (Ac v)):Ue))=out.map id:=Xk fun u hu=>by
    obtain⟨t,ht,rfl⟩:=ho u hu;rfl
   rw[this,T5]
  generalize (out.map fun v=>((Ac v,Ff ts (Ac v)):Ue))=qs at hp hup hout;have I1:Ca X Za σ (upd H D (.lst (qs.map fun t=>V.ref t.1))) { s with heap:=h' }:=by
   refine I.laid (t':=s.toks) k hD ⟨?_,_,c, ?_,e⟩
   ·rw[Pb,hp.length_eq];exact Il hz0
   ·rw[hout];exact C4 qs
  exact⟨.ref D,_,I1,rfl,q D (I.hok.fresh hD) qs hp hup⟩
theorem Zd5{K:ZlR}(e:X.K=K:=by rfl):Og X (.builtin "sorted") (MK K):=by subst e;exact Zd4
end
def Ev(ts:LI1):Prop:=(∀t∈ts,t≠[])/\ts.length<=1000000
open Classical in
noncomputable def F9(xs:LI5):Rr PV:=if h:∃ts:LI1,xs=[.lst (ts.map Ya)]/\Ev ts then newF ((Ni h.choose).map Ya) else .bad
theorem Zjp(h:Ev ts): F9 [.lst (ts.map Ya)]=newF ((Ni ts).map Ya):=by
 have hex:∃us:LI1,[PV.lst (ts.map Ya)]=[.lst (us.map Ya)]/\Ev us:=⟨ts,rfl,h⟩
 unfold F9;rw[Xl hex];have hs:ts.map Ya=hex.choose.map Ya:=PV.lst.inj (List.cons.inj hex.choose_spec.1).1;have e:hex.choose=ts:=(U5 hs).symm;rw[e]
section
variable {K:ZlR}{B:Ja->Prop}{EX:PX->Hp->Prop}{H0 H:Hp}{σ:St}{Γ Γ':List Md}{ρ:LI5}{F:Nat->LI2}{R:LI2}{ta:TA}{fa:LI5->Rr LI5}
theorem WK: ∀{ts:LI1}{vs:List V},Reps K H S (ts.map Ya) vs->∃qs:List Ue,vs=(qs.map fun t=>V.ref t.1)/\(qs.map fun t=>t.2)=ts/\∀t∈qs,Af K H t.1 (t.2.map V.int)/\Ta K H S (Ya t.2) (V.ref t.1)
 |[],vs,h=>⟨[],h,rfl,by simp⟩
 |ns::ts,vs,h=>by
  obtain⟨v,r,rfl,h1,h2⟩:=h;obtain⟨qs,rfl,e2,e3⟩:=WK h2;have h1':=h1;obtain⟨a,ws,rfl,hn,hr⟩:=h1;have:=D4 hr;subst this;refine⟨(a,ns)::qs,rfl,by rw[Ed,e2],fun t ht=>?_⟩;rcases Vd.mp ht with rfl|ht
  ·exact⟨hn.sqT,h1'⟩
  ·exact e3 t ht
theorem TK: ∀{qs:List Ue},(∀t∈qs,Ta K H S (Ya t.2) (V.ref t.1))->Reps K H S ((qs.map (·.2)).map Ya) (qs.map fun t=>V.ref t.1)
 |[],_=>rfl
 |t::qs,h=>⟨_,_,rfl,h t (Wl ..),TK fun q hq=>h q (Jj _ hq)⟩
theorem ZeK(ha:Ce K EX Γ Γ' ta fa):DE K EX Γ Γ' .F (Zj (MK K) ta) (fun ρ=>(fa ρ).bind F9):=fun B H0 H σ ρ F R Q A d=>by
 refine ha B H0 H σ ρ F R _ A (d.bind.imp (fun xs _ d vs H1 F1 s1 f1 p1 A1=>?_) fun e q=>q);unfold F9 at d
 split at d
 ·rename_i hex
  have hs:=hex.choose_spec;generalize hex.choose=ts at d hs;obtain⟨rfl,hne,hl⟩:=hs;obtain⟨h1,h2,d⟩:=Dn.newF d;obtain⟨v,rfl,a,ws,rfl,hn,hr⟩:=Xi p1;obtain⟨qs,rfl,rfl,e3⟩:=WK hr;refine⟨a,qs,rfl,Nf (S:=fun _=>True) hn,fun t ht=>⟨(e3 t ht).1,hne _ (QD ht)⟩,by simpa using hl,fun l hz zs hp hup=>?_⟩;have e:Ni (qs.map (·.2))=zs.map (·.2):=Q5 (Iu _) hup ((Pj _).trans (hp.map (·.2)).symm);have pr:=TK (K:=K) (H:=H1) (S:=fun _=>True) (qs:=zs) fun t ht=>(e3 t (hp.mem_iff.mp ht)).2;rw[<- e] at pr;exact d _ _ (s1.trans (La.new hz)) (Lc.newP s1 f1 pr h1 A1 hz)
 ·exact d.elim
end
def Mj(h:Heap)(d:Ja)(es:Array DictEntry)(ep:Nat):Prop:=∃o,h.get? d=some o/\o.ExactDict/\o.data=.dict es ep
theorem Mj.at(x:Mj h d es ep)(k:∀o,h.get? d=some o->h'.get? d=some o): Mj h' d es ep:=by
 obtain⟨o,e,r⟩:=x;exact⟨o,k o e,r⟩
section
variable {prog:Bc}{w:Jc}{A:Pd}{E:Va->Ga->Prop}{s:Ga}{d it:Ja}{es:Array DictEntry}{ep:Nat}
theorem Mj.ty(x:Mj s.heap d es ep):s.TypeIs (.ref d) "dict":=by
 obtain⟨o,e,r,_⟩:=x;exact⟨o,e,r.1⟩
theorem Zkb(nm:(d==Ij)=false)(x:Mj s.heap d es ep)(q:Q (.ref s.heap.objs.size) { s with heap:=s.heap.push { cls:=.type "dict_keyiterator",data:=.fields #[.ref d,.int 0 0,.int es.size 0,.int ep 0] } }): Ra (Na prog w) A (pyIter (.ref d)) Q E s:=by
 have ty:=x.ty;obtain⟨o,e1,e2,e3⟩:=x;refine wpAny_pyIter_slot ty F.slot_dict_iter (B6 F.slot_dict_iter ty F.entry_dict_iter (by
  unfold Builtin.«dict.__iter__»;refine Ia (by
   unfold Builtin.Dict.dictSlotNone;refine Ia (wpAny_notOrdered_dict ty (by
    show Ra _ _ (pure (Value.ref d)) _ _ s;refine Ib (by
     show Ra _ _ (Builtin.Dict.showsAll d >>= _) _ _ s;unfold Builtin.Dict.showsAll;rw[Qa (by rw[nm];exact Bool.false_ne_true)];refine Ia (Ib (Ia (WN e1 e3 (Ia (wpAny_dictEpoch e1 e3 (Ia (D6 (Ib ⟨_,rfl, "dict_keyiterator",_,⟨_,Heap.get?_push_size _ rfl,rfl⟩,F.slot_dict_keyiterator_next.lookup, ?_⟩))))))));simpa[rawInt] using q))))) (F.args_dict_iter_1 _))
theorem Zka(hi:s.heap.IsKeyIter it d i es.size ep)(x:Mj s.heap d es ep)(hx:i<es.size)(q:∀h',h'.IsKeyIter it d (i+1) es.size ep->Heap.SameBut it s.heap h'->Q (some es[i].key) { s with heap:=h' }): Ra (Na prog w) A (pyNext (.ref it)) Q E s:=by
 have ty:=hi.typeIs;obtain⟨o,e1,e2,e3⟩:=id hi;obtain⟨u,u1,u2,u3⟩:=x;unfold pyNext;refine Ia (Z0 (wpAny_callSpecial?_slot (name:=Str.ofString "__next__") ty F.slot_dict_keyiterator_next (B6 F.slot_dict_keyiterator_next ty F.entry_dict_keyiterator_next (by
  refine Ia (Ib (Ia (Ia (by
   first
    |refine Ia (RD ty (Ib (Ia (PD e1 e3 ?_))))
    |refine Ia (SD ty (Ib (Ia (PD e1 e3 ?_))))
   have n1:Builtin.Dict_items.ownsTuple "dict_keyiterator"=false:=by decide
   simp only[n1,Bool.false_eq_true,if_false];show Ra _ _ (if (Value.ref d==Value.none)=true then _ else _) _ _ s;rw[Qa (show ¬((Value.ref d==Value.none)=true) from Bool.false_ne_true)];refine Ia (Ib (Ia (WN u1 u3 ?_)));rw[Qa (by simp)];refine Ia (Ib (Ia (wpAny_dictEpoch u1 u3 ?_)));rw[Qa (by simp)];refine Ib ?_;simp only[show ¬((i:Int)<0) from by lia,if_false,Kg,XM hx];have hit':(s.heap.update it (Obj.mapFields (·.setIfInBounds 1 (rawInt ((i:Int)+1))))).IsKeyIter it d (i+1) es.size ep:=⟨_,Heap.get?_update_self _ e1 (Obj.isFreed_of_fields (Obj.data_mapFields e3 _)),(Obj.cls_mapFields ..).trans e2,by rw[Obj.data_mapFields e3];simp[rawInt]⟩
   refine Ia (by
    first
     |refine Ia (RD ty (Ib (Ia (YN ty ?_))))
     |refine Ia (SD ty (Ib (Ia (YN ty ?_))))
    show Ra _ _ (setField (.ref it) 1 (rawInt ((i:Int)+1)) >>= _) _ _ s;refine Ia (wpAny_setField e1 e3 (by simp) (Ia (Tj (Ia (YN (s:={ s with heap:=s.heap.update it (Obj.mapFields (·.setIfInBounds 1 (rawInt ((i:Int)+1)))) }) hit'.typeIs (by
     show Ra _ _ (pure es[i].key) _ _ _;exact Ib (Ib ⟨_,rfl,Ib (q _ hit' (Heap.SameBut.update ..))⟩))))))))))))) (F.args_dict_keyiterator_next_1 _))))
theorem ZjZ(hh:A.handled=none)(hge:es.size<=i)(hi:s.heap.IsKeyIter it d i es.size ep)(x:Mj s.heap d es ep)(q:∀h',Heap.ExtBut it s.heap h'->Q none { s with heap:=h' }): Ra (Na prog w) A (pyNext (.ref it)) Q E s:=by
 have ty:=hi.typeIs;obtain⟨o,e1,e2,e3⟩:=id hi;obtain⟨u,u1,u2,u3⟩:=x;unfold pyNext;refine Ia (Z0 (wpAny_callSpecial?_slot (name:=Str.ofString "__next__") ty F.slot_dict_keyiterator_next (B6 F.slot_dict_keyiterator_next ty F.entry_dict_keyiterator_next (by
  refine Ia (Ib (Ia (Ia (by
   first
    |refine Ia (RD ty (Ib (Ia (PD e1 e3 ?_))))
    |refine Ia (SD ty (Ib (Ia (PD e1 e3 ?_))))
   have n1:Builtin.Dict_items.ownsTuple "dict_keyiterator"=false:=by decide
   simp only[n1,Bool.false_eq_true,if_false];show Ra _ _ (if (Value.ref d==Value.none)=true then _ else _) _ _ s;rw[Qa (show ¬((Value.ref d==Value.none)=true) from Bool.false_ne_true)];refine Ia (Ib (Ia (WN u1 u3 ?_)));rw[Qa (by simp)];refine Ia (Ib (Ia (wpAny_dictEpoch u1 u3 ?_)));rw[Qa (by simp)];refine Ib ?_;simp only[show ¬((i:Int)<0) from by lia,if_false,Kg,NC hge];refine Ia (by
    first
     |refine Ia (RD ty (Ib ?_))
     |refine Ia (SD ty (Ib ?_))
    show Ra _ _ (setField (.ref it) 0 .none >>= _) _ _ s;refine Ia (wpAny_setField e1 e3 (by simp) ?_);show Ra _ _ (newExc (.type "StopIteration") [] >>= _) _ _ _;refine Ia ?_;simp only[newExc,newTuple];refine Ia (D6 (Ia (m:=firstArgMember _ _) (wpAny_of_eq (a:=Value.none) (by first|rfl|(simp only[firstArgMember];rfl)) ?_)) (by size_fits));refine D6 ?_ (by size_fits);simp only[raiseNew];refine Ia (wpAny_handled ?_);rw[show A.in1.handled=none from hh];refine Ia (Ib (wpAny_throw ?_));refine Ia (wpAny_isInstance (T := "StopIteration") (b:=true) ⟨_,Heap.get?_push_size _ rfl,rfl⟩ isSubtype_stop ?_);exact Ib (q _ (((Heap.SameBut.update ..).extBut.push _).push _)))))))) (F.args_dict_keyiterator_next_1 _))))
theorem Zls(hh:A.handled=none)(I:Ja)(ne:d≠I):Walks prog w A I [I,d] [I] es.size (fun i v=>(es.map (·.key))[i]?=some v) (fun i h=>h.IsKeyIter I d i es.size ep/\Mj h d es ep) where
 sub b hb:=by simp at hb;simp[hb]
 frame _ _ _ st k:=⟨st.1.at fun o e=>k I (by simp) o e,st.2.at fun o e=>k d (by simp) o e⟩
 item i s Q E hi st q:=Zka st.1 st.2 hi fun h' Ba sb=>q _ h' s.toks (by simp[hi]) ⟨Ba,st.2.at fun o e=>(sb.2 d ne).trans e⟩ fun b o hb e=>(sb.2 b (fun z=>hb (by simp[z]))).trans e
 done s Q E st q:=ZjZ hh (Db _) st.1 st.2 fun h' eb=>q h' s.toks fun b o hb e=>eb b o (fun z=>hb (by simp[z])) e
 self _ _ _ _ st q:=wpAny_pyIter_keyiter st.1 q
theorem Zg3(nm:(d==Ij)=false)(x:Mj s.heap d es ep)(hz:es.size<=1000000)(q:∀b tk,Q b { s with toks:=tk }): Ra (Na prog w) A (Builtin.List.listLengthHint (.ref d)) Q E s:=by
 have ty:=x.ty;unfold Builtin.List.listLengthHint;refine Ia (wpAny_specialOf ty F.slot_dict_len.lookup ?_);generalize hid:("dict.__len__":String)=nm0
 wp_delta
 rw[show splitId nm0=some ("dict", "__len__") from by subst hid;decide +kernel];subst hid;exact Ia (wpAny_isInstance (T := "dict") (b:=true) ty (by rw[isSubtype_type];kernel_rfl) (wpAny_ite_split (fun z=>Eb z (by decide)) (fun _=>wpAny_ite_split (fun _=>Ia (wpAny_typeOf ty (Ib (q _ s.toks)))) (fun z=>Eb (by decide +kernel) z))))
theorem NS(hh:A.handled=none)(nm:(d==Ij)=false)(x:Mj s.heap d es ep)(hz:es.size<=1000000)(S:Ja)(res:Va)(c0:Nat)(hS:s.heap.get? S=some { cls:=.type "list",data:=.seq #[] c0 })(q:∀h' tk acc c',(∀b o,b≠S->s.heap.get? b=some o->h'.get? b=some o)->h'.get? S=some { cls:=.type "list",dict:=none,data:=.seq acc c',slots:=#[] } ->
   ItemsOf (fun i v=>(es.map (·.key))[i]?=some v) acc es.size->R (.ok (.ret res)) { s with heap:=h',toks:=tk }):
  Ra (Na prog w) A.in1 (Builtin.List.listExtendWith (.ref S) (.ref d) res) (fun fin s'=>match fin with|.done f=>R (.ok f) s'|.again c'=>c'.quiet=true/\codeAny (Na prog w) A c' R s') (fun e s'=>R (.error e) s') s:=by
 have ty:=x.ty;have dne:S≠d:=fun e=>by
  obtain⟨o,e1,e2,e3⟩:=x;rw[e,e1] at hS;cases hS;cases e3
 have sne:S≠s.heap.objs.size:=Jf (Heap.lt_size hS);have dI:d≠s.heap.objs.size:=by
  obtain⟨o,e1,_⟩:=x;exact Jf (Heap.lt_size e1)
 have W:=(Zls (prog:=prog) (w:=w) (A:=A.in1) (es:=es) (ep:=ep) hh s.heap.objs.size dI).toS;have go:∀(h:Heap) (c1 tk:Nat),h.IsKeyIter s.heap.objs.size d 0 es.size ep->Mj h d es ep->(∀b o,b≠S->s.heap.get? b=some o->h.get? b=some o) ->
   h.get? S=some { cls:=.type "list",data:=.seq #[] c1 }->codeAny (Na prog w) A (.builtin "list.extend.loop" ⟨[.ref S,.ref s.heap.objs.size,res],[]⟩) R { s with heap:=h,toks:=tk }:=fun h c1 tk st st2 k hS1=>by
  refine codeAny_extend_loopS W (by rw[sizeLine_eq];lia) S (by simp[sne,dne]) res es.size 0 _ #[] c1 rfl (Ng _) ⟨st,st2⟩ hS1 (ItemsOf.nil _) fun s' acc' c' hm hS' hacc=>?_;rw[Moved.eq_with hm];refine q s'.heap s'.toks acc' c' (fun b o hb e=>hm.heap b o (fun z=>?_) (k b o hb e)) hS' hacc;rcases Vd.mp z with z|z
  ·exact hb z
  ·exact Eb (Heap.lt_size e) (by rw[Di.mp z];exact Zl _)
 unfold Builtin.List.listExtendWith;refine Ia (wpAny_typeOf ty ?_);simp only[show Builtin.List.listSameRef (.ref S) (.ref d)=false by simp[Builtin.List.listSameRef,dne],show (Value.type "dict" == Value.type "list")=false by decide,show (Value.type "dict" == Value.type "tuple")=false by decide,Bool.or_false,Bool.false_eq_true,if_false];have p1:∀(ob:Obj) b o,s.heap.get? b=some o->(s.heap.push ob).get? b=some o:=fun ob b o e=>Heap.get?_push_of_some _ e;refine Ia (Zkb nm x (Ia (Tj (Zg3 nm (x.at fun o e=>p1 _ _ _ e) hz fun bb tk=>?_))));have it0:(s.heap.push { cls:=.type "dict_keyiterator",data:=.fields #[.ref d,.int 0 0,.int es.size 0,.int ep 0] }).IsKeyIter s.heap.objs.size d 0 es.size ep:=⟨_,Heap.get?_push_size _ rfl,rfl,rfl⟩
 have S1:=p1 { cls:=.type "dict_keyiterator",data:=.fields #[.ref d,.int 0 0,.int es.size 0,.int ep 0] } S _ hS;refine wpAny_ite_split (fun _=>Ia (Fn (Ia ?_))) (fun _=>Ib ⟨Yz F.plain_extend_loop _,go _ c0 _ it0 (x.at fun o e=>p1 _ _ _ e) (fun b o _ e=>p1 _ b o e) S1⟩);show Ra _ _ (updateSeq S (·.push .none) >>= fun _=>updateSeq S (·.pop)) _ _ _;have S2:=Heap.get?_update_self (Obj.mapSeq (·.push Value.none)) S1 rfl;have S3:=Heap.get?_update_self (Obj.mapSeq (·.pop)) S2 rfl;have oth:∀(h:Heap) f b o,b≠S->h.get? b=some o->(h.update S f).get? b=some o:=fun h f b o hb e=>(Heap.get?_update_other _ _ (Ne.symm hb)).trans e;exact Ia (Q0 S1 rfl (Q0 (hz:=by seq_fits) S2 rfl (Ib ⟨Yz F.plain_extend_loop _,go _ _ _ (it0.at fun o e=>oth _ _ _ _ (Ne.symm sne) (oth _ _ _ _ (Ne.symm sne) e)) (x.at fun o e=>oth _ _ _ _ (Ne.symm dne) (oth _ _ _ _ (Ne.symm dne) (p1 _ _ _ e))) (fun b o hb e=>oth _ _ _ _ hb (oth _ _ _ _ hb (p1 _ _ _ e))) S3⟩)))
theorem Zh4(hh:A.handled=none)(nm:(d==Ij)=false)(x:Mj s.heap d es ep)(hz:es.size<=1000000)(q:∀h' tk acc c',(∀b o,s.heap.get? b=some o->h'.get? b=some o)->h'.get? s.heap.objs.size=some { cls:=.type "list",dict:=none,data:=.seq acc c',slots:=#[] }->ItemsOf (fun i v=>(es.map (·.key))[i]?=some v) acc es.size->Q (.ref s.heap.objs.size) { s with heap:=h',toks:=tk }):
  Ra (Na prog w) A (call (.type "list") [.ref d]) Q E s:=by
 have hS:(s.heap.push { cls:=.type "list",data:=.seq #[] }).get? s.heap.objs.size=some { cls:=.type "list",data:=.seq #[] }:=Heap.get?_push_size _ rfl;have p1:∀b o,s.heap.get? b=some o->(s.heap.push { cls:=.type "list",data:=.seq #[] }).get? b=some o:=fun b o e=>Heap.get?_push_of_some _ e;have dne:d≠s.heap.objs.size:=by
  obtain⟨o,e1,_⟩:=x;exact Jf (Heap.lt_size e1)
 refine callType_codes (Q₁:=fun ob s1=>ob=.ref s.heap.objs.size/\s1={ s with heap:=s.heap.push { cls:=.type "list",data:=.seq #[] } }) F.called_list (F.typeCall_list_1 _) F.entry_list_init (code_list_new _ ⟨rfl,rfl⟩) fun ob s1 ⟨e1,e2⟩=>?_;subst e1 e2;refine⟨⟨_,hS,rfl⟩,F.args_list_init_2 _ _, ?_⟩;show Ra _ _ (do let old <- Builtin.List.listItems (.ref s.heap.objs.size);Builtin.List.listUpdate (.ref s.heap.objs.size) (fun _=>#[]);letGo old.toList.reverse;Builtin.List.listExtendWith (.ref s.heap.objs.size) (.ref d) .none) _ _ _;refine Ia ?_;unfold Builtin.List.listItems;refine Ia (wpAny_seqItems hS rfl (Ib ?_));show Ra _ _ (updateSeq s.heap.objs.size (fun _=>#[]) >>= fun _=>letGo (#[]:Array Va).toList.reverse >>= fun _=>Builtin.List.listExtendWith (.ref s.heap.objs.size) (.ref d) .none) _ _ _;have S2:=Heap.get?_update_self (Obj.mapSeq (fun _=>(#[]:Array Va))) hS rfl;have oth:∀b o,b≠s.heap.objs.size->s.heap.get? b=some o->((s.heap.push { cls:=.type "list",data:=.seq #[] }).update s.heap.objs.size (Obj.mapSeq (fun _=>(#[]:Array Va)))).get? b=some o:=fun b o hb e=>(Heap.get?_update_other _ _ (Ne.symm hb)).trans (p1 b o e);refine Ia (Q0 hS rfl (Ia (V0 (NS (A:=A.in1) hh nm (x.at fun o e=>oth _ _ dne e) hz _ .none _ S2 fun h' tk acc c' k hS' hacc=>⟨rfl,q h' tk acc c' (fun b o e=>?_) hS' hacc⟩))));have hb:b≠s.heap.objs.size:=Jf (Heap.lt_size e);exact k b o hb (oth b o hb e)
end
section
variable {X:Cx}
theorem EI:∀{H:Hp}{Ub:List (List Sb×V)}{xs:List (List Sb×Ja×Va)},KT H Ub xs->Ub.length=xs.length/\∀(i:Nat) (k:List Sb) (v:V),Ub[i]?=some (k,v)->∃b u,xs[i]?=some (k,b,u)/\H b=some (.tup (k.map kV))
 |_,_,_,.nil=>⟨rfl,fun i k v h=>by simp at h⟩
 |H,_,_,.cons (a:=p) (b:=q) r rr=>by
  obtain⟨e,f⟩:=EI rr;refine⟨by simp[e],fun i k v h=>?_⟩;cases i with
  |zero =>
   simp only[YC,Option.some.injEq] at h;obtain⟨r1,r2,r3⟩:=r;subst h;exact⟨q.2.1,q.2.2,by rw[YC,show k=q.1 from r1],r2⟩
  |succ i =>
   rw[VN] at h ⊢;exact f i k v h
def LY:List V->Hp->VK->Prop:=fun xs H Q=>∃p,∃Ub:List (List Sb×V),xs=[.ref p]/\Rd H p (.dT Ub)/\Ub.length<=1000000 /\
  ∀l,H l=none->∀bs:LI2,bs.length=Ub.length->(∀(i:Nat) (k:List Sb) (v:V),Ub[i]?=some (k,v)->∃b,bs[i]?=some b/\H b=some (.tup (k.map kV)))->Q (.ref l) (upd H l (.lst (bs.map V.ref)))
theorem WU(h:ItemsOf (fun i v=>(List.toArray ks)[i]?=some v) acc ks.length): acc.toList=ks:=by
 obtain⟨h1,h2⟩:=h;refine List.ext_getElem (by simpa using h1) fun i i1 i2=>?_;have:=h2 i (acc.toList[i]) (by simp at i1 ⊢);have this:(List.toArray ks)[i]?=some acc.toList[i]:=this;rw[List.getElem?_toArray,Yc i2] at this;exact(Option.some.inj this).symm
theorem WY:∀(bs:LI2),Ab (bs.map V.ref) (bs.map Value.ref)
 |[]=>.nil
 |b::bs=>.cons rfl (WY bs)
theorem AG(hc:X.calm=true):Og X (.type "list") LY:=by
 intro Za s σ H xs us Q I r h;obtain⟨p,Ub,rfl,hp,hz0,q⟩:=h;obtain⟨u,rfl,rx⟩:=Zn r;cases rx;obtain⟨z,nm,xs,rv,o,es,ep,h1,h2,h3,h4,h5⟩:=(show Wf X.prog X.w H s.heap p (.dT Ub) from P9 I.hok hp)
 obtain⟨g1,g2⟩:=EI rv;have hes:es.size=xs.length:=by rw[<- Oe,h4,Pb]
 refine Zh4 (I.ok.hd hc) nm ⟨o,h1,h2,h3⟩ (by lia) fun h' tk acc c' k e hacc=>?_;have hk:es.map (·.key)=List.toArray (xs.map fun x=>Value.ref x.2.1):=by
  apply O5.mp;rw[Dz,h4,Sd];rfl
 rw[hk,hes,show xs.length=(xs.map fun x=>Value.ref x.2.1).length by simp] at hacc;have ha:=WU hacc;have ea:acc=List.toArray ((xs.map (·.2.1)).map Value.ref):=by
  apply O5.mp;rw[ha,Sd];rfl
 have I1:Ca X Za σ (upd H s.heap.objs.size (.lst ((xs.map (·.2.1)).map V.ref))) { s with heap:=h',toks:=tk }:=by
  refine I.laid (t':=tk) k (Db _) ⟨?_,_,c',WY _,by rw[<- ea];exact e⟩;rw[Pb,Pb,<- g1];exact z
 refine⟨.ref s.heap.objs.size,_,I1,rfl,q _ (I.hok.fresh (Db _)) (xs.map (·.2.1)) (by simp[g1]) fun i kk v hi=>?_⟩;obtain⟨b,u,e1,e2⟩:=g2 i kk v hi;exact⟨b,by rw[Dd,e1];rfl,e2⟩
end
noncomputable def V9(xs:LI5):Rr PV:=match xs with
 |[.box _ (.dt ks) ys]=>if ks.length=ys.length/\ks.length<=1000000 then .ok (.lst (ks.map fun k=>.tup (k.map Vk))) else .bad
 |_=>.bad
theorem NJ{bs: LI1}{ys: LI5}(h:ys.length=bs.length)(hz:bs.length<=1000000): V9 [.box p (.dt (bs.map fun b=>b.map Sum.inl)) ys]=.ok (.lst (bs.map Ya)):=by
 unfold V9;simp only;rw[Da ⟨by rw[Pb];lia,by rw[Pb];exact hz⟩,Sd];congr 2;refine Xk fun b _=>?_;simp only[Function.comp_apply,Ya,Sd];rfl
theorem RK{K:ZlR}{H:Hp}{S:Ja->Prop}:∀(k:List Sb),Reps K H S (k.map Vk) (k.map kV)
 |[]=>rfl
 |.inl i::k=>⟨_,_,rfl,rfl,RK k⟩
 |.inr x::k=>⟨_,_,rfl,rfl,RK k⟩
theorem FH:∀(k:List Sb),PV.flats (k.map Vk)=true
 |[]=>rfl
 |.inl i::k=>by simp only[Ed,Vk,PV.flats,PV.flat,FH k,Bool.and_self]
 |.inr x::k=>by simp only[Ed,Vk,PV.flats,PV.flat,FH k,Bool.and_self]
theorem VT:∀(ks:List (List Sb)),PV.flats (ks.map fun k=>.tup (k.map Vk))=true
 |[]=>rfl
 |k::ks=>by simp only[Ed,PV.flats,PV.flat,FH k,VT ks,Bool.and_self]
theorem VZ{K:ZlR}{H:Hp}{S:Ja->Prop}:∀(ks:List (List Sb)) (bs:LI2),bs.length=ks.length->(∀(i:Nat) (k:List Sb),ks[i]?=some k->∃b,bs[i]?=some b/\H b=some (.tup (k.map kV)))->Reps K H S (ks.map fun k=>.tup (k.map Vk)) (bs.map V.ref)
 |[],[],_,_=>rfl
 |[],b::bs,h,_=>by simp at h
 |k::ks,[],h,_=>by simp at h
 |k::ks,b::bs,h,f=>by
  obtain⟨b',e1,e2⟩:=f 0 k rfl;have e1:b=b':=by simpa using e1
  subst e1;exact⟨_,_,rfl,⟨b,_,rfl,⟨e2,trivial⟩,RK k⟩,VZ ks bs (by simpa using h) fun i kk hi=>f (i+1) kk hi⟩
section
variable {K:ZlR}{EX:PX->Hp->Prop}{Γ Γ':List Md}{ta:TA}{fa:LI5->Rr LI5}
theorem YG(ha:Ce K EX Γ Γ' ta fa):DE K EX Γ Γ' .F (Zj LY ta) (fun ρ=>(fa ρ).bind V9):=fun B H0 H σ ρ F R Q A d=>by
 refine ha B H0 H σ ρ F R _ A (d.bind.imp (fun xs _ d vs H1 F1 s1 f1 p1 A1=>?_) fun e q=>q);unfold V9 at d
 split at d
 ·rename_i p ks ys _
  split at d
  ·rename_i hc
   obtain⟨v,rfl,a,ws,u,rfl,⟨hr,_⟩,⟨_,hl,rfl⟩,_⟩:=Xi p1;refine⟨a,_,rfl,hr,by rw[Lz];lia,fun l hz bs hb f=>?_⟩;have hlz:(ks.zip ws).length=ks.length:=by rw[Lz];lia
   have pr:=VZ (K:=K) (H:=H1) (S:=fun _=>True) ks bs (by lia) fun i k hi=>by
    have hi':i<ks.length:=(Cd.mp hi).1;have hw:i<ws.length:=by lia
    exact f i k ws[i] (by rw[Hz];exact⟨hi,Yc hw⟩)
   exact d _ _ (s1.trans (La.new hz)) (Lc.newP s1 f1 pr (VT ks) A1 hz)
  ·exact d.elim
 ·exact d.elim
end
end L2
namespace My
open L2
noncomputable def tab(n:Nat)(f:Nat->Int):LI0:=(List.range n).map f
theorem Ls(n:Nat)(f:Nat->Int):(tab n f).length=n:=by simp[tab]
theorem AC{n:Nat}{f:Nat->Int}{x:Nat}(h:x<n):(tab n f).getD x 0=f x:=by
 rw[Cb,tab,Dd,Rq h];rfl
theorem CM{n:Nat}{f:Nat->Int}{l:LI0}(hl:l.length=n)(h:∀x,x<n->l.getD x 0=f x):l=tab n f:=by
 apply List.ext_getElem
 ·rw[hl,Ls]
 ·intro i h1 h2
  have:=h i (by lia);rw[Cb,Yc h1] at this;simp only[tab,JD,List.getElem_range];exact this
theorem getD_set{l:LI0}{j x:Nat}{v:Int}(h:j<l.length):(l.set j v).getD x 0=if x=j then v else l.getD x 0:=by
 rw[Cb,Cb];by_cases e:x=j
 ·subst e;rw[Sj h,Da rfl];rfl
 ·rw[Tk (Ne.symm e),Qa e]
theorem ZkR{n:Nat}{f:Nat->Int}{j:Nat}{v:Int}(h:j<n):(tab n f).set j v=tab n fun x=>if x=j then v else f x:=by
 refine CM (by rw[Tu,Ls]) fun x hx=>?_;rw[getD_set (by rw[Ls];exact h)];by_cases e:x=j
 ·rw[Da e,Da e]
 ·rw[Qa e,Qa e,AC hx]
theorem ZkQ{n:Nat}{f g:Nat->Int}(h:∀x,x<n->f x=g x):tab n f=tab n g:=CM (Ls _ _) fun x hx=>by rw[AC hx,h x hx]
theorem T2{l:LI0}{x:Nat}(h:x<l.length):l.getD x 0∈l:=by
 rw[Cb,Yc h];exact Iz h
theorem T4:∀{l:LI0}{j:Nat}{v:Int},j<l.length->(l.set j v).sum=l.sum-l.getD j 0+v
 |a::l,0,v,_=>by simp;lia
 |a::l,j+1,v,h=>by
  have:=T4 (l:=l) (j:=j) (v:=v) (by simpa using h);simp only[List.set_cons_succ,Jt,List.getD_cons_succ,this];lia
theorem Zaf:∀(ns:LI0) (c:Int),(ns.map fun v=>v+c).sum=ns.sum+ns.length*c
 |[],c=>by simp
 |a::l,c=>by
  simp only[Ed,Jt,Ci];rw[Zaf l c,Int.natCast_add,Int.add_mul];lia
theorem K8{n a b:Int}(ha:0<=a)(ha':a<n)(hb:0<=b)(hb':b<n):(a-b)%n=if b<=a then a-b else a-b+n:=by
 by_cases h:b<=a
 ·rw[Da h,Pk (by lia) (by lia)]
 ·rw[Qa h,<- RC,Pk (by lia) (by lia)]
theorem G3{n a b:Int}(ha:0<=a)(ha':a<n)(hb:0<=b)(hb':b<n):(a+b)%n=if a+b<n then a+b else a+b-n:=by
 by_cases h:a+b<n
 ·rw[Da h,Pk (by lia) (by lia)]
 ·rw[Qa h,<- Int.sub_emod_right,Pk (by lia) (by lia)]
structure WD(ns:LI0):Prop where
 lo:2<=ns.length
 hi:ns.length<=24
 nn:∀x∈ns,0<=x
 sm:ns.sum<=10^60
theorem sum_nn:∀{l:LI0},(∀x∈l,0<=x)->0<=l.sum
 |[],_=>by simp
 |a::l,h=>by
  have:=sum_nn (l:=l) fun x hx=>h x (by simp[hx]);have:=h a (by simp);simp only[Jt];lia
theorem FV:∀{l:LI0}{v:Int},(∀x∈l,0<=x)->v∈l->v<=l.sum
 |a::l,v,h,hv=>by
  have h1:=sum_nn (l:=l) fun x hx=>h x (by simp[hx]);have h2:=h a (by simp);simp only[Jt];rcases Vd.mp hv with rfl|hv
  ·lia
  ·have:=FV (l:=l) (fun x hx=>h x (by simp[hx])) hv
   lia
noncomputable def Gu(ns:LI0)(p:Int)(x:Nat):Int:=(if (x:Int)=p then 0 else ns.getD x 0)+ns.getD p.toNat 0/ns.length
noncomputable def Kq(n:Int)(p:Int)(i:Int)(x:Nat):Int:=if 1<=((x:Int)-p)%n/\((x:Int)-p)%n<=i then 1 else 0
noncomputable def Yi(ns:LI0)(p:Int)(i:Int)(x:Nat):Int:=Gu ns p x+Kq ns.length p i x
theorem IL(n p i:Int)(x:Nat):0<=Kq n p i x:=by unfold Kq;split<;>lia
theorem O4{n p i:Int}{x:Nat}(h:1<=((x:Int)-p)%n/\((x:Int)-p)%n<=i):Kq n p i x=1:=Da h
theorem Hu{n p i:Int}{x:Nat}(h:¬(1<=((x:Int)-p)%n/\((x:Int)-p)%n<=i)):Kq n p i x=0:=Qa h
theorem ZkA{ns:LI0}{p:Int}{x:Nat}(h:(x:Int)=p):Gu ns p x=ns.getD p.toNat 0/ns.length:=by unfold Gu;rw[Da h];lia
theorem Zk9{ns:LI0}{p:Int}{x:Nat}(h:(x:Int)≠p):Gu ns p x=ns.getD x 0+ns.getD p.toNat 0/ns.length:=by unfold Gu;rw[Qa h]
noncomputable def Ee(ns:LI0)(p:Int):LI0:=tab ns.length (Yi ns p (ns.getD p.toNat 0%ns.length))
noncomputable def YZ(ns:LI0)(p:Int):Int:=(p+ns.getD p.toNat 0%ns.length)%ns.length
theorem ZkC(ns:LI0)(p:Int):(Ee ns p).length=ns.length:=Ls _ _
section
variable {ns:LI0}{p:Int}
theorem LL(h0:0<=p)(h1:p<ns.length):(ns.map fun v=>v+ns.getD p.toNat 0/ns.length).set p.toNat (ns.getD p.toNat 0/ns.length)=tab ns.length (Yi ns p 0):=by
 refine CM (by simp) fun x hx=>?_;rw[getD_set (by simp;lia)];unfold Yi;rw[Hu (by lia)];by_cases e:x=p.toNat
 ·rw[Da e,ZkA (by lia)];lia
 ·rw[Qa e,Zk9 (by lia)]
  simp[Cb,Yc hx]
theorem Zab(h0:0<=p)(h1:p<ns.length){i:Nat}(hi:(i:Int)+1<ns.length) :
  (tab ns.length (Yi ns p i)).set ((p+(i+1))%ns.length).toNat (Yi ns p i ((p+(i+1))%ns.length).toNat+1)=tab ns.length (Yi ns p ((i+1:Nat):Int)):=by
 have m1:=G3 h0 h1 (show (0:Int)<=(i:Int)+1 by lia) hi;have hlt:((p+((i:Int)+1))%ns.length).toNat<ns.length:=by
  rw[m1];split<;>lia
 rw[ZkR hlt];refine ZkQ fun x hx=>?_;have m2:=K8 (n:=ns.length) (show (0:Int)<=(x:Int) by lia) (by lia) h0 h1;by_cases e:x=((p+((i:Int)+1))%ns.length).toNat
 ·rw[Da e,<- e]
  unfold Yi;have hd:((x:Int)-p)%ns.length=i+1:=by
   rw[m2];rw[m1] at e
   split at e<;>split<;>lia
  rw[Hu (by lia),O4 (by lia)];lia
 ·rw[Qa e]
  unfold Yi;have hd:((x:Int)-p)%ns.length≠i+1:=by
   intro z;apply e;rw[m2] at z;rw[m1]
   split at z<;>split<;>lia
  by_cases q:1<=((x:Int)-p)%ns.length/\((x:Int)-p)%ns.length<=i
  ·rw[O4 q,O4 (by lia)]
  ·rw[Hu q,Hu (by lia)]
theorem Zac(h0:0<=p)(h1:p<ns.length):∀i:Nat,(i:Int)<ns.length->(tab ns.length (Yi ns p i)).sum=ns.sum+ns.length*(ns.getD p.toNat 0/ns.length)-ns.getD p.toNat 0+i
 |0,_=>by
  have:=LL h0 h1;rw[Int.natCast_zero,<- this,T4 (by simp;lia)];have e:=Zaf ns (ns.getD p.toNat 0/ns.length);rw[e];have e2:(ns.map fun v=>v+ns.getD p.toNat 0/ns.length).getD p.toNat 0=ns.getD p.toNat 0+ns.getD p.toNat 0/ns.length:=by
   have hx:p.toNat<ns.length:=by lia
   rw[Cb,Dd,Yc hx];simp[hx]
  rw[e2];lia
 |i+1,hi=>by
  have ih:=Zac h0 h1 i (by lia);have m1:=G3 h0 h1 (show (0:Int)<=(i:Int)+1 by lia) (by lia);have hlt:((p+((i:Int)+1))%ns.length).toNat<ns.length:=by rw[m1];split<;>lia
  rw[<- Zab h0 h1 (by lia),T4 (by rw[Ls];exact hlt),ih,AC hlt];lia
theorem ZkD(h0:0<=p)(h1:p<ns.length)(hs:0<=ns.getD p.toNat 0):(Ee ns p).sum=ns.sum:=by
 have b1:=Oq (ns.getD p.toNat 0) (show (ns.length:Int)≠0 by lia);have b2:=Nq (ns.getD p.toNat 0) (show (0:Int)<ns.length by lia);have:=Zac h0 h1 (ns.getD p.toNat 0%ns.length).toNat (by lia);rw[Sk b1] at this;have e:=Int.mul_ediv_add_emod (ns.getD p.toNat 0) ns.length;unfold Ee;lia
theorem ZkE(hn:∀x∈ns,0<=x)(i:Int)(x:Nat)(hx:x<ns.length):0<=Yi ns p i x:=by
 have h1:=hn _ (T2 hx);have h2:0<=ns.getD p.toNat 0:=by
  by_cases hp:p.toNat<ns.length
  ·exact hn _ (T2 hp)
  ·rw[Cb,Bi (by lia)];exact Pq _
 have h3:=Int.ediv_nonneg h2 (show (0:Int)<=ns.length by lia);have h4:=IL ns.length p i x;unfold Yi Gu
 split<;>lia
end
noncomputable def run(f:Nat->Int):Nat->Nat->Nat
 |0,i=>i
 |k+1,i=>if 0<f i then run f k (i+1) else i
section
end
noncomputable def Yy(a:LI0×Int):LI0×Int:=(Ee a.1 a.2,YZ a.1 a.2)
noncomputable def its{α:Type}(f:α->α):Nat->α->α
 |0,a=>a
 |n+1,a=>f (its f n a)
section
end
end My
namespace My
open PySem L2
noncomputable abbrev XJ(a:LI0×Int):PV:=.tup [.lst (a.1.map PV.int),.int a.2]
noncomputable def We(ns:LI0):Bool:=decide (2<=ns.length/\ns.length<=24/\(∀x∈ns,0<=x)/\ns.sum<=10^60)
theorem Vr{ns:LI0}:We ns=true ↔ WD ns:=by
 unfold We;rw[decide_eq_true_iff];exact⟨fun⟨a,b,c,d⟩=>⟨a,b,c,d⟩,fun h=>⟨h.lo,h.hi,h.nn,h.sm⟩⟩
end My
namespace L2
noncomputable def DU(p s:Int):Int:=p*s%(p+1)
noncomputable def WP(p s:Int):Int:=p*s/(p+1)
noncomputable def GL(s:Int):Nat->Int
 |0=>s
 |k+1=>WP (k+1) (GL s k)
noncomputable def Zfs(s:Int)(n:Nat):LI0:=(List.range n).map fun(k:Nat)=>DU (k+1) (GL s k)
noncomputable def Zbh(s:Int):Nat->Nat->Nat
 |0,k=>k
 |n+1,k=>if 0<GL s k then Zbh s n (k+1) else k
noncomputable def ZlD(s:Int):Nat:=Zbh s s.toNat 0
noncomputable def ZlC(s:Int):LI0:=Zfs s (ZlD s)
def EF(ns:LI0):Prop:=(∀x∈ns,0<=x)/\ns.length<=200/\ns.sum<=10000/\(ns=[]\/ns.getD (ns.length-1) 0≠0)
noncomputable instance (ns:LI0):Decidable (EF ns):=by unfold EF;infer_instance
def KO(ns:LI0):Prop:=EF ns/\ns=ZlC ns.sum
noncomputable instance (ns:LI0):Decidable (KO ns):=by unfold KO;infer_instance
noncomputable def s2(ns:LI0)(r:Nat):Nat->Int
 |0=>0
 |i+1=>s2 ns r i+if i%2=r then ns.getD i 0 else 0
theorem ZfZ{ns:LI0}{i:Nat}(h:i<ns.length):ns.getD i 0∈ns:=by
 rw[Cb,Yc h];exact Iz _
noncomputable def hs:Nat->Nat->Int->LI0
 |_,0,_=>[]
 |k,m+1,l=>DU (k+1) l::hs (k+1) m (WP (k+1) l)
noncomputable def s3(ns:LI0)(r:Nat):Nat->Int
 |0=>0
 |i+1=>s3 ns r i+if i%3=r then ns.getD i 0 else 0
def OO(ns:LI0):Prop:=(∀x∈ns,0<=x)/\ns.length<=100/\ns.sum<=100/\(ns=[]\/(ns.getD 0 0≠0/\ns.getD (ns.length-1) 0≠0))
noncomputable instance (ns:LI0):Decidable (OO ns):=by unfold OO;infer_instance
theorem PH{ns:LI0}{i:Nat}(h:ns.length<=i):ns.getD i 0=0:=by
 rw[Cb,Bi h];rfl
theorem R7{ns:LI0}(h:∀x∈ns,0<=x)(i:Nat):0<=ns.getD i 0:=by
 by_cases z:i<ns.length
 ·exact h _ (ZfZ z)
 ·rw[PH (by lia)];lia
theorem sum_nn:∀{ns:LI0},(∀x∈ns,0<=x)->0<=ns.sum
 |[],_=>by simp
 |x::xs,h=>by
  have:=h x (by simp);have:=sum_nn (ns:=xs) (fun y hy=>h y (by simp[hy]));simp;lia
theorem getD_set{l:LI0}{i j:Nat}{v:Int}(h:i<l.length):(l.set i v).getD j 0=if i=j then v else l.getD j 0:=by
 simp only[Cb,List.getElem?_set,Da h]
 split<;>rfl
theorem mem_getD{l:LI0}{x:Int}(h:x∈l):∃i,i<l.length/\x=l.getD i 0:=by
 obtain⟨i,hi,rfl⟩:=List.getElem_of_mem h;exact⟨i,hi,by rw[Cb,Yc hi];rfl⟩
noncomputable def A7(ns:LI0)(k:Nat):Int:=ns.getD k 0%10^61
noncomputable def Ck(ns:LI0)(later m:Nat):Nat->LI0
 |0=>List.replicate m 0
 |i+1=>(Ck ns later m i).set (i%m) (((Ck ns later m i).getD (i%m) 0*3+ns.getD (later+i) 0%10^61)%10^62)
@[simp] theorem TL(ns:LI0)(later m:Nat):∀i,(Ck ns later m i).length=m
 |0=>by simp[Ck]
 |i+1=>by rw[Ck,Tu,TL]
theorem Zag(ns:LI0)(later m:Nat):∀i,∀x∈Ck ns later m i,0<=x/\x<10^62
 |0=>fun x hx=>by rw[Ck] at hx;rw[List.eq_of_mem_replicate hx];decide
 |i+1=>fun x hx=>by
  rw[Ck] at hx;rcases DN hx with h|h
  ·exact Zag ns later m i x h
  ·rw[h];lia
theorem ZfY{l:LI0}{P:Int->Prop}(h:∀x∈l,P x)(h0:P 0)(i:Nat):P (l.getD i 0):=by
 by_cases q:i<l.length
 ·rw[Cb,Yc q];exact h _ (Iz q)
 ·rw[PH (by lia)];exact h0
noncomputable def Lq(ns:LI0)(later m:Nat):LI0:=Ck ns later m (ns.length-later)
@[simp] theorem ZkN(ns:LI0)(later m:Nat):(Lq ns later m).length=m:=TL ..
noncomputable def stir(c j:Int):Int:=((c%2147483647+1009*j+7)*48271%2147483647)*((c%2147483647+1009*j+7)*48271%2147483647)%998244353/8
end L2
namespace My
open L2
noncomputable def Zlc(ns:LI0)(k:Int):LI0:=tab ns.length fun x=>ns.getD (((x:Int)-k)%ns.length).toNat 0
noncomputable def Zld(a:LI0×Int)(s:Nat):Int:=((its Yy s a).2-a.2)%a.1.length
def SU(a:LI0×Int)(s:Nat):Prop:=(its Yy s a).1=Zlc a.1 (Zld a s)
noncomputable instance (a:LI0×Int) (s:Nat):Decidable (SU a s):=by unfold SU;infer_instance
section
end
end My
namespace My
open PySem PySem.Spec PyProof.Rows L2
theorem P3{ns:LI0}{k:Int}(h0:0<=k)(h1:k<ns.length):pIx (.tup (ns.map PV.int)) (.int k)=.ok (.int (ns.getD k.toNat 0)):=MJ (ns:=ns) h0 h1
theorem Zjc{ns:LI0}:Vq [.tup (ns.map PV.int)]=.ok (.int ns.length):=by simp[Vq]
theorem Zfu{xs:LI5}:PV.flat (.tup xs)=PV.flats xs:=by simp[PV.flat]
theorem JT{ns:LI0}:PV.flat (.tup (ns.map PV.int))=true:=by rw[Zfu];exact EH
theorem ZU{ns:LI0}:grd (.tup (ns.map PV.int))=.ok (.tup (ns.map PV.int)):=by unfold grd;rw[JT];rfl
theorem Zcf{xs:LI5}:GF (.tup xs)=.ok xs:=rfl
noncomputable def tI(b:LI0):List Sb:=b.map Sum.inl
theorem FM(b:LI0):Ya b=.tup ((tI b).map Vk):=by unfold Ya tI;rw[Sd];rfl
theorem GH{α:Type}{q:α->PV}(h:∀a,PV.flat (q a)=true):∀L:List α,PV.flats (L.map q)=true
 |[]=>by simp[PV.flats]
 |a::L=>by
  rw[Ed];simp only[PV.flats,h a,GH h L,Bool.and_self]
theorem M8{xs:LI5}(h:PV.flats xs=true)(hl:xs.length<=1000000):newF xs=.ok (.lst xs):=by
 unfold newF;rw[h,Hb hl];rfl
theorem BJ{α:Type}{q:α->PV}{L:List α}(h:∀a,PV.flat (q a)=true)(hl:L.length<=1000000):newF (L.map q)=.ok (.lst (L.map q)):=M8 (GH h L) (by simpa using hl)
theorem Lp(t:LI0):PV.flat (Ya t)=true:=JT
theorem VC{a b:LI0}(h:tI a=tI b):a=b:=by
 unfold tI at h;exact(W5 fun x y h=>Sum.inl.inj h).mp h
section
variable {κ:Type} [DecidableEq κ] {α:Type}{k:κ}{ks:List κ}
theorem UY(h:k ∉ ks):Io ks k=ks++[k]:=Qa h
theorem QY{xs:List α}{y:α}(h:k ∉ ks):Mk ks xs k y=xs++[y]:=Qa h
end
section
variable {ks:List (List Sb)}{xs:LI5}{p:Option PySem.Addr}{g:LI0}{v:PV}
theorem BR:Dp (.box p (.dt ks) xs) (Ya g)=some (Wc ks xs (tI g)):=by
 rw[FM];simp only[Dp,J8,Q6]
theorem Sr(h:Wc ks xs (tI g)=some v):T8 (.box p (.dt ks) xs) (Ya g)=.ok v:=by
 unfold T8;rw[BR,h]
theorem TW{f:Bool->Bool}:Jx f (Ya g) (.box p (.dt ks) xs)=.ok (.bl (f (Wc ks xs (tI g)).isSome)):=by
 unfold Jx;rw[BR]
theorem WW(hv:v.flat=true)(hl:xs.length<1000000):W8 (.box p (.dt ks) xs) (Ya g) v=.ok (.box p (.dt (Io ks (tI g))) (Mk ks xs (tI g) v)):=by
 rw[FM];unfold W8;simp only[J8];rw[Da ⟨hl,.inr hv⟩]
theorem KF:∀{ks:List (List Sb)}{xs:LI5}{k:List Sb},k ∉ ks->Wc ks xs k=none
 |[],_,_,_=>by unfold Wc;rfl
 |k'::ks,[],k,_=>by unfold Wc;rfl
 |k'::ks,x::xs,k,h=>by
  unfold Wc;rw[Qa (fun e=>h (by rw[e];exact Wl ..)),KF fun z=>h (Jj _ z)]
theorem IF:∀{ks:List (List Sb)}{xs:LI5}{k:List Sb},ks.length=xs.length->k∈ks->∃x,Wc ks xs k=some x
 |[],_,_,_,h=>by simp at h
 |k'::ks,[],k,h,_=>by simp at h
 |k'::ks,x::xs,k,h,hm=>by
  unfold Wc;by_cases e:k'=k
  ·rw[Da e];exact⟨x,rfl⟩
  ·rw[Qa e]
   exact IF (by simpa using h) ((Vd.mp hm).resolve_left fun z=>e z.symm)
theorem FP:∀{ks ls:List (List Sb)}{xs ys:LI5}{k:List Sb}{x:PV},ks.length=xs.length->Wc ks xs k=some x->Wc (ks++ls) (xs++ys) k=some x
 |[],_,_,_,_,_,_,h=>by unfold Wc at h;cases h
 |k'::ks,_,[],_,_,_,h,_=>by simp at h
 |k'::ks,ls,x'::xs,ys,k,x,h,e=>by
  rw[Pu,Pu];unfold Wc at e ⊢;by_cases c:k'=k
  ·rw[Da c] at e ⊢;exact e
  ·rw[Qa c] at e ⊢;exact FP (by simpa using h) e
end
noncomputable def Kh(x:Int×LI0):PV:=.tup [.int x.1,Ya x.2]
end My
namespace L2
noncomputable def Jg(s:Int):Nat->Int
 |0=>1
 |k+1=>Jg s k*(s+((k:Int)+1))/((k:Int)+1)
theorem BG{s:Int}(h:0<=s):∀k,0<=Jg s k
 |0=>by simp[Jg]
 |k+1=>by
  rw[Jg];exact Int.ediv_nonneg (Int.mul_nonneg (BG h k) (by lia)) (by lia)
theorem TQ{s:Int}(h:0<=s)(h1:s<=10^60):∀k:Nat,k<=1000->Jg s k<=(10^61)^k
 |0,_=>by simp[Jg]
 |k+1,hk=>by
  have ih:=TQ h h1 k (by lia);have nn:=BG h k;rw[Jg];have e1:Jg s k*(s+((k:Int)+1))<=(10^61)^k*10^61:=Int.mul_le_mul ih (by lia) (by lia) (Int.pow_nonneg (by decide));have e2:Jg s k*(s+((k:Int)+1))/((k:Int)+1)<=Jg s k*(s+((k:Int)+1)):=Int.ediv_le_self _ (Int.mul_nonneg nn (by lia));rw[Int.pow_succ];lia
noncomputable def Ie(p s:Int):Int:=if s<0 then 0 else Jg s (p-1).toNat
theorem WQ{s:Int}(h:0<=s)(h1:s<=10^60){k:Nat}(hk:k<=24):(Jg s k).natAbs<2^60000:=by
 have h2:=TQ h h1 k (by lia);have h3:=BG h k;have h4:((10:Int)^61)^k<=(10^61)^24:=by
  have:((10:Nat)^61)^k<=(10^61)^24:=NN (by decide) hk;exact_mod_cast this
 have h5:((10:Int)^61)^24=10^1464:=by rw[<- Int.pow_mul]
 have h6:(Jg s k).natAbs<=10^1464:=by
  have:Jg s k<=10^1464:=by rw[<- h5];exact Int.le_trans h2 h4
  have e:((Jg s k).natAbs:Int)=Jg s k:=Int.natAbs_of_nonneg h3;have:((Jg s k).natAbs:Int)<=((10^1464:Nat):Int):=by rw[e];exact_mod_cast this
  exact_mod_cast this
 have h7:10^1464<2^60000:=by
  calc (10:Nat)^1464<=(2^4)^1464:=MN (by decide) _
   _=2^5856:=by rw[<- Nat.pow_mul]
   _<2^60000:=ON (by decide) (by decide)
 lia
noncomputable def bN:Nat->Nat->Nat
 |0=>fun _=>1
 |s+1=>fun k=>Nat.rec 1 (fun k ih=>bN s (k+1)+ih) k
@[simp] theorem ZlL(s:Nat):bN s 0=1:=by cases s<;>rfl
@[simp] theorem ZlM(k:Nat):bN 0 k=1:=by exact id rfl
theorem LF(s k:Nat):bN (s+1) (k+1)=bN s (k+1)+bN (s+1) k:=rfl
theorem Zci:∀n s k,s+k=n->(k+1)*bN s (k+1)=(s+k+1)*bN s k/\(s+1)*bN (s+1) k=(s+k+1)*bN s k:=by
 intro n
 induction n using Nat.strongRecOn with
 |ind n ih =>
  intro s k h;constructor
  ·cases s with
   |zero=>simp
   |succ s =>
    have h1:=(ih (s+k) (by lia) s k rfl).1;have h2:=(ih (s+k) (by lia) s k rfl).2;rw[LF,Nat.mul_add,h1,<- h2,<- Nat.add_mul];congr 1
  ·cases k with
   |zero=>simp
   |succ k =>
    have h1:=(ih (s+k) (by lia) s k rfl).1;have h2:=(ih (s+k) (by lia) s k rfl).2;rw[LF,Nat.mul_add,h2,<- h1,<- Nat.add_mul];congr 1;lia
theorem SQ(s:Nat):∀k:Nat,Jg s k=(bN s k:Nat)
 |0=>by simp[Jg]
 |k+1=>by
  have h:=(Zci (s+k) s k rfl).1;rw[Jg,SQ s k];have e:((bN s k:Nat):Int)*((s:Int)+((k:Int)+1))=((k:Int)+1)*(bN s (k+1):Nat):=by
   have:(((k+1)*bN s (k+1):Nat):Int)=(((s+k+1)*bN s k:Nat):Int):=by rw[h]
   rw[Int.natCast_mul,Int.natCast_mul] at this;rw[show ((k:Int)+1)=((k+1:Nat):Int) by lia,this,Int.mul_comm];congr 1
  rw[e,Int.mul_ediv_cancel_left _ (by lia)]
theorem Mv{p s:Int}(hs:0<=s):Ie p s=(bN s.toNat (p-1).toNat:Nat):=by
 unfold Ie;rw[Qa (by lia)];have:=SQ s.toNat (p-1).toNat;rwa [Sk hs] at this
theorem CG{p s:Int}(hs:s<0):Ie p s=0:=Da hs
theorem EG(p s:Int):0<=Ie p s:=by
 by_cases h:s<0
 ·rw[CG h];exact Pq _
 ·rw[Mv (by lia)];lia
theorem FG{s:Int}(hs:0<=s):Ie 1 s=1:=by rw[Mv hs];simp
theorem YQ(p:Int):Ie p 0=1:=by rw[Mv (Pq _)];simp
theorem GG{p s:Int}(hp:2<=p)(hs:0<=s):Ie p s=Ie p (s-1)+Ie (p-1) s:=by
 by_cases h:s=0
 ·subst h
  rw[CG (p:=p) (s:=0-1) (by lia),YQ,YQ];rfl
 ·rw[Mv hs,Mv (p:=p) (s:=s-1) (by lia),Mv (p:=p-1) hs]
  obtain⟨t,ht⟩:∃t:Nat,s=t+1:=⟨(s-1).toNat,by lia⟩
  obtain⟨q,hq⟩:∃q:Nat,p=q+2:=⟨(p-2).toNat,by lia⟩
  subst ht;subst hq;rw[show ((t:Int)+1).toNat=t+1 by lia,show ((q:Int)+2-1).toNat=q+1 by lia,show ((t:Int)+1-1).toNat=t by lia,show ((q:Int)+2-1-1).toNat=q by lia,LF];lia
theorem XQ{p s t:Int}(hp:1<=p)(h:s<=t):Ie p s<=Ie p t:=by
 by_cases hs:s<0
 ·rw[CG hs];exact EG p t
 ·obtain⟨d,rfl⟩:∃d:Nat,t=s+d:=⟨(t-s).toNat,by lia⟩
  induction d with
  |zero=>simp
  |succ d ih =>
   have ih:=ih (by lia);by_cases h1:p=1
   ·subst h1;rw[FG (by lia),FG (by lia)];lia
   ·have h2:=GG (p:=p) (s:=s+((d+1:Nat):Int)) (by lia) (by lia)
    rw[show s+((d+1:Nat):Int)-1=s+(d:Int) by lia] at h2;have:=EG (p-1) (s+((d+1:Nat):Int));lia
noncomputable def Rn:LI0->Int
 |[]=>0
 |[_]=>0
 |_::y::r=>Ie (((y::r).length:Int)+1) ((y::r).sum-1)+Rn (y::r)
theorem V7:∀(l:LI0),l≠[]->(∀x∈l,0<=x)->0<=Rn l/\Rn l+1<=Ie l.length l.sum
 |[],h,_=>Eb rfl h
 |[x],_,hn=>by
  have hx:=hn x (by simp);simp only[Rn,Ci,Kz,Jt,List.sum_nil];rw[show ((0+1:Nat):Int)=1 by rfl,FG (by lia)];lia
 |x::y::r,_,hn=>by
  have hx:=hn x (by simp);have hr:∀z∈y::r,0<=z:=fun z hz=>hn z (by simp only[Vd] at hz ⊢;right;exact hz);have hs:=sum_nn hr;obtain⟨h1,h2⟩:=V7 (y::r) (by simp) hr;rw[Rn];have h3:=EG (((y::r).length:Int)+1) ((y::r).sum-1);refine⟨by lia, ?_⟩;have h4:=GG (p:=((y::r).length:Int)+1) (s:=(y::r).sum) (by simp only[Ci];lia) hs;rw[show ((y::r).length:Int)+1-1=(y::r).length by lia] at h4;have h5:=XQ (p:=((y::r).length:Int)+1) (s:=(y::r).sum) (t:=(x::y::r).sum) (by lia) (by simp only[Jt];lia);rw[show (((x::y::r).length:Nat):Int)=((y::r).length:Int)+1 by simp only[Ci];lia];lia
noncomputable def Nm(l:LI0):Int:=Ie l.length l.sum-1-Rn l
theorem Ziw{l:LI0}(h:l≠[])(hn:∀x∈l,0<=x):0<=Nm l/\Nm l<Ie l.length l.sum:=by
 have:=V7 l h hn;unfold Nm;lia
theorem GW:∀{a b:LI0},a.length=b.length->a.sum=b.sum->(∀x∈a,0<=x)->(∀x∈b,0<=x)->a≠[] ->
  (∃i,i<a.length/\(∀j,j<i->a.getD j 0=b.getD j 0)/\a.getD i 0<b.getD i 0)->Rn b<Rn a
 |[],_,_,_,_,_,h,_=>Eb rfl h
 |[x],b,hl,hs,_,_,_,hd=>by
  obtain⟨i,hi,h1,h2⟩:=hd;simp at hi;subst hi
  match b,hl with
  |[z],_=>simp at hs h2;lia
 |x::y::r,b,hl,hs,hna,hnb,_,hd=>by
  match b,hl with
  |z::w::q,hl =>
   have hra:∀v∈y::r,0<=v:=fun v hv=>hna v (by simp only[Vd] at hv ⊢;right;exact hv);have hrb:∀v∈w::q,0<=v:=fun v hv=>hnb v (by simp only[Vd] at hv ⊢;right;exact hv);have Ge:(y::r).length=(w::q).length:=by simpa using hl
   have sa:=sum_nn hra;have sb:=sum_nn hrb;obtain⟨i,hi,h1,h2⟩:=hd;rw[Rn,Rn];have hsum:x+(y::r).sum=z+(w::q).sum:=by simpa[Jt] using hs
   cases i with
   |zero =>
    have h2:x<z:=by simpa using h2
    obtain⟨b1,b2⟩:=V7 (w::q) (by simp) hrb;have a1:=(V7 (y::r) (by simp) hra).1;have h4:=GG (p:=((w::q).length:Int)+1) (s:=(w::q).sum) (by simp only[Ci];lia) sb;rw[show ((w::q).length:Int)+1-1=(w::q).length by lia] at h4;have h5:=XQ (p:=((w::q).length:Int)+1) (s:=(w::q).sum) (t:=(y::r).sum-1) (by lia) (by lia);rw[Ge];lia
   |succ i =>
    have hxz:x=z:=by simpa using h1 0 (by lia)
    have ih:=GW (a:=y::r) (b:=w::q) Ge (by lia) hra hrb (by simp) ⟨i,by simpa using hi,fun j hj=>by simpa using h1 (j+1) (by lia),by simpa using h2⟩;rw[Ge,show (y::r).sum=(w::q).sum by lia];lia
end L2
namespace My
open L2
end My
namespace L2
end L2
namespace My
open L2
end My
namespace L2
noncomputable def V5:Nat->Int
 |0=>0
 |k+1=>V5 k+(k+1)
noncomputable def kN(s:Int):Nat:=((List.range (s.toNat+1)).find? fun(k:Nat)=>decide (s<V5 (k+1))).getD 0
noncomputable def QP(l:LI0)(k i:Nat):Int:=l.getD i 0-((k:Int)-i)
structure ZlK(l:LI0)(k:Nat):Prop where
 lo:V5 k<=l.sum
 hi:l.sum<V5 (k+1)
 ad:∀i,i<=k->0<=QP l k i/\QP l k i<=1
 z:∀i,k<i->l.getD i 0=0
noncomputable def B7(n:Int):Nat->Int
 |0=>1
 |k+1=>B7 n k*(n-k)/((k:Int)+1)
noncomputable def D1(s:Int):Nat:=(s-V5 (kN s)).toNat
noncomputable def ZgV(n a m:Nat):Int:=if a%(n/Nat.gcd n m)=0 then B7 (Nat.gcd n m:Nat) (a/(n/Nat.gcd n m)) else 0
noncomputable def QZ(n a:Nat):Int:=((List.range n).map fun m=>ZgV n a m).sum/n
noncomputable def ZfW:Bool:=(List.range 63).all fun n=>(List.range (n+1)).all fun m=>(List.range (n+1)).all fun a =>
 ((a*Nat.gcd (n+1) m%(n+1)==0)==(a%((n+1)/Nat.gcd (n+1) m)==0))&&(a*Nat.gcd (n+1) m/(n+1)==a/((n+1)/Nat.gcd (n+1) m))&&decide (a/((n+1)/Nat.gcd (n+1) m)<=Nat.gcd (n+1) m)&&decide (0<Nat.gcd (n+1) m)&&decide (0<(n+1)/Nat.gcd (n+1) m)&&decide (Nat.gcd (n+1) m<=n+1)
theorem ZfX:ZfW=true:=by decide +kernel
structure Gd(n m a:Nat):Prop where
 mod:a*Nat.gcd n m%n=0 ↔ a%(n/Nat.gcd n m)=0
 div:a*Nat.gcd n m/n=a/(n/Nat.gcd n m)
 le:a/(n/Nat.gcd n m)<=Nat.gcd n m
 p1:0<Nat.gcd n m
 p2:0<n/Nat.gcd n m
 le2:Nat.gcd n m<=n
theorem gd{n m a:Nat}(h1:n<=63)(hm:m<n)(ha:a<n):Gd n m a:=by
 have h:=Ah.mp (Ah.mp (Ah.mp ZfX (n-1) (Dh.mpr (by lia))) m (Dh.mpr (by lia))) a (Dh.mpr (by lia));rw[show n-1+1=n by lia] at h;simp only[Bool.and_eq_true,beq_iff_eq,decide_eq_true_eq] at h;obtain⟨⟨⟨⟨⟨h1,h2⟩,h3⟩,h4⟩,h5⟩,h6⟩:=h;refine⟨?_,h2,h3,h4,h5,h6⟩;rw[<- beq_iff_eq (a:=a*Nat.gcd n m%n),<- beq_iff_eq (a:=a%(n/Nat.gcd n m)),h1]
noncomputable def Zjt(ones Nl:Int)(found:LI1):LI1:=found.flatMap fun m=>([0,1]:LI0).filterMap fun o=>if m.sum+o<=ones/\ones-m.sum-o<=Nl then some (m++[o]) else none
noncomputable def MX(size ones:Int):Nat->LI1
 |0=>[[]]
 |i+1=>Zjt ones (size-i-1) (MX size ones i)
noncomputable def Zkh(m:LI0)(k:Nat):LI0:=m.drop k++m.take k
end L2
namespace L2
open PySem
noncomputable def GV(m:LI0)(n:Nat):Bool:=(List.range n).all fun k=>!(HT.Zc (Zkh m k) m)
noncomputable def Os(s:Int):LI1:=MX (kN s+1:Nat) (D1 s:Nat) (kN s+1)
noncomputable def Zl8:Bool:=(List.range 46).all fun(s:Nat)=>decide (((Os s).length:Int)=B7 (kN s+1:Nat) (D1 s))&&decide ((((Os s).filter fun m=>GV m (kN s+1)).length:Int)=QZ (kN s+1) (D1 s))&&decide ((Os s).length<=1000)&&(Os s).all fun m=>m.length==kN s+1
theorem Zl9:Zl8=true:=by decide +kernel
structure ZbP(s:Int):Prop where
 len:((Os s).length:Int)=B7 (kN s+1:Nat) (D1 s)
 fst:(((Os s).filter fun m=>GV m (kN s+1)).length:Int)=QZ (kN s+1) (D1 s)
 few:(Os s).length<=1000
 each:∀m∈Os s,m.length=kN s+1
theorem ZlQ{s:Int}(h0:0<=s)(h1:s<46):ZbP s:=by
 have h:=Ah.mp Zl9 s.toNat (Dh.mpr (by lia));rw[Sk h0] at h;simp only[Bool.and_eq_true,decide_eq_true_eq,Ah,beq_iff_eq] at h;exact⟨h.1.1.1,h.1.1.2,h.1.2,h.2⟩
end L2
namespace My
open PySem L2
structure Gb(n:Nat)(q S:Int)(b:LI0):Prop where
 len:b.length=n
 nn:∀x∈b,0<=x
 sum:b.sum=S
theorem ZkB{b:LI0}{p:Int}{x:Nat}(hx:x<b.length):(Ee b p).getD x 0=Yi b p (b.getD p.toNat 0%b.length) x:=by
 unfold Ee tab;rw[Cb,Dd,Rq hx];rfl
end My
namespace L2
end L2
namespace My
open PySem L2
def Wide(ns:LI0):Prop:=∀x∈ns,0<=x/\x<=10^60
end My
namespace My
open L2
theorem IV:∀{x y:LI0},HT.Zc x y=true->∃i,i<y.length/\(∀j,j<i->x.getD j 0=y.getD j 0)/\(x.getD i 0<y.getD i 0\/x.length<=i)
 |[],[],h=>by simp[HT.Zc] at h
 |[],b::y,h=>⟨0,by simp,by simp,.inr (by simp)⟩
 |a::x,[],h=>by simp[HT.Zc] at h
 |a::x,b::y,h=>by
  rw[HT.B3] at h;by_cases e:a=b
  ·rw[Da e] at h
   obtain⟨i,h1,h2,h3⟩:=IV h;refine⟨i+1,by simp;exact h1,fun j hj=>?_, ?_⟩
   ·cases j with
    |zero=>simpa using e
    |succ j=>simpa using h2 j (by lia)
   ·rcases h3 with z|z
    ·exact .inl (by simpa using z)
    ·exact .inr (by simpa using z)
  ·rw[Qa e] at h
   exact⟨0,by simp,by simp,.inl (by simpa using h)⟩
def Bs(n:Nat)(s:Int)(b:LI0):Prop:=b.length=n/\(∀x∈b,0<=x)/\b.sum=s
theorem Bs.sow{n:Nat}{s:Int}{b:LI0}(h:Bs n s b){p:Int}(h0:0<=p)(h1:p<n):Bs n s (Ee b p):=by
 obtain⟨l,nn,sm⟩:=h;refine⟨by rw[ZkC];exact l,fun x hx=>?_,by rw[ZkD h0 (by lia) (R7 nn _)];exact sm⟩;unfold Ee tab at hx;obtain⟨y,hy,rfl⟩:=Nd.mp hx;exact ZkE nn _ y (Dh.mp hy)
theorem Ziv:∀(n:Nat) (l:List Nat),l.Nodup->(∀x∈l,x<n)->l.length<=n:=by
 intro n
 induction n with
 |zero=>intro l _ h;cases l with
  |nil=>exact Db _
  |cons x l=>exact Eb (h x (by simp)) (by lia)
 |succ n ih =>
  intro l hd h;have e:=ih (l.erase n) (hd.erase n) (fun x hx=>by
   have:=h x (List.mem_of_mem_erase hx);have:x≠n:=fun z=>by subst z;exact(List.Nodup.mem_erase_iff hd).mp hx |>.1 rfl
   lia)
  by_cases c:n∈l
  ·rw[List.length_erase_of_mem c] at e;lia
  ·rw[List.erase_of_not_mem c] at e;lia
theorem HW{a b:LI0}(hl:a.length=b.length)(hs:a.sum=b.sum)(ha:∀x∈a,0<=x)(hb:∀x∈b,0<=x)(h:HT.Zc a b=true):Nm a≠Nm b:=by
 obtain⟨i,i1,i2,i3⟩:=IV h;have:=GW hl hs ha hb (fun z=>by rw[z] at hl;simp at hl;lia) ⟨i,by lia,i2,by lia⟩;unfold Nm;rw[hl,hs];lia
theorem Zix{a b:LI0}(hl:a.length=b.length)(hs:a.sum=b.sum)(ha:∀x∈a,0<=x)(hb:∀x∈b,0<=x)(h:Nm a=Nm b):a=b:=by
 cases h1:HT.Zc a b with
 |true=>exact Eb h (HW hl hs ha hb h1)
 |false =>
  cases h2:HT.Zc b a with
  |true=>exact Eb h.symm (HW hl.symm hs.symm hb ha h2)
  |false=>exact HL.A8 h1 h2
theorem ZcN{n:Nat}{s:Int}(hn:1<=n){L:LI1}(nd:L.Nodup)(hL:∀x∈L,Bs n s x):L.length<=(Ie n s).toNat:=by
 have hb:∀x∈L,0<=Nm x/\Nm x<Ie n s:=fun x hx=>by
  obtain⟨l,nn,sm⟩:=hL x hx;have:=Ziw (l:=x) (fun z=>by rw[z] at l;simp at l;lia) nn;rw[l,sm] at this;exact this
 have h:=Ziv (Ie n s).toNat (L.map fun x=>(Nm x).toNat) (by
  rw[AD,Zt];refine(AD.mp nd).imp_of_mem ?_;intro a b ha hb' hab e;obtain⟨l,nn,sm⟩:=hL a ha;obtain⟨l',nn',sm'⟩:=hL b hb';have:=hb a ha;have:=hb b hb';exact hab (Zix (by lia) (by lia) nn nn' (by lia))) (fun z hz=>by
  obtain⟨x,hx,rfl⟩:=Nd.mp hz;have:=hb x hx;lia)
 rw[Pb] at h;exact h
inductive Pg(P:LI0)(b:LI0):LI0->Prop
 |refl:Pg P b b
 |step {x:LI0}{p:Int}:Pg P b x->p∈P->0<x.getD p.toNat 0->Pg P b (Ee x p)
theorem Pg.bs{P b:LI0}{n:Nat}{s:Int}(hP:∀p∈P,0<=p/\p<n)(hb:Bs n s b){x:LI0}(h:Pg P b x):Bs n s x:=by
 induction h with
 |refl=>exact hb
 |step _ hp hx ih=>exact ih.sow (hP _ hp).1 (hP _ hp).2
noncomputable def Je(P:LI0)(x:LI0):List (Int×LI0):=(P.filter fun p=>decide (0<x.getD p.toNat 0)).map fun p=>(p,Ee x p)
theorem Ks{P x:LI0}{y:Int×LI0}:y∈Je P x ↔ y.1∈P/\0<x.getD y.1.toNat 0/\y.2=Ee x y.1:=by
 unfold Je;constructor
 ·intro h
  obtain⟨p,hp,rfl⟩:=Nd.mp h;obtain⟨h1,h2⟩:=An.mp hp;exact⟨h1,Ei h2,rfl⟩
 ·rintro⟨h1,h2,h3⟩
  refine Nd.mpr ⟨y.1,An.mpr ⟨h1,Hb h2⟩, ?_⟩;rw[<- h3]
noncomputable abbrev NB:=LI1×LI1×LI5
noncomputable def Hg(x:LI0)(st:NB)(y:Int×LI0):NB:=if y.2∈st.2.1 then st else (st.1++[y.2],st.2.1++[y.2],st.2.2++[.tup [Ya x,.int y.1]])
noncomputable def RF(P x:LI0)(st:NB):NB:=(Je P x).foldl (Hg x) st
noncomputable def Fg(P:LI0)(lv:LI1)(st:NB):NB:=lv.foldl (fun st x=>RF P x st) st
structure Fo(R:LI0->Prop)(bs0:LI1)(st:NB):Prop where
 app:st.2.1=bs0++st.1
 nd:st.2.1.Nodup
 re:∀x∈st.2.1,R x
 ln:st.2.2.length=st.2.1.length
 fl:PV.flats st.2.2=true
theorem UT:∀(xs:LI5) (y:PV),PV.flats xs=true->PV.flat y=true->PV.flats (xs++[y])=true
 |[],y,_,h=>by simp[PV.flats,h]
 |x::xs,y,h1,h2=>by
  simp only[PV.flats,Bool.and_eq_true] at h1;simp only[Pu,PV.flats,Bool.and_eq_true];exact⟨h1.1,UT xs y h1.2 h2⟩
section
variable {R:LI0->Prop}{bs0:LI1}{st:NB}
theorem Fo.one(h:Fo R bs0 st){x:LI0}{y:Int×LI0}(hy:R y.2):Fo R bs0 (Hg x st y)/\(∀z∈st.2.1,z∈(Hg x st y).2.1)/\y.2∈(Hg x st y).2.1:=by
 unfold Hg
 split
 ·rename_i c
  exact⟨h,fun z hz=>hz,c⟩
 ·rename_i c
  refine⟨⟨by simp[h.app], ?_,fun z hz=>?_,by simp[h.ln], ?_⟩,fun z hz=>by simp[hz],by simp⟩
  ·show (st.2.1++[y.2]).Nodup
   rw[List.nodup_append];refine⟨h.nd,by simp,fun a ha b hb e=>?_⟩;rw[Di.mp hb] at e;rw[e] at ha;exact c ha
  ·rcases Nc.mp hz with hz|hz
   ·exact h.re z hz
   ·rw[Di.mp hz];exact hy
  ·exact UT _ _ h.fl (by simp only[PV.flat,PV.flats,Lp,Bool.and_self])
theorem Fo.fold{x:LI0}:∀{L:List (Int×LI0)}{st:NB},Fo R bs0 st->(∀y∈L,R y.2)->Fo R bs0 (L.foldl (Hg x) st)/\(∀z∈st.2.1,z∈(L.foldl (Hg x) st).2.1)/\∀y∈L,y.2∈(L.foldl (Hg x) st).2.1
 |[],st,h,_=>⟨h,fun z hz=>hz,by simp⟩
 |y::L,st,h,hL=>by
  obtain⟨a1,a2,a3⟩:=h.one (x:=x) (hL y (by simp));obtain⟨b1,b2,b3⟩:=Fo.fold (x:=x) (L:=L) a1 fun z hz=>hL z (by simp[hz]);refine⟨b1,fun z hz=>b2 z (a2 z hz),fun z hz=>?_⟩;rcases Vd.mp hz with rfl|hz
  ·exact b2 _ a3
  ·exact b3 z hz
end
section
variable {P b:LI0}{bs0:LI1}
theorem Fo.lv:∀{lv:LI1}{st:NB},Fo (Pg P b) bs0 st->(∀x∈lv,Pg P b x)->Fo (Pg P b) bs0 (Fg P lv st)/\(∀z∈st.2.1,z∈(Fg P lv st).2.1)/\∀x∈lv,∀p∈P,0<x.getD p.toNat 0->Ee x p∈(Fg P lv st).2.1
 |[],st,h,_=>⟨h,fun z hz=>hz,by simp⟩
 |x::lv,st,h,hL=>by
  obtain⟨a1,a2,a3⟩:=Fo.fold (x:=x) (L:=Je P x) h fun y hy=>by
   obtain⟨h1,h2,h3⟩:=Ks.mp hy;rw[h3];exact .step (hL x (by simp)) h1 h2
  obtain⟨b1,b2,b3⟩:=Fo.lv (lv:=lv) a1 fun z hz=>hL z (by simp[hz]);refine⟨b1,fun z hz=>b2 z (a2 z hz),fun z hz p hp hx=>?_⟩;rcases Vd.mp hz with rfl|hz
  ·exact b2 _ (a3 (p,Ee z p) (Ks.mpr ⟨hp,hx,rfl⟩))
  ·exact b3 z hz p hp hx
end
noncomputable def wk(P b:LI0):Nat->NB
 |0=>([b],[b],[.non])
 |i+1=>Fg P (wk P b i).1 ([],(wk P b i).2)
structure Wk(P b:LI0)(st:NB):Prop where
 nd:st.2.1.Nodup
 re:∀x∈st.2.1,Pg P b x
 sub:∀x∈st.1,x∈st.2.1
 cl:∀x∈st.2.1,x∈st.1\/∀p∈P,0<x.getD p.toNat 0->Ee x p∈st.2.1
 bg:b∈st.2.1
 ln:st.2.2.length=st.2.1.length
 fl:PV.flats st.2.2=true
theorem Ek(P b:LI0):∀i,Wk P b (wk P b i)
 |0=>⟨by simp[wk],fun x hx=>by rw[Di.mp hx];exact .refl,fun x hx=>hx,fun x hx=>.inl hx,by simp[wk],rfl,rfl⟩
 |i+1=>by
  have h:=Ek P b i;have f0:Fo (Pg P b) (wk P b i).2.1 ([],(wk P b i).2):=⟨by simp,h.nd,h.re,h.ln,h.fl⟩
  obtain⟨a1,a2,a3⟩:=Fo.lv f0 fun x hx=>h.re x (h.sub x hx);show Wk P b (Fg P (wk P b i).1 ([],(wk P b i).2));refine⟨a1.nd,a1.re,fun x hx=>?_,fun x hx=>?_,a2 _ h.bg,a1.ln,a1.fl⟩
  ·rw[a1.app];exact Nc.mpr (.inr hx)
  ·rw[a1.app] at hx
   rcases Nc.mp hx with hx|hx
   ·right
    intro p hp hp0;rcases h.cl x hx with c|c
    ·exact a3 x c p hp hp0
    ·exact a2 _ (c p hp hp0)
   ·exact .inl hx
theorem Uz(P b:LI0)(i:Nat):(wk P b (i+1)).2.1=(wk P b i).2.1++(wk P b (i+1)).1:=by
 have h:=Ek P b i;have f0:Fo (Pg P b) (wk P b i).2.1 ([],(wk P b i).2):=⟨by simp,h.nd,h.re,h.ln,h.fl⟩
 exact(Fo.lv f0 fun x hx=>h.re x (h.sub x hx)).1.app
theorem SM(P b:LI0):∀i,(∀j,j<=i->(wk P b j).1≠[])->i+1<=(wk P b i).2.1.length
 |0,_=>by simp[wk]
 |i+1,h=>by
  have ih:=SM P b i fun j hj=>h j (by lia);rw[Uz,Gj];have:=List.length_pos_iff.mpr (h (i+1) (Db _));lia
noncomputable def Tf(P b:LI0):Nat:=((List.range 1001).find? fun i=>(wk P b i).1.isEmpty).getD 0
structure Mh(n:Nat)(s:Int)(P b:LI0):Prop where
 n1:1<=n
 hP:∀p∈P,0<=p/\p<n
 hb:Bs n s b
 few:Ie n s<=1000
theorem Mh.le{n:Nat}{s:Int}{P b:LI0}(h:Mh n s P b)(i:Nat):(wk P b i).2.1.length<=1000:=by
 have:=ZcN h.n1 (Ek P b i).nd fun x hx=>((Ek P b i).re x hx).bs h.hP h.hb;have:=h.few;lia
theorem Mh.end{n:Nat}{s:Int}{P b:LI0}(h:Mh n s P b):Tf P b<=1000/\(wk P b (Tf P b)).1=[]/\∀j,j<Tf P b->(wk P b j).1≠[]:=by
 have hex:∃i,i<1001/\(wk P b i).1=[]:=by
  apply Classical.byContradiction;intro c;have:=SM P b 1000 fun j hj e=>c ⟨j,by lia,e⟩;have:=h.le 1000;lia
 obtain⟨t,t1,t2⟩:=hex;unfold Tf;cases hf:(List.range 1001).find? fun i=>(wk P b i).1.isEmpty with
 |none =>
  have:=XC.mp hf t (Dh.mpr t1);rw[t2] at this;exact Eb rfl this
 |some q =>
  obtain⟨q1,q2,q3⟩:=List.find?_range_eq_some.mp hf;refine⟨by have:=Dh.mp q2;simp only[U6];lia,List.isEmpty_iff.mp q1,fun j hj e=>?_⟩;have:=q3 j hj;simp[e] at this
noncomputable def Od(P b:LI0):LI1:=(wk P b (Tf P b)).2.1
theorem Mh.mem{n:Nat}{s:Int}{P b:LI0}(h:Mh n s P b){x:LI0}:x∈Od P b ↔ Pg P b x:=by
 have W:=Ek P b (Tf P b);have e:=h.end.2.1;constructor
 ·exact fun hx=>W.re x hx
 ·intro hx
  induction hx with
  |refl=>exact W.bg
  |step _ hp h0 ih =>
   rcases W.cl _ ih with c|c
   ·rw[e] at c;cases c
   ·exact c _ hp h0
theorem SY(P b:LI0):(Od P b).Nodup:=(Ek P b _).nd
noncomputable def Gk(P b:LI0):LI1:=Ni (Od P b)
theorem Mh.com{n:Nat}{s:Int}{P b:LI0}(h:Mh n s P b){x:LI0}:x∈Gk P b ↔ Pg P b x:=by
 unfold Gk;rw[(Pj _).mem_iff,h.mem]
theorem Mh.go{n:Nat}{s:Int}{P b:LI0}(h:Mh n s P b){x:LI0}(hx:Pg P b x):Mh n s P x:=⟨h.n1,h.hP,hx.bs h.hP h.hb,h.few⟩
noncomputable def endB(P x:LI0):Bool:=P.all fun p=>decide (x.getD p.toNat 0=0)
noncomputable def KS(P b:LI0):LI1:=(Gk P b).filter (endB P)
theorem Zfl{P x:LI0}:endB P x=true ↔ ∀p∈P,x.getD p.toNat 0=0:=by
 unfold endB;rw[Ah];exact⟨fun h p hp=>Ei (h p hp),fun h p hp=>Hb (h p hp)⟩
noncomputable def Ha(n:Nat)(l:LI0):LI0:=((List.range n).filter fun(i:Nat)=>decide ((i:Int) ∉ l)).map fun(i:Nat)=>(i:Int)
theorem Hw{n:Nat}{l:LI0}{p:Int}:p∈Ha n l ↔ (0<=p/\p<n)/\p ∉ l:=by
 unfold Ha;constructor
 ·intro h
  obtain⟨i,hi,rfl⟩:=Nd.mp h;obtain⟨h1,h2⟩:=An.mp hi;have:=Dh.mp h1;exact⟨by lia,Ei h2⟩
 ·rintro⟨h1,h2⟩
  exact Nd.mpr ⟨p.toNat,An.mpr ⟨Dh.mpr (by lia),Hb (by rw[Sk h1.1];exact h2)⟩,by lia⟩
theorem Gw(n:Nat)(l:LI0):(Ha n l).length<=n:=by
 unfold Ha;rw[Pb];exact Se (S5 _ _) (by simp)
section
variable {n:Nat}{s:Int}{P b:LI0} (F:Mh n s P b)
include F
end
end My
namespace My
open PySem L2
end My
namespace My
open L2
theorem HF:∀{ks:List (List Sb)}{xs:LI5}{k:List Sb}{v:PV}{j:Nat},ks.Nodup->ks[j]?=some k->xs[j]?=some v->Wc ks xs k=some v
 |[],_,_,_,_,_,h,_=>by simp at h
 |k'::ks,[],_,_,_,_,_,h=>by simp at h
 |k'::ks,x::xs,k,v,0,_,h1,h2=>by
  simp at h1 h2;subst h1 h2;simp[Wc]
 |k'::ks,x::xs,k,v,j+1,nd,h1,h2=>by
  simp only[VN] at h1 h2;obtain⟨n1,n2⟩:=Ys.mp nd;have:k'≠k:=fun e=>n1 (by rw[e];exact Zd h1);have ih:=HF n2 h1 h2;simp only[Wc];rw[Qa this];exact ih
def Pa(lv:LI1)(P:LI0)(vs0:LI5)(st:NB):Prop:=∃nv:LI5,st.2.2=vs0++nv/\nv.length=st.1.length/\∀(i:Nat) (z:LI0),st.1[i]?=some z->∃x p,x∈lv/\p∈P/\0<x.getD p.toNat 0/\z=Ee x p/\nv[i]?=some (.tup [Ya x,.int p])
theorem Pa.one{lv:LI1}{P:LI0}{vs0:LI5}{st:NB}(h:Pa lv P vs0 st){x:LI0}(hx:x∈lv){y:Int×LI0}(hy:y∈Je P x):Pa lv P vs0 (Hg x st y):=by
 obtain⟨nv,h1,h2,h3⟩:=h;obtain⟨y1,y2,y3⟩:=Ks.mp hy;unfold Hg
 split
 ·exact⟨nv,h1,h2,h3⟩
 ·refine⟨nv++[.tup [Ya x,.int y.1]],by simp[h1],by simp[h2],fun i z hz=>?_⟩
  by_cases c:i<st.1.length
  ·have hz:(st.1++[y.2])[i]?=some z:=hz
   rw[Lh c] at hz;obtain⟨x',p',a1,a2,a3,a4,a5⟩:=h3 i z hz;exact⟨x',p',a1,a2,a3,a4,by rw[Lh (by lia)];exact a5⟩
  ·have hz:(st.1++[y.2])[i]?=some z:=hz
   rw[Lg (by lia)] at hz;have hi:i-st.1.length=0:=by
    have:=(Cd.mp hz).1;simp at this;lia
   rw[hi] at hz;simp at hz;refine⟨x,y.1,hx,y1,y2,by rw[<- hz,y3], ?_⟩;rw[Lg (by lia),show i-nv.length=0 by lia];rfl
theorem Pa.fold{lv:LI1}{P:LI0}{vs0:LI5}{x:LI0}(hx:x∈lv):∀{L:List (Int×LI0)}{st:NB},Pa lv P vs0 st->(∀y∈L,y∈Je P x)->Pa lv P vs0 (L.foldl (Hg x) st)
 |[],st,h,_=>h
 |y::L,st,h,hL=>by
  rw[List.foldl_cons];exact Pa.fold hx (L:=L) (h.one hx (hL y (by simp))) fun z hz=>hL z (by simp[hz])
theorem Pa.lv{lv:LI1}{P:LI0}{vs0:LI5}:∀{L:LI1}{st:NB},Pa lv P vs0 st->(∀x∈L,x∈lv)->Pa lv P vs0 (Fg P L st)
 |[],st,h,_=>h
 |x::L,st,h,hL=>by
  show Pa lv P vs0 (Fg P L (RF P x st));exact Pa.lv (L:=L) (Pa.fold (hL x (by simp)) h fun y hy=>hy) fun z hz=>hL z (by simp[hz])
theorem ZaS(P b:LI0)(i:Nat):Pa (wk P b i).1 P (wk P b i).2.2 (wk P b (i+1)):=
 Pa.lv (st:=([],(wk P b i).2)) ⟨[],by simp,rfl,fun i z h=>by simp at h⟩ fun x hx=>hx
theorem Zax{bs:LI1}(h:bs.Nodup):(bs.map tI).Nodup:=by
 rw[AD,Zt];exact(AD.mp h).imp fun hab e=>hab (VC e)
theorem RM(P b:LI0){k:LI0}{v:PV}(i:Nat)(h:Wc ((wk P b i).2.1.map tI) (wk P b i).2.2 (tI k)=some v):∀m,Wc ((wk P b (i+m)).2.1.map tI) (wk P b (i+m)).2.2 (tI k)=some v
 |0=>h
 |m+1=>by
  have ih:=RM P b i h m;obtain⟨nv,h1,h2,_⟩:=ZaS P b (i+m);rw[show i+(m+1)=i+m+1 by lia,Uz,h1,Po];exact FP (by rw[Pb];exact(Ek P b (i+m)).ln.symm) ih
theorem Zlt(P b:LI0)(m:Nat):Wc ((wk P b m).2.1.map tI) (wk P b m).2.2 (tI b)=some .non:=by
 have:=RM P b (k:=b) (v:=.non) 0 (by simp[wk,Wc]) m;rw[Jl] at this;exact this
theorem Zlu{P b:LI0}{i:Nat}{x:LI0}(hx:x∈(wk P b (i+1)).1):∃y p,y∈(wk P b i).1/\p∈P/\0<y.getD p.toNat 0/\x=Ee y p/\∀m,i+1<=m->Wc ((wk P b m).2.1.map tI) (wk P b m).2.2 (tI x)=some (.tup [Ya y,.int p]):=by
 obtain⟨nv,h1,h2,h3⟩:=ZaS P b i;obtain⟨j,j1,j2⟩:=List.getElem_of_mem hx;have hj:(wk P b (i+1)).1[j]?=some x:=by rw[Yc j1,j2]
 obtain⟨y,p,a1,a2,a3,a4,a5⟩:=h3 j x hj;have W:=Ek P b (i+1);have W0:=Ek P b i;refine⟨y,p,a1,a2,a3,a4,fun m hm=>?_⟩;have base:Wc ((wk P b (i+1)).2.1.map tI) (wk P b (i+1)).2.2 (tI x)=some (.tup [Ya y,.int p]):=by
  refine HF (j:=(wk P b i).2.1.length+j) (Zax W.nd) ?_ ?_
  ·rw[Dd,Uz,Lg (by lia),Nat.add_sub_cancel_left,hj];rfl
  ·rw[h1,Lg (by rw[W0.ln];lia),W0.ln,Nat.add_sub_cancel_left];exact a5
 have:=RM P b (i+1) base (m-(i+1));rw[show i+1+(m-(i+1))=m by lia] at this;exact this
structure Ct(ks:List (List Sb))(vs:LI5)(N:Nat)(ys:Nat->LI0)(ps:Nat->Int):Prop where
 up:∀t,t<N->Wc ks vs (tI (ys t))=some (.tup [Ya (ys (t+1)),.int (ps t)])
 last:Wc ks vs (tI (ys N))=some .non
noncomputable def unQ:PV->LI0
 |.tup xs=>xs.map fun x=>match x with
  |.int i=>i
  |_=>0
 |_=>[]
theorem Zlk(b:LI0):unQ (Ya b)=b:=by
 show (b.map PV.int).map (fun x=>match x with|PV.int i=>i|_=>0)=b;rw[Sd];have:b.map ((fun x=>match x with|PV.int i=>i|_=>0)∘PV.int)=b.map id:=Xk fun _ _=>rfl;rw[this,T5]
noncomputable def Qu(ks:List (List Sb))(vs:LI5):Nat->LI0->LI0
 |0,_=>[]
 |f+1,x=>match Wc ks vs (tI x) with
  |some (.tup [y,.int p])=>p::Qu ks vs f (unQ y)
  |_=>[]
theorem Ct.org{ks:List (List Sb)}{vs:LI5}{N:Nat}{ys:Nat->LI0}{ps:Nat->Int}(h:Ct ks vs N ys ps):∀(f t:Nat),t<=N->N-t<f->Qu ks vs f (ys t)=(List.range (N-t)).map fun k=>ps (t+k)
 |0,t,_,hf=>by lia
 |f+1,t,ht,hf=>by
  by_cases c:t=N
  ·subst c
   rw[Qu,h.last,V6];rfl
  ·rw[Qu,h.up t (by lia)]
   simp only;rw[Zlk,Ct.org h f (t+1) (by lia) (by lia),show N-t=(N-(t+1))+1 by lia,List.range_succ_eq_map,Ed,Sd];congr 1;exact Xk fun k _=>by simp only[Function.comp_apply];congr 1;lia
noncomputable def Q3(b:LI0):LI0->LI0
 |[]=>b
 |p::ps=>Q3 (Ee b p) ps
theorem Zh0(b:LI0)(p:Int):∀ps,Q3 b (ps++[p])=Ee (Q3 b ps) p:=by
 intro ps
 induction ps generalizing b with
 |nil=>rfl
 |cons q ps ih=>exact ih (Ee b q)
structure VP(P b:LI0)(N:Nat)(pl:LI0)(o:LI0):Prop where
 len:pl.length=N
 ok:∀t,t<N->pl.getD t 0∈P/\0<(Q3 b (pl.take t)).getD (pl.getD t 0).toNat 0
 led:Q3 b pl=o
theorem VR{P b:LI0}:∀(N m:Nat) {o:LI0},N<=m->o∈(wk P b N).1->∃ys ps,Ct ((wk P b m).2.1.map tI) (wk P b m).2.2 N ys ps/\ys 0=o/\VP P b N (((List.range N).map ps).reverse) o
 |0,m,o,_,ho=>by
  have e:o=b:=Di.mp ho;subst e;exact⟨fun _=>o,fun _=>0,⟨fun t ht=>by lia,Zlt P o m⟩,rfl,⟨rfl,fun t ht=>by lia,rfl⟩⟩
 |N+1,m,o,hm,ho=>by
  obtain⟨y,p,a1,a2,a3,a4,a5⟩:=Zlu ho;obtain⟨ys,ps,c,c0,pl⟩:=VR N m (by lia) a1;refine⟨fun t=>match t with|0=>o|t+1=>ys t,fun t=>match t with|0=>p|t+1=>ps t,⟨fun t ht=>?_,c.last⟩,rfl, ?_⟩
  ·cases t with
   |zero=>rw[a5 m hm,<- c0]
   |succ t=>exact c.up t (by lia)
  ·have e:((List.range (N+1)).map fun t=>match t with|0=>p|t+1=>ps t).reverse=((List.range N).map ps).reverse++[p]:=by
    rw[List.range_succ_eq_map,Ed,Y5,Sd];rfl
   rw[e];have hl:=pl.len;generalize ((List.range N).map ps).reverse=L at pl hl;refine⟨by simp[hl],fun t ht=>?_,by rw[Zh0,pl.led,a4]⟩;by_cases c:t<N
   ·obtain⟨q1,q2⟩:=pl.ok t c
    rw[show (L++[p]).getD t 0=L.getD t 0 by rw[Cb,Lh (by lia),<- Cb],KN (by lia)];exact⟨q1,q2⟩
   ·have:t=N:=by lia
    subst this;rw[show (L++[p]).getD t 0=p by rw[Cb,Lg (by lia),hl,V6];rfl,KN (by lia),Yk (by lia),pl.led];exact⟨a2,a3⟩
noncomputable def Th(P b o:LI0):Nat:=((List.range 1001).find? fun i=>decide (o∈(wk P b i).2.1)).getD 0
section
variable {n:Nat}{s:Int}{P b o:LI0} (F:Mh n s P b) (ho:Pg P b o)
include F ho
theorem Zgc:Th P b o<=1000/\o∈(wk P b (Th P b o)).2.1/\(∀j,j<Th P b o->o ∉ (wk P b j).2.1)/\o∈(wk P b (Th P b o)).1/\∀j,j<=Th P b o->(wk P b j).1≠[]:=by
 have hex:o∈(wk P b (Tf P b)).2.1:=F.mem.mpr ho;have hw:=F.end;have h0:∃q,Th P b o=q/\q<=1000/\o∈(wk P b q).2.1/\∀j,j<q->o ∉ (wk P b j).2.1:=by
  unfold Th;cases hf:(List.range 1001).find? fun i=>decide (o∈(wk P b i).2.1) with
  |none =>
   have:=XC.mp hf (Tf P b) (Dh.mpr (by lia));exact Eb (Hb hex) this
  |some q =>
   obtain⟨q1,q2,q3⟩:=List.find?_range_eq_some.mp hf;refine⟨q,rfl,by have:=Dh.mp q2;lia,Ei q1,fun j hj e=>?_⟩;have:=q3 j hj;simp[e] at this
 obtain⟨q,e,q1,q2,q3⟩:=h0;rw[e];have hlv:o∈(wk P b q).1:=by
  cases q with
  |zero=>exact q2
  |succ q =>
   rw[Uz] at q2;rcases Nc.mp q2 with c|c
   ·exact Eb c (q3 q (by lia))
   ·exact c
 refine⟨q1,q2,q3,hlv,fun j hj z=>?_⟩;by_cases c:j=q
 ·rw[c] at z;rw[z] at hlv;cases hlv
 ·-- all sowings of the boards so far are there: nothing more comes
  have W:=Ek P b j;have key:∀{x:LI0},Pg P b x->x∈(wk P b j).2.1:=fun {x} hr=>by
   induction hr with
   |refl=>exact W.bg
   |step _ hp h0 ih =>
    rcases W.cl _ ih with c|c
    ·rw[z] at c;cases c
    ·exact c _ hp h0
  exact q3 j (by lia) (key ho)
end
noncomputable abbrev DQ:=LI1×LI1
structure Dq(R:LI0->Prop)(M0:LI1)(st:DQ):Prop where
 app:st.2=M0++st.1
 nd:st.2.Nodup
 re:∀z∈st.1,R z
section
end
noncomputable def llQ(L:LI1):PV:=.lst (L.map Kl)
end My
namespace L2
open PySem PySem.Spec PyProof.Rows
noncomputable def El(Rk:Va->Va->Bool)(tag:Va->Nat)(x y:Aa):Bool:=Rk x.1 y.1 || (!(Rk y.1 x.1)&&decide (tag x.2<tag y.2))
theorem YS{Rk:Va->Va->Bool}{tag:Va->Nat}{x y:Aa}:El Rk tag x y=false ↔ Rk x.1 y.1=false/\(Rk y.1 x.1=true\/tag y.2<=tag x.2):=by
 unfold El;cases h1:Rk x.1 y.1<;>cases h2:Rk y.1 x.1<;>simp
section
variable {prog:Bc}{w:Jc}{A:Pd}{E:Va->Ga->Prop}{s:Ga}{a kS:Ja}{e1:Nat}{vs ks:LI3}{P:PySem.Fin->Ga->Prop}
theorem ZgZ(κ:Pi)(Rk:Va->Va->Bool)(tag:Va->Nat)(ho:s.heap.get? a=some (Fd "list" #[] e1)){ne:Nat}(hk0:s.heap.get? kS=some (Fd "list" ks.toArray ne))(hka:kS≠a)(hz:vs.length<=1000000)(hl:ks.length=vs.length)(hk:2<=vs.length->∀(Q:Pi->Ga->Prop),Q κ s->Ra (Na prog w) A (keyKind' ks.toArray) Q E s)(hc:∀x y,x∈ks->y∈ks->∀C:Bool->Ga->Prop,C (Rk x y) s->Ra (Na prog w) A (keyLt' κ x y) C (fun _ _=>False) s)(asy:∀x y,x∈ks->y∈ks->Rk x y=true->Rk y x=false)(tr:∀x y z,x∈ks->y∈ks->z∈ks->Rk y x=false->Rk z y=false->Rk z x=false)(ht:∀i x,vs[i]?=some x->tag x=i)(hq:∀h' c (ps:List Aa),(∀b o,b≠a->b≠kS->s.heap.get? b=some o->h'.get? b=some o)->ps.Perm (ks.zip vs)->ps.Pairwise (fun x y=>El Rk tag y x=false)->h'.get? a=some (Fd "list" (ps.map (·.2)).toArray c)->P (.done (.ret .none)) { s with heap:=h' }) :
  Ra (Na prog w) A (ksk_end a false vs.toArray e1 (.ref kS) ks.toArray) P E s:=by
 have line:vs.length<=Cc:=Il hz;have hzs:(ks.toArray.zip vs.toArray).size=vs.length:=by rw[Array.size_zip,Ve,Ve,hl,Nat.min_self]
 have fin:∀st:Sa,Vj st=none->(Oa st).Perm (ks.toArray.zip vs.toArray)->(Oa st).toList.Pairwise (fun x y=>El Rk tag y x=false)->Ra (Na prog w) A (ksk_tail a false e1 (.ref kS) st) P E s:=fun st hf hp hs=>by
  have hsz:(Oa st).size=vs.length:=by rw[hp.size_eq,hzs]
  have b1:=Heap.SameBut.update s.heap kS (Obj.mapSeq fun _=>(#[]:Array Va));have a1:(s.heap.update kS (Obj.mapSeq fun _=>(#[]:Array Va))).get? a=some (Fd "list" #[] e1):=(b1.2 a (Ne.symm hka)).trans ho;have b2:=Heap.SameBut.update (s.heap.update kS (Obj.mapSeq fun _=>(#[]:Array Va))) a (Obj.mapSeq fun _=>(Oa st).map (·.2));obtain⟨c2,hc2⟩:∃c2,((s.heap.update kS (Obj.mapSeq fun _=>(#[]:Array Va))).update a (Obj.mapSeq fun _=>(Oa st).map (·.2))).get? a=some (Fd "list" ((Oa st).map (·.2)) c2):=⟨_,get?_update_seq a1 _⟩
  unfold ksk_tail;dsimp only;refine Ia (Wz hk0 rfl (Ia (V0 (Ia (seqEpoch_at a1 rfl (Ia (Wz a1 rfl ?_ (Ng _) ?_)))))) ?_ (Ng _))
  ·rw[hf]
   simp only[bne_self_eq_false,Bool.false_eq_true,if_false];refine Ib (hq _ c2 (Oa st).toList (fun b o nb nk q=>(b2.2 b nb).trans ((b1.2 b nk).trans q)) ?_ hs ?_)
   ·have:=YM.mp hp
    rwa [ksk_zip] at this
   ·rw[hc2]
    congr 1;congr 1;apply O5.mp;rw[Dz]
  ·simp only[Bool.false_eq_true,if_false]
   rw[Array.size_map,hsz];exact Se line (Wu _)
  ·rw[Ve,hl];exact line
 unfold ksk_end;dsimp only;simp only[Bool.false_eq_true,if_false];by_cases h2:vs.length<2
 ·have e2:vs.toArray.size<2:=by rw[Ve];exact h2
  rw[Da e2,Da e2];refine Ia (Ib (Ia (Ib (fin _ rfl (Array.Perm.refl _) ?_))));show (ks.toArray.zip vs.toArray).toList.Pairwise _;have Ge:(ks.toArray.zip vs.toArray).toList.length<2:=by rw[Oe,hzs];exact h2
  exact BY Ge
 ·have e2:¬vs.toArray.size<2:=by rw[Ve];exact h2
  rw[Qa e2,Qa e2];refine Ia (hk (by lia) _ ?_);have zget:∀(i:Nat) (x:Aa),(ks.toArray.zip vs.toArray)[i]?=some x->x.1∈ks/\vs[i]?=some x.2:=fun i x hx=>by
   rw[<- Ai,ksk_zip,Hz] at hx;exact⟨Zd hx.1,hx.2⟩
  have C0:Pc prog w A s κ (fun x=>x.1∈ks) (fun x y=>Rk x.1 y.1) (fun _ _=>True):=
   ⟨fun x y hx hy _ Q q=>hc _ _ hx hy Q q,fun x y hx hy q=>asy _ _ hx hy q,fun x y z hx hy hz q r=>tr _ _ _ hx hy hz q r⟩
  have C:Pc prog w A s κ (fun x=>x.1∈ks) (El Rk tag) (fun x y=>El Rk tag x y=Rk x.1 y.1):=by
   refine⟨fun x y hx hy ok Q q=>hc _ _ hx hy Q (by rw[<- ok];exact q),fun x y hx hy q=>?_,fun x y z hx hy hz q r=>?_⟩
   ·rw[YS]
    unfold El at q;simp only[Bool.or_eq_true,Bool.and_eq_true,Bool.not_eq_true',decide_eq_true_eq] at q;rcases q with q|⟨q1,q2⟩
    ·exact⟨asy _ _ hx hy q,.inl q⟩
    ·exact⟨q1,.inr (Vt q2)⟩
   ·rw[YS] at q r ⊢
    refine⟨tr _ _ _ hx hy hz q.1 r.1, ?_⟩;cases h:Rk x.1 z.1 with
    |true=>exact .inl rfl
    |false =>
     have h1:=tr _ _ _ hz hx hy h q.1;have h2:=tr _ _ _ hy hz hx r.1 h;right;have t1:=q.2.resolve_left (by rw[h2];simp);have t2:=r.2.resolve_left (by rw[h1];simp);exact Se t1 t2
  have run:=Zba (E:=E) C C0 ⟨fun x y h=>by unfold El;rw[h];rfl,fun _ _ h=>h⟩ (st:=SortSt.mk' κ (ks.toArray.zip vs.toArray) #[] 7 none)
   (Q:=fun _ Ba=>Vj Ba=none/\(Oa Ba).Perm (ks.toArray.zip vs.toArray)/\Up (El Rk tag) (Oa Ba) 0 (ks.toArray.zip vs.toArray).size) rfl rfl
   (fun i hi=>(zget i _ (Jo hi)).1) rfl (fun e p q hp hq hs=>by
    have hs':q<(ks.toArray.zip vs.toArray).size:=hs;have g1:=ht _ _ (zget q _ (Jo hs')).2;have g2:=ht _ _ (zget p _ (Jo (Nat.lt_trans (Mg hp hq) hs'))).2;show El Rk tag (gA (ks.toArray.zip vs.toArray) q) (gA (ks.toArray.zip vs.toArray) p)=_;unfold El;rw[g1,g2,Fb (by lia),Bool.and_false,Bool.or_false]) (fun Ba k1 k2 k3=>⟨k1,k2,k3⟩)
  refine Ia (Vf run ?_ fun _ _ e=>e);rintro⟨⟨⟩,st⟩ s' ⟨rfl,hf,hp,hu⟩;dsimp only at hf hp hu ⊢;refine fin st hf hp ?_;have sr:=hu.srt (Z6 (by rw[Jl,hp.size_eq]));rw[Su,Yk (Z6 (by rw[Oe,hp.size_eq]))] at sr;exact sr
theorem Zhc{f:Va}(J:LI3->Ga->Prop)(h0:J [] s)(hz:vs.length<=1000000)(turn:∀(kz:LI3) (x:Va) (s1:Ga),vs[kz.length]?=some x->J kz s1->Ra (Na prog w) A (call f [x]) (fun k s2=>∃n,s2.heap.get? kS=some (Fd "list" kz.toArray n) /\
   ∀h' c,Heap.SameBut kS s2.heap h'->h'.get? kS=some (Fd "list" (kz++[k]).toArray c)->J (kz++[k]) { s2 with heap:=h' }) (fun _ _=>False) s1)(fin:∀(kz:LI3) (s1:Ga),kz.length=vs.length->J kz s1->∃n,s1.heap.get? kS=some (Fd "list" kz.toArray n)/\Ra (Na prog w) A (ksk_end a false vs.toArray e1 (.ref kS) kz.toArray) P E s1) :
  Ra (Na prog w) A (ksk_rest a f false vs.toArray e1 (.ref kS)) P E s:=by
 have line:vs.length<=Cc:=Il hz;unfold ksk_rest;refine Ia (Fn ?_);rw[<- Array.forIn_toList];refine Ia (ksk_fold (fun i s'=>∃kz:LI3,kz.length=i/\J kz s') vs 0 s ⟨[],rfl,h0⟩ (fun j x s' hx hI=>?_) fun s' hI=>?_)
 ·obtain⟨kz,hkl,hJ⟩:=hI
  rw[Jl] at hkl;have hj:j<vs.length:=(Cd.mp hx).1;refine Ia (Z0 (Vf (turn kz x s' (by rw[hkl];exact hx) hJ) (fun k s2 hk=>?_) fun _ _ q=>q.elim));obtain⟨n,e,hn⟩:=hk;dsimp only;refine Ia (Wz e rfl ?_ (by rw[Ve];lia) (by rw[Array.size_push,Ve];lia));refine Ib ⟨rfl,kz++[k],by rw[Gj,hkl];simp, ?_⟩;have e2:=get?_update_seq e (fun v=>v.push k);have e3:kz.toArray.push k=(kz++[k]).toArray:=by simp
  rw[e3] at e2;exact hn _ _ (Heap.SameBut.update s2.heap kS _) e2
 ·obtain⟨kz,hkl,hJ⟩:=hI
  rw[Jl] at hkl;obtain⟨n,e,hf⟩:=fin kz s' hkl hJ;exact Ia (listItems_at e rfl hf)
theorem Zk6{l f:Ja}{Q:Va->Ga->Prop}(hl:s.heap.IsList l vs.toArray)(hz:vs.length<=1000000)(go:∀(D kS:Ja) (e1:Nat) (h3:Heap),(∀b o,s.heap.get? b=some o->h3.get? b=some o)->s.heap.objs.size<=D->D<kS->h3.get? D=some (Fd "list" #[] e1)->h3.get? kS=some (Fd "list" #[] 0) ->
   Ra (Na prog w) A.in1.in1 (ksk_rest D (.ref f) false vs.toArray e1 (.ref kS)) (fun r s'=>r=.done (.ret .none)/\Q (.ref D) s') E { s with heap:=h3 }) :
  Ra (Na prog w) A (call (.builtin "sorted") [.ref l] [("key",.ref f)]) Q E s:=by
 have line:vs.length<=Cc:=Il hz;refine call_function_entry_kw kind_sorted plain_sorted entry_sorted (ksk_s1 _ _) ?_;unfold Builtin.«sorted»;refine Ia (m:=checkCount "sorted" 1 1 _) (Ib (Ia (collect_list hl (Ia (U0 ?_ line)) line)));generalize eg:(s.heap.push (Fd "list" #[] 0)).update s.heap.objs.size (Obj.mapSeq (·++vs.toArray))=h1;have z1:h1.objs.size=s.heap.objs.size+1:=by subst eg;rw[Heap.size_update,size_push']
 have k1:∀b o,s.heap.get? b=some o->h1.get? b=some o:=fun b o q=>by
  have lb:=Heap.lt_size q;subst eg;rw[Heap.get?_update_ne _ _ _ _ (Jf lb)];exact Heap.get?_push_of_some _ q
 have hD:(h1.push (Fd "list" vs.toArray 0)).get? h1.objs.size=some (Fd "list" vs.toArray 0):=Heap.get?_push_size _ rfl;show Ra _ _ _ _ _ { s with heap:=h1.push (Fd "list" vs.toArray 0) };obtain⟨e1,ho1⟩:∃c,((h1.push (Fd "list" vs.toArray 0)).update h1.objs.size (Obj.mapSeq fun _=>(#[]:Array Va))).get? h1.objs.size=some (Fd "list" #[] c):=⟨_,get?_update_seq hD _⟩
 refine Ia (Tj (wpAny_call_entry_kw slot_list_sort ⟨_,hD,rfl⟩ entry_list_sort ?body (ksk_l1 _ _)));rw[show Builtin.«list.sort» ⟨[.ref h1.objs.size],[("key",.ref f)]⟩=ksk_tree h1.objs.size (.ref f) false from ksk_t1 f _];unfold ksk_tree;refine Ia (listItems_at hD rfl (Ia (Wz hD rfl (Ia (seqEpoch_at ho1 rfl (Ia (wpAny_newTuple (Ia (U0 (Tj ?_) (Ng _))) ?_)))) ?_ (Ng _))));rotate_left
 ·exact line
 ·rw[Ve];exact line
 refine Vf (go h1.objs.size _ e1 _ (fun b o q=>?_) (by rw[z1];exact Wu _) ?_ ?_ ?_) (fun r s' ⟨e,q⟩=>?_) fun _ _ e=>e
 ·have nb:b≠h1.objs.size:=Jf (by rw[z1];exact GD (Heap.lt_size q))
  exact Heap.get?_push_of_some _ (Heap.get?_push_of_some _ ((Heap.get?_update_ne _ _ _ _ nb).trans (Heap.get?_push_of_some _ (k1 b o q))))
 ·rw[size_push',Heap.size_update,size_push'];exact GD (HD _)
 ·exact Heap.get?_push_of_some _ (Heap.get?_push_of_some _ ho1)
 ·exact Heap.get?_push_size _ rfl
 ·subst e
  exact⟨_,rfl,Ib ⟨_,rfl,q⟩⟩
end
noncomputable abbrev QL:Str := "ends_first.<locals>.<lambda>"
theorem ZaJ{r:LI3}(hr:TriplesOk r):∀{l:LI3},TriplesOk l->TriplesOk (l++r)
 |[],_=>hr
 |.int _ _::.int _ _::c::l,h=>ZaJ (l:=l) hr h
theorem CP{pos:Pos}{r:LI3}{c:Va}:∀{l:LI3},TriplesOk l->Ut pos (l++r)=some c->Ut pos l=some c\/Ut pos r=some c
 |[],_,e=>.inr e
 |.int a ta::.int b tb::d::l,h,e=>by
  have e:(if a==pos.line&&b==pos.col then some d else Ut pos (l++r))=some c:=e;show (if a==pos.line&&b==pos.col then some d else Ut pos l)=some c\/_
  split at e
  ·rename_i z;rw[Da z];exact .inl e
  ·rename_i z;rw[Qa z];exact CP (l:=l) h e
theorem ZbY{pos p:Pos}{c d:Va}(e:Ut pos [rawInt p.line,rawInt p.col,c]=some d):d=c:=by
 have e:(if _ then some c else none)=some d:=e
 split at e
 ·exact(Option.some.inj e).symm
 ·cases e
noncomputable abbrev U8(params:Arguments)(body:Expr)(scope:Scope)(cl:List (Str×Ja))(pm:Va)(c':Ja)(ctv:Va):Obj:=PySem.W.kla_obj "<lambda>" QL params body scope cl pm c' ctv
section
variable {X:Cx}{Za:List (Ja×Obj)}{σ:St}{H:Hp}{s:Ga}{params:Arguments}{body:Expr}{scope:Scope}{pos:Pos}{f0 c P:Ja}{E:Va->Ga->Prop}{Q:Va->Ga->Prop}
theorem Zhl{H':Hp}{h':Heap}{tk:Nat}(I:Ca X Za σ H s)(hP:∃ps q,H P=some (.tbl ps q))(sm:La H H')(fr:∀b,H b=none->H' b≠none->s.heap.objs.size<=b)(hx:∀b o,b≠P->s.heap.get? b=some o->h'.get? b=some o)(ht:∃o,h'.get? P=some o)(ok:He X.prog X.w H' h'):Ca X Za σ H' { s with heap:=h',toks:=tk }:=by
 obtain⟨ps,q,hP⟩:=hP;have np:∀{b},H b=none->b≠P:=fun {b} e z=>by rw[z,hP] at e;cases e
 refine I.call (g':=s.gens) (d':=s.drawn) (ch:=[]) ⟨fun b o e n _ _=>hx b o (np n) e,fun b o e n _ _=>⟨o.slots,hx b o (np n) e⟩,fun b o e n _=>?_,fun b o e _=>?_,fun b xs e=>sm _ _ e,fun b o u e=>sm _ _ e,fun b p q e=>sm _ _ e⟩ ok I.bare (fun b z=>Eb z (by simp))
 ·cases q:H' b with
  |none=>rfl
  |some u=>exact Eb (Heap.lt_size e) (J6.mpr (fr b n (by rw[q];simp)))
 ·by_cases z:b=P
  ·rw[z];exact ht
  ·exact⟨o,hx b o z e⟩
theorem Zhk(I:Ca X Za σ H s)(hT:Uj X.K f0=some (c,P))(hcode:X.env.code=.ref c)(hqual:X.env.qual ++ "<lambda>"=QL)(hcl:Sz scope X.env=pure (Yg scope X.env))(hdef:defaultsOf params X.env=([],[]))(h:∀(f c':Ja) (oc:Obj) (pm ctv:Va) (H':Hp) (s':Ga),La H H'->Ca X Za σ H' s'->XD QL oc->H' c'=some (.frz oc (.own c'))->H' f=some (.frz (U8 params body scope (Yg scope X.env) pm c' ctv) (.own f))->Q (.ref f) s') :
  Ra (Na X.prog X.w) X.A (eval (.Lambda params body scope pos) X.env) Q E s:=by
 refine PySem.W.kla_eval hdef ?_;rw[hqual];have hg:s.heap.Ns Tg X.mg:=I.ok.mod.glob.keeps I.bk;have hP:H P=some (.tbl #[] QL):=I.base.tbls _ _ _ (I.ok.tab f0 c P hT);obtain⟨more,e1,t1,cs⟩:=I.hok P _ hP;have C:PySem.W.CodeHd s.heap c P:=PySem.W.codeHd_of_K I.kIn (BV hT);have hgP:Tg≠P:=fun z=>by
  obtain⟨o,es,ep,e,d,_⟩:=hg;rw[z,e1] at e;cases e;cases d
 have hb:s.heap.BuiltinsAt X.mg P:=by
  obtain⟨bm,o,b1,b2,b3,b4,b5,b6⟩:=I.ok.mod.bmod;refine⟨bm,o,b1,b2,fun z=>?_,fun z=>?_,I.bk _ _ b3,b4,b5,b6⟩
  ·obtain⟨o',es,ep,e,d,_⟩:=I.ok.mod.glob
   rw[z,e] at b3;cases b3;rw[d] at b6;cases b6
  ·have:=I.bk _ _ b3
   rw[z,e1] at this;cases this;cases b6
 cases hcm:Ut pos ((#[]:Array Va)++more).toList with
 |some cv =>
  obtain⟨c',oc,rfl,hc',hCo⟩:=cs pos cv hcm;refine PySem.W.kla_makeFunctionHit (mg:=X.mg) hcl I.ok.glob hg hcode C e1 t1 hcm hb fun ctv h' tk hk hsz=>?_;have hf:H h'.objs.size=none:=I.hok.fresh hsz;refine h h'.objs.size c' oc _ ctv (upd H h'.objs.size (.frz _ (.own h'.objs.size))) _ (La.new hf) (I.laid (t':=tk) (fun b u e=>Heap.get?_push_of_some _ (hk b u e)) hsz ⟨Heap.get?_push_size _ rfl,_,Heap.get?_push_size _ rfl⟩) hCo ?_ Uf;rw[Rb (Qg hc' hf)];exact hc'
 |none =>
  refine PySem.W.kla_makeFunction (mg:=X.mg) hcl I.ok.glob hg hcode C e1 t1 hcm hgP hb fun c' ctv h' tk hx hge hlt hrec htb=>?_;obtain⟨c₂,oc,vs,t,e2,hoc,hd,hv⟩:=hrec;cases e2;have hc0:H c'=none:=I.hok.fresh hge;have hf0:H h'.objs.size=none:=I.hok.fresh (Se hge (Vt hlt));have hcf:c'≠h'.objs.size:=Jf hlt;have hf1:upd H c' (.frz oc (.own c')) h'.objs.size=none:=by rw[Rb (Ne.symm hcf)];exact hf0
  have sm:∀u,La H (upd (upd H c' (.frz oc (.own c'))) h'.objs.size u):=fun u=>(La.new hc0).trans (La.new hf1);refine h h'.objs.size c' oc ((X.mg "__name__").getD .none) ctv (upd (upd H c' (.frz oc (.own c'))) h'.objs.size (.frz (U8 params body scope (Yg scope X.env) ((X.mg "__name__").getD .none) c' ctv) (.own h'.objs.size))) _ (sm _) ?_ ⟨vs,t,hd,hv⟩ ?_ Uf;rotate_left
  ·rw[Rb hcf];exact Uf
  have push:∀{b o},h'.get? b=some o->(h'.push (U8 params body scope (Yg scope X.env) ((X.mg "__name__").getD .none) c' ctv)).get? b=some o:=fun e=>Heap.get?_push_of_some _ e;refine Zhl (P:=P) (h':=h'.push _) I ⟨_,_,hP⟩ (sm _) (fun b hn hn'=>?_) (fun b o nb e=>push (hx b o nb e)) ⟨_,push htb⟩ (fun b u e=>?_)
  ·by_cases z:b=h'.objs.size
   ·rw[z];exact Se hge (Vt hlt)
   ·by_cases z':b=c'
    ·rw[z'];exact hge
    ·rw[Rb z,Rb z'] at hn';exact Eb hn hn'
  ·by_cases z:b=h'.objs.size
   ·subst z;rw[Uf] at e;cases e
    exact⟨Heap.get?_push_size _ rfl,_,Heap.get?_push_size _ rfl⟩
   ·rw[Rb z] at e
    by_cases z':b=c'
    ·subst z';rw[Uf] at e;cases e
     exact⟨push hoc,_,push hoc⟩
    ·rw[Rb z'] at e
     by_cases zP:b=P
     ·subst zP
      rw[hP] at e;cases e;refine⟨more++#[rawInt pos.line,rawInt pos.col,.ref c'], ?_, ?_,fun pos' cv q=>?_⟩
      ·rw[push htb,WM]
      ·rw[<- WM,M5]
       exact ZaJ (by trivial) t1
      ·rw[<- WM,M5] at q
       rcases CP t1 q with q|q
       ·obtain⟨c1,o1,r1,r2,r3⟩:=cs pos' cv q
        exact⟨c1,o1,r1,sm _ _ _ r2,r3⟩
       ·have q:=ZbY q
        exact⟨c',oc,q,by rw[Rb hcf];exact Uf,vs,t,hd,hv⟩
     ·refine(I.hok b u e).stay (fun b' v hc q=>push (hx b' v (fun zz=>?_) q)) (fun b' q=>sm _ _ _ q) fun b' xs q=>sm _ _ _ q
      rcases hc with rfl|hc
      ·exact zP zz
      ·rw[zz,hP] at hc;cases hc
noncomputable abbrev FI(X:Cx)(scope:Scope)(f c' L:Ja):Env:=PySem.W.envX QL scope L f (.ref c') (Yg scope X.env)
noncomputable def V8(X:Cx)(A:Pd)(scope:Scope)(N:List Str)(f c':Ja)(s₂:Ga)(H₂:Hp):Cx where
 prog:=X.prog
 w:=X.w
 K:=X.K
 mg:=X.mg
 base:=X.base
 A:=A.deeper (FI X scope f c' s₂.heap.objs.size)
 N:=N
 s₀:=s₂
 H₀:=H₂
 env:=FI X scope f c' s₂.heap.objs.size
 outer:=X.stack
 stack:=FI X scope f c' s₂.heap.objs.size::X.stack
 ex:=[]
 fn:=fun _=>false
 calm:=true
 pn:=[]
 xe:=fun _ _=>False
structure Ht(X:Cx)(scope:Scope)(x:Str)(FN:List Str)(js:List Nat):Prop where
 kind:scope.kind=.function
 co:scope.isCoroutine=false
 gen:scope.isGenerator=false
 cell:∀p∈scope.names,p.2≠.cell
 loc:scope.names.lookup x=some .local
 fr:∀p∈scope.names,p.2=.free->X.env.scope.names.lookup p.1=some .cell\/X.env.scope.names.lookup p.1=some .free
 fn:∀y∈FN,scope.names.lookup y=some .free
 at_:js.map (fun j=>X.N[j]?)=FN.map some
noncomputable def Mo(js:List Nat)(σ:St):St:=js.map fun j=>(σ[j]?).join
theorem X1{x:Str}{FN:List Str}{js:List Nat}(sc:Ht X scope x FN js)(ok:X.Ok){y:Str}{c:Ja}(h:(Yg scope X.env).lookup y=some c):X.env.cells.lookup y=some c:=by
 have hm:=PySem.mem_of_lookup h;unfold Yg at hm;obtain⟨p,hp,e⟩:=Nd.mp hm;have hp':=An.mp (EN.mp hp);obtain⟨e1,e2⟩:=Prod.mk.inj e;have hk:=sc.fr p hp'.1 (beq_iff_eq.mp hp'.2);obtain⟨c',hc'⟩:=ok.has p.1 hk;rw[hc'] at e2;rw[<- e1,hc'];exact Ef some e2
theorem Zhm{A:Pd}{x:Str}{FN:List Str}{js:List Nat}{f c':Ja}{h₁:Heap}{tk:Nat}{v:V}{u:Va}(I:Ca X Za σ H s)(sc:Ht X scope x FN js)(hd:A.handled=none)(hA:A.frames=some X.stack)(r:Ob v u)(hns:h₁.Ns s.heap.objs.size (fun y=>[(x,u)].reverse.lookup y))(hk:∀b o,s.heap.get? b=some o->h₁.get? b=some o) :
  Ca (V8 X A scope (x::FN) f c' s H) [] (some v::Mo js σ) H { s with heap:=h₁,toks:=tk }:=by
 have noA:∀b:Ja,b ∉ (V8 X A scope (x::FN) f c' s H).ex:=fun b z=>Eb (show b∈([]:LI2) from z) (by simp);refine⟨⟨I.ok.mod,sc.kind,rfl,rfl,Db _,fun y z c h1 h2=>?_,fun y hy=>?_,fun y c hf _=>?_,fun _=>hd,Around.frames_deeper hA,.inr ⟨rfl,rfl⟩,fun b z=>Eb z (noA b),I.bs,Se I.ok.bsz I.sz,fun b _ _=>noA b,fun b z=>Eb z (noA b),I.stack,I.stkFree,fun f c P h1=>I.base.tbls _ _ _ (I.ok.tab f c P h1)⟩,
  rfl,I.bare,Un.kept hk,⟨_,hns,fun i y w h1 h2 h3=>?_⟩,fun y c h=>?_,I.hok.fresh (Db _),fun y c h=>?_,fun p hp=>Eb (show p∈([]:List (Ja×Obj)) from hp) (by simp),I.hok.kept hk, ?_⟩
 ·exact I.ok.inj y z c (X1 sc I.ok h1) (X1 sc I.ok h2)
 ·have hy:scope.names.lookup y=some .cell\/scope.names.lookup y=some .free:=hy
  rcases hy with hy|hy
  ·exact Eb rfl (sc.cell _ (PySem.mem_of_lookup hy))
  ·exact C7 (X:=X) hy
 ·have hf:false=true:=hf
  cases hf
 ·cases i with
  |zero =>
   have h1:x=y:=Option.some.inj h1;subst h1;have h2:v=w:=Option.some.inj (Option.some.inj h2);subst h2;exact⟨u,r,.inl ⟨sc.loc,by simp⟩⟩
  |succ i =>
   have h1:FN[i]?=some y:=h1;have h2:(Mo js σ)[i]?=some (some w):=h2;unfold Mo at h2;rw[Dd] at h2;have hj:(js.map fun j=>X.N[j]?)[i]?=some (some y):=by rw[sc.at_,Dd,h1];rfl
   rw[Dd] at hj;cases e:js[i]? with
   |none=>rw[e] at h2;cases h2
   |some j =>
    rw[e] at h2 hj;have hj:X.N[j]?=some y:=Option.some.inj hj;have h2:(σ[j]?).join=some w:=Option.some.inj h2;have h2:σ[j]?=some (some w):=by
     cases q:σ[j]? with
     |none=>rw[q] at h2;cases h2
     |some o=>rw[q] at h2;rw[show o=some w from h2]
    have hfree:=sc.fn y (Zd h1);have hvis:=sc.fr _ (PySem.mem_of_lookup hfree) rfl;obtain⟨m,hn,hl⟩:=I.loc;obtain⟨u',ru,hlook⟩:=hl j y w hj h2 (.inr hvis);obtain⟨c,hcl⟩:=C7 (X:=X) hfree;have hcx:=X1 sc I.ok hcl;refine⟨u',ru,.inr ⟨.inr hfree,c,hcl, ?_⟩⟩;rcases hlook with ⟨k,_⟩|⟨k,c2,ec,hcell⟩
    ·have k':X.env.scope.names.lookup y=some .local:=k
     have hv':X.env.scope.names.lookup y=some .cell\/X.env.scope.names.lookup y=some .free:=hvis;rw[k'] at hv';rcases hv' with z|z<;>cases z
    ·rw[hcx] at ec;cases ec
     obtain⟨o,ho,hdd⟩:=hcell;exact⟨o,hk _ _ ho,hdd⟩
 ·obtain⟨v,o,ho,hdd⟩:=I.cell y c (X1 sc I.ok h)
  exact⟨v,o,hk _ _ ho,hdd⟩
 ·exact I.freeC y c (X1 sc I.ok h)
 ·have:=Ef List.length sc.at_
  rw[Pb,Pb] at this;show (some v::Mo js σ).length=(x::FN).length;unfold Mo;simp[this]
theorem Zhj{A:Pd}{x:Str}{FN:List Str}{js:List Nat}{f c':Ja}{oc:Obj}{pm ctv:Va}{v:V}{u:Va}{te:TE}{Q:VK}(I:Ca X Za σ H s)(sc:Ht X scope x FN js)(hd:A.handled=none)(hroom:A.depth<recursionLimit)(hA:A.frames=some X.stack)(hCo:XD QL oc)(hc:H c'=some (.frz oc (.own c')))(hf:H f=some (.frz (U8 params body scope (Yg scope X.env) pm c' ctv) (.own f)))(hb:∀u,bindArgs (PySem.W.kla_fn "<lambda>" QL params body scope (Yg scope X.env) pm (.ref c') ctv) ⟨[u],[]⟩=pure [(x,u)])(hbody:PE (V8 X A scope (x::FN) f c' s H) body te)(r:Ob v u)(hq:te (some v::Mo js σ) H Q) :
  Ra (Na X.prog X.w) A (call (.ref f) [u]) (EP X Za σ fun v H'=>Q v H'/\∀b o u,H b=some (.frz o u)->H' b=some (.frz o u)) (fun _ _=>False) s:=by
 have ho:=(I.hok f _ hf).1;have hcd:s.heap.CodeRec (.ref c') QL:=let ⟨vs,t,h1,h2⟩:=hCo;⟨c',oc,vs,t,rfl,(I.hok c' _ hc).1,h1,h2⟩;refine J0 (PySem.W.kla_callFunE hroom ho rfl sc.co sc.gen rfl hcd ?_);rw[hb];refine Ib (wpAny_newFunctionEnv sc.cell (fun y hy=>?_) (fun h₁ hns hsb=>?_) sc.kind)
 ·have:y=(x,u):=by simpa using hy
  rw[this];exact sc.loc
 have hk:∀b o,s.heap.get? b=some o->h₁.get? b=some o:=fun b o e=>hsb.extBut b o (Jf (Heap.lt_size e)) (Heap.get?_push_of_some _ e);refine⟨I.nolimit.keeps hk, ?_⟩;have I1:=Zhm (tk:=s.toks+[(x,u)].length) (f:=f) (c':=c') I sc hd hA r hns hk;refine PySem.W.kla_codeExpr (Vf (hbody [] _ _ H Q I1 hq) (fun u' s' h'=>?_) fun _ _ z=>z.elim);obtain⟨v',H',J,r',q'⟩:=h';exact I.after ⟨v',H',J.os,J.bare,J.base,J.hok,r',q',J.base.frzs⟩
end
noncomputable def Ap(kz:LI1):LI1:=kz.zipIdx.map fun p=>p.1++[((p.2:Nat):Int)]
noncomputable def Qh(kz:LI1):List Nat:=(Ni (Ap kz)).map fun l=>(l.getLastD 0).toNat
theorem S7:∀{l:LI2}{i:Nat}{a:Ja},l.Nodup->l[i]?=some a->l.idxOf a=i
 |[],i,a,_,h=>by simp at h
 |b::l,0,a,_,h=>by
  have h:b=a:=by simpa using h
  subst h;simp
 |b::l,i+1,a,nd,h=>by
  have h:l[i]?=some a:=by simpa using h
  obtain⟨n1,n2⟩:=Ys.mp nd;have hb:b≠a:=fun z=>n1 (by rw[z];exact Zd h);rw[List.idxOf_cons,show (b==a)=false from beq_false_of_ne hb];simp only[cond_false];rw[S7 n2 h]
theorem Zh2{a b c d:Int}{i j:Nat}:HT.Zc ([a,b]++[(i:Int)]) ([c,d]++[(j:Int)])=(HT.Zc [a,b] [c,d] || (!(HT.Zc [c,d] [a,b])&&decide (i<j))):=by
 have e:∀(x y z u v w:Int),HT.Zc [x,y,z] [u,v,w]=decide (x<u\/(x=u/\(y<v\/(y=v/\z<w)))):=fun x y z u v w=>by
  unfold HT.Zc HT.Zc HT.Zc HT.Zc;by_cases h1:x=u<;>by_cases h2:y=v<;>by_cases h3:z=w<;>simp[h1,h2,h3]<;>lia
 have e2:∀(x y u v:Int),HT.Zc [x,y] [u,v]=decide (x<u\/(x=u/\y<v)):=fun x y u v=>by
  unfold HT.Zc HT.Zc HT.Zc;by_cases h1:x=u<;>by_cases h2:y=v<;>simp[h1,h2]<;>lia
 rw[show ([a,b]++[(i:Int)])=[a,b,(i:Int)] from rfl,show ([c,d]++[(j:Int)])=[c,d,(j:Int)] from rfl,e,e2,e2];rw[Bool.eq_iff_iff];simp only[Bool.or_eq_true,Bool.and_eq_true,Bool.not_eq_true',decide_eq_true_eq,decide_eq_false_iff_not];lia
noncomputable def UC(te:TE)(ws:St):List V->Hp->(List V->Hp->Prop)->Prop
 |[],H,Q=>Q [] H
 |x::xs,H,Q=>te (some x::ws) H fun k H1=>UC te ws xs H1 fun ks H2=>Q (k::ks) H2
noncomputable def Za8(K:ZlR)(te:TE)(js:List Nat)(ta:TA):TE:=fun σ H Q=>ta σ H fun xs H1=>∃p,∃as:LI2,xs=[.ref p]/\Yb K H1 p (as.map V.ref)/\as.Nodup/\as.length<=1000000 /\
 ∀H2,La H1 H2->UC te (Mo js σ) (as.map V.ref) H2 fun ks H3=>∃ys:List Ue,ks=(ys.map fun t=>V.ref t.1)/\(∀t∈ys,Af K H3 t.1 (t.2.map V.int)/\t.2.length=2)/\ys.length=as.length /\
  ∀l,H3 l=none->Q (.ref l) (upd H3 l (.lst ((Qh (ys.map (·.2))).map fun i=>V.ref (as.getD i 0))))
theorem ZaP:∀{as:LI2}{us:LI3},Ab (as.map V.ref) us->us=as.map Value.ref
 |[],_,.nil=>rfl
 |a::as,_,.cons r rr=>by
  have r:_=Value.ref a:=r;rw[r,ZaP rr];rfl
theorem TY:∀(as:LI2),Ab (as.map V.ref) (as.map Value.ref)
 |[]=>.nil
 |a::as=>.cons rfl (TY as)
noncomputable def DV(N:List Str)(sc scope:Scope)(x:Str)(FN:List Str)(js:List Nat):Bool:=(scope.kind==.function)&&!scope.isCoroutine&&!scope.isGenerator&&(scope.names.all fun p=>!(p.2==.cell))&&(scope.names.lookup x==some .local)
 && (scope.names.all fun p=>!(p.2==.free) || sc.names.lookup p.1==some .cell || sc.names.lookup p.1==some .free)&&(FN.all fun y=>scope.names.lookup y==some .free)&&decide (js.map (fun j=>N[j]?)=FN.map some)
theorem Ht.of{X:Cx}{N:List Str}{sc scope:Scope}{x:Str}{FN:List Str}{js:List Nat}(h:DV N sc scope x FN js=true)(hs:X.env.scope=sc:=by rfl)(hN:X.N=N:=by rfl):Ht X scope x FN js:=by
 subst hs;subst hN;unfold DV at h;simp only[Bool.and_eq_true,Ah,decide_eq_true_eq,Bool.not_eq_true',Bool.or_eq_true,beq_iff_eq,beq_eq_false_iff_ne] at h;obtain⟨⟨⟨⟨⟨⟨⟨h1,h2⟩,h3⟩,h4⟩,h5⟩,h6⟩,h7⟩,h8⟩:=h;refine⟨h1,h2,h3,fun p hp=>h4 p hp,h5,fun p hp e=>?_,h7,h8⟩;rcases h6 p hp with (z|z)|z
 ·exact Eb e z
 ·exact .inl z
 ·exact .inr z
theorem Fe.lam{j k:Nat}{A:Pd}{env:Env}(r:Fe k A)(h:j+3<=k):Fe j (A.in1.in1.deeper env):=((r.mono h).in1.in1).deeper env
section
variable {X:Cx}{params:Arguments}{body e:Expr}{scope:Scope}{np lpos kp pos:Pos}{f0 c P:Ja}{x:Str}{FN:List Str}{js:List Nat}{te:TE}{ta:TA}
theorem ZjG{K:ZlR}{k:Nat}(hg:Gl X "sorted")(hm:X.mg "sorted"=none)(hv:Gh "sorted"=some (.builtin "sorted"))(ha:PA X [e] ta)(hT:Uj K f0=some (c,P))(hcode:X.env.code=.ref c)(hqual:X.env.qual ++ "<lambda>"=QL)(sc:Ht X scope x FN js)(hr:Fe (k+2) X.A)(hbody:∀f c' s H,PE (V8 X X.A.in1.in1 scope (x::FN) f c' s H) body te)(hb:∀cl pm c' ctv u,bindArgs (PySem.W.kla_fn "<lambda>" QL params body scope cl pm (.ref c') ctv) ⟨[u],[]⟩=pure [(x,u)]:=by intros;rfl)(hcl:Sz scope X.env=pure (Yg scope X.env):=by rfl)(hdef:defaultsOf params X.env=([],[]):=by rfl)(he:Fh pos (Tc [e] X.env)=(false,eval e X.env)::Fh pos (Tc [] X.env):=by rfl)(hpl:(Fh pos (Tc [e] X.env)).any (·.1)=false:=by rfl)(eK:X.K=K:=by rfl) :
  PE X (.Call (.Name "sorted" np) [e] [⟨some "key",.Lambda params body scope lpos,kp⟩] pos) (Za8 K te js ta):=by
 subst eK;intro Za s σ H Q I h;refine Yu (Lr I hg hm hv ?_ (by decide) (by decide));refine callWith_kw (Qb (ha pos Za s σ H _ I h) fun us s1 ⟨vs,H1,I1,r1,q1⟩=>?_) he hpl;obtain⟨p,as,rfl,hS,nd,hz,q⟩:=q1;obtain⟨u,rfl,rx⟩:=Zn r1;cases rx;refine kws_cons (Zhk I1 hT hcode hqual hcl hdef fun f c' oc pm ctv H2 s2 sm I2 hCo hc hf=>kws_nil ?_);show Ra _ _ (call (.builtin "sorted") [.ref p] [("key",.ref f)]) _ _ s2;have q2:=q H2 sm;obtain⟨its,r',pl,hz'⟩:=I2.list (show Yb X.K H2 p (as.map V.ref) from hS.imp (fun z=>z.same sm) id);have hits:=ZaP r';subst hits;refine Zk6 pl.isList (by simpa using hz) fun D kS e1 h3 kk hD hDk oD okS=>?_;have I3:Ca X Za σ H2 { s2 with heap:=h3 }:=I2.kept (t':=s2.toks) kk;have fpD:Um X Za H2 D:=I2.fpOk hD (I2.hok.fresh hD);have hK:s2.heap.objs.size<=kS:=Se hD (Vt hDk);have fpK:Um X Za H2 kS:=I2.fpOk hK (I2.hok.fresh hK);have hne:kS≠D:=Oz hDk;have pinned:∀{H4:Hp}{s4:Ga}{o1 o2:Obj},Ca X Za σ H4 s4->H4 D=none->H4 kS=none->s4.heap.get? D=some o1->s4.heap.get? kS=some o2->(∀v,o1.data≠.cell v)->(∀v,o2.data≠.cell v)->Ca X (Za++[(D,o1),(kS,o2)]) σ H4 s4:=fun {H4 s4 o1 o2} J n1 n2 g1 g2 d1 d2=>by
  refine J.pins_of fun pp hp=>?_;rcases Nc.mp hp with hp|hp
  ·exact J.pin pp (Td _ hp)
  ·rcases Vd.mp hp with rfl|hp
   ·exact⟨g1,n1,fpD.2.1,fpD.2.2.1,d1⟩
   ·rw[Di.mp hp]
    exact⟨g2,n2,fpK.2.1,fpK.2.2.1,d2⟩
 have unpin:∀{H4:Hp}{s4:Ga}{o1 o2:Obj},Ca X (Za++[(D,o1),(kS,o2)]) σ H4 s4->Ca X Za σ H4 s4/\(s4.heap.get? D=some o1/\H4 D=none)/\s4.heap.get? kS=some o2/\H4 kS=none:=fun {H4 s4 o1 o2} J=>by
  have p1:=J.pin (D,o1) (by simp);have p2:=J.pin (kS,o2) (by simp);exact⟨J.pins_of fun pp hp=>J.pin pp (Td _ (Zf _ hp)),⟨p1.1,p1.2.1⟩,p2.1,p2.2.1⟩
 refine Zhc (J:=fun kz s4=>∃H4 vks n,Ca X (Za++[(D,Fd "list" #[] e1),(kS,Fd "list" kz.toArray n)]) σ H4 s4/\(∀b o u,H2 b=some (.frz o u)->H4 b=some (.frz o u))/\Ab vks kz /\
  UC te (Mo js σ) ((as.map V.ref).drop kz.length) H4 (fun ks H3=>∃ys:List Ue,vks++ks=(ys.map fun t=>V.ref t.1)/\(∀t∈ys,Af X.K H3 t.1 (t.2.map V.int)/\t.2.length=2)/\ys.length=as.length /\
   ∀l,H3 l=none->Q (.ref l) (upd H3 l (.lst ((Qh (ys.map (·.2))).map fun i=>V.ref (as.getD i 0)))))) ?_ (by simpa using hz) ?_ ?_
 ·exact⟨H2,[],0,pinned I3 fpD.1 fpK.1 oD okS (fun v z=>nomatch z) (fun v z=>nomatch z),fun _ _ _ z=>z,.nil,q2⟩
 ·rintro kz xv s4 hx ⟨H4,vks,n,I4,fz,rk,hq⟩
  obtain⟨a,ha',rfl⟩:∃a,as[kz.length]?=some a/\Value.ref a=xv:=by
   rw[Dd] at hx;cases z:as[kz.length]? with
   |none=>rw[z] at hx;cases hx
   |some a=>rw[z] at hx;exact⟨a,rfl,Option.some.inj hx⟩
  have hdrop:(as.map V.ref).drop kz.length=V.ref a::(as.map V.ref).drop (kz.length+1):=by
   have hlt:kz.length<(as.map V.ref).length:=by rw[Pb];exact(Cd.mp ha').1
   rw[Tl hlt];congr 1;rw[JD];rw[Cd] at ha';obtain⟨_,e⟩:=ha';rw[e]
  rw[hdrop] at hq;have hr2:Fe k X.A.in1.in1:=hr.in1.in1;refine Vf (Zhj I4 sc hr2.hd hr2.depth I4.ok.frames hCo (fz _ _ _ hc) (fz _ _ _ hf) (hb _ _ _ _) (hbody f c' s4 H4) (v:=V.ref a) rfl hq) (fun kv s5 h5=>?_) fun _ _ z=>z;obtain⟨v5,H5,I5,r5,q5,fz5⟩:=h5;obtain⟨I5',⟨gD,nD⟩,gK,nK⟩:=unpin I5;refine⟨n,gK,fun h' cc sb g'=>⟨H5,vks++[v5],cc, ?_,fun b o u z=>fz5 _ _ _ (fz b o u z),rk.append (.cons r5 .nil), ?_⟩⟩
  ·have I6:Ca X Za σ H5 { s5 with heap:=h' }:=I5'.turned (t':=s5.toks) (it:=kS) (fun b o nb e=>(sb.2 b nb).trans e) nK fpK.2.1 fpK.2.2.2.1 fpK.2.2.2.2.1 fpK.2.2.2.2.2
   exact pinned I6 nD nK ((sb.2 D (Ne.symm hne)).trans gD) g' (fun v z=>nomatch z) (fun v z=>nomatch z)
  ·rw[show (kz++[kv]).length=kz.length+1 by simp]
   simpa[Qf] using q5
 ·rintro kz s4 hkl ⟨H4,vks,n,I4,fz,rk,hq⟩
  obtain⟨I4',⟨gD,nD⟩,gK,nK⟩:=unpin I4;refine⟨n,gK, ?_⟩;rw[TC (by rw[Pb] at hkl ⊢;lia)] at hq;obtain⟨ys,ey,hy,hyl,hQ⟩:=hq;rw[Rs] at ey;subst ey;have hkz:=PM rk;subst hkz;have tup:∀t∈ys,∃vs:LI3,Ab (t.2.map V.int) vs/\IsTup s4.heap t.1 vs.toArray:=fun t ht=>by
   obtain⟨vs,rv,pt,_⟩:=I4'.tuple (hy t ht).1;exact⟨vs,rv,pt⟩
  have hu:∀t∈ys,∀t'∈ys,t.1=t'.1->t.2=t'.2:=fun t ht t' Ad e=>by
   obtain⟨vs,rv,ob,eo,oc,k1,od⟩:=tup t ht;obtain⟨vs',rv',ob',eo',oc',k1',od'⟩:=tup t' Ad;rw[e,eo'] at eo;cases eo;rw[od] at od';have e2:vs.toArray=vs'.toArray:=by injection od'
   have e3:vs=vs':=by simpa using e2
   subst e3;rw[<- (B5 rv).1,<- (B5 rv').1]
  refine ZgZ (tuples' true) (fun x y=>HT.Zc (Ff ys (Ac x)) (Ff ys (Ac y))) (fun v=>as.idxOf (Ac v)) gD gK hne (by simpa using hz) (by simp[hyl]) (fun h2 Q' q'=>?_) (fun x y hx hy' C q'=>?_) (fun x y _ _ h=>Q8 h) (fun x y z _ _ _ h1 h2=>B8 h1 h2) (fun i x hx=>?_) fun h' cc ps k4 p1 p2 g'=>?_
  ·have:∀(ts:List Ue) (its:LI3),(∀t∈ts,t.2≠[]/\∃vs:LI3,Ab (t.2.map V.int) vs/\IsTup s4.heap t.1 vs.toArray)->Ab (ts.map fun t=>V.ref t.1) its->∃fs:LI3,fs.length=ts.length/\PySem.W.KatTups s4.heap its fs/\∀v∈fs,∃n t,v=Value.int n t:=by
    intro ts
    induction ts with
    |nil =>
     intro its _ rv;cases rv;exact⟨[],rfl,trivial,by simp⟩
    |cons t ts ih =>
     intro its ht rv;cases rv with
     |cons rv tv =>
      obtain⟨fs,e1,e2,e3⟩:=ih _ (fun t' h'=>ht t' (Jj _ h')) tv;obtain⟨hne,vs,rvs,ob,eo,oc,k,od⟩:=ht t (Wl ..);obtain⟨n,ns,en⟩:=WC hne;rw[en] at rvs;cases rvs with
      |cons rn tn =>
       obtain⟨tk,rfl⟩:=rn;have rv':_=Value.ref t.1:=rv;subst rv';exact⟨.int n tk::fs,by simp[e1],⟨⟨t.1,ob,_,k,rfl,eo,oc,od,rfl⟩,e2⟩,fun v hv=>(Vd.mp hv).elim (fun z=>⟨n,tk,z⟩) (e3 v)⟩
   obtain⟨fs,e1,e2,e3⟩:=this ys _ (fun t ht=>⟨(fun z=>by have h2:=(hy t ht).2;rw[z] at h2;cases h2),tup t ht⟩) (C4 ys);exact PySem.W.kat_kind (T:=.type "int") e2 (by rw[e1,hyl];rw[Pb] at h2;lia) (fun v hv=>by obtain⟨n,t,rfl⟩:=e3 v hv;exact PySem.W.Looks.of_pure rfl) rfl q'
  ·obtain⟨t,ht,rfl⟩:=Nd.mp hx
   obtain⟨t',Ad,rfl⟩:=Nd.mp hy';obtain⟨vs,rv,ob,eo,oc,k1,od⟩:=tup t ht;obtain⟨vs',rv',ob',eo',oc',k1',od'⟩:=tup t' Ad;refine PySem.W.kat_lt eo od eo' od' (C8 rv rv' ?_ ?_)
   ·simp
   ·rw[show Ac (.ref t.1)=t.1 from rfl,show Ac (.ref t'.1)=t'.1 from rfl,Fm hu ht,Fm hu Ad] at q'
    exact q'
  ·rw[Dd] at hx
   cases z:as[i]? with
   |none=>rw[z] at hx;cases hx
   |some a =>
    rw[z] at hx;have hx:Value.ref a=x:=Option.some.inj hx;subst hx;exact S7 nd z
  ·have mem:∀y∈ps,∃t∈ys,∃i a,as[i]?=some a/\y=(Value.ref t.1,Value.ref a):=fun y hy'=>by
    have hm:=p1.mem_iff.mp hy';obtain⟨i,hi⟩:=Ej hm;rw[Hz,Dd,Dd] at hi;obtain⟨h1,h2⟩:=hi;cases z1:ys[i]? with
    |none=>rw[z1] at h1;cases h1
    |some t =>
     cases z2:as[i]? with
     |none=>rw[z2] at h2;cases h2
     |some a =>
      rw[z1] at h1;rw[z2] at h2;exact⟨t,Zd z1,i,a,z2,Prod.ext (Option.some.inj h1).symm (Option.some.inj h2).symm⟩
   generalize hcmp:(fun y:Aa=>Ff ys (Ac y.1)++[((as.idxOf (Ac y.2):Nat):Int)])=cmp;have up:Nn (ps.map cmp):=by
    refine Zt.mpr (p2.imp_of_mem fun {y z} hy' hz' h=>?_);obtain⟨t,ht,i,a,hi,rfl⟩:=mem y hy';obtain⟨t',Ad,i',a',hi',rfl⟩:=mem z hz';subst hcmp;unfold El at h;dsimp only at h ⊢;rw[show Ac (.ref t.1)=t.1 from rfl,show Ac (.ref t'.1)=t'.1 from rfl,Fm hu ht,Fm hu Ad] at h ⊢;obtain⟨p0,p1,ep⟩:∃p0 p1,t.2=[p0,p1]:=by
     have:=(hy t ht).2
     match t.2,this with
     |[p0,p1],_=>exact⟨p0,p1,rfl⟩
    obtain⟨p0',p1',ep'⟩:∃p0 p1,t'.2=[p0,p1]:=by
     have:=(hy t' Ad).2
     match t'.2,this with
     |[p0,p1],_=>exact⟨p0,p1,rfl⟩
    rw[ep,ep'] at h ⊢;rw[Zh2];exact h
   have hz0:(((ys.map fun t=>Value.ref t.1).zip (as.map Value.ref)).map cmp)=Ap (ys.map (·.2)):=by
    subst hcmp;unfold Ap;apply Vn;intro i;rw[Dd,Dd,List.getElem?_zipIdx,Dd];cases z1:ys[i]? with
    |none =>
     have hl1:=Ts.mp z1;rw[Bi (by rw[Lz,Pb,Pb];lia)];rfl
    |some t =>
     have hi:i<as.length:=by rw[<- hyl];exact(Cd.mp z1).1
     have z2:as[i]?=some as[i]:=Yc hi;rw[show ((ys.map fun t=>Value.ref t.1).zip (as.map Value.ref))[i]?=some (Value.ref t.1,Value.ref as[i]) from by
      rw[Hz,Dd,Dd,z1,z2];exact⟨rfl,rfl⟩]
     simp only[Q6,Option.some.injEq];rw[show Ac (.ref t.1)=t.1 from rfl,Fm hu (Zd z1),show Ac (.ref as[i])=as[i] from rfl,S7 nd z2,Jl]
   have hs:ps.map cmp=Ni (Ap (ys.map (·.2))):=by
    refine Q5 up (Iu _) (((p1.map cmp).trans ?_).trans (Pj _).symm);rw[hz0]
   have hres:((Qh (ys.map (·.2))).map fun i=>V.ref (as.getD i 0))=ps.map fun y=>V.ref (Ac y.2):=by
    unfold Qh;rw[<- hs,Sd,Sd];refine Xk fun y hy'=>?_;obtain⟨t,ht,i,a,hi,rfl⟩:=mem y hy';subst hcmp;show V.ref (as.getD ((Ff ys t.1++[((as.idxOf a:Nat):Int)]).getLastD 0).toNat 0)=V.ref a;rw[VD,Kg,S7 nd hi,Cb,hi];rfl
   have hv:Ab ((Qh (ys.map (·.2))).map fun i=>V.ref (as.getD i 0)) (ps.map (·.2)):=by
    rw[hres];have:=TY (ps.map fun y=>Ac y.2);rw[Sd,Sd] at this;have e2:ps.map (Value.ref∘fun y=>Ac y.2)=ps.map (·.2):=Xk fun y hy'=>by
     obtain⟨t,ht,i,a,hi,rfl⟩:=mem y hy';rfl
    rw[e2] at this;exact this
   have I7:Ca X Za σ H4 { s4 with heap:=h' }:=I4'.turned2 (t':=s4.toks) (it:=kS) (e:=D) (fun b o n1 n2 q=>k4 b o n1 n2 q) fun b hb'=>by
    rcases hb' with rfl|rfl
    ·exact⟨nD,fpD.2.1,fpD.2.2.2.1,fpD.2.2.2.2.1,fpD.2.2.2.2.2⟩
    ·exact⟨nK,fpK.2.1,fpK.2.2.2.1,fpK.2.2.2.2.1,fpK.2.2.2.2.2⟩
   have hsD:X.s₀.heap.objs.size<=D:=Se I2.sz hD;have I8:=I7.adopt (D:=D) (ys:=(Qh (ys.map (·.2))).map fun i=>V.ref (as.getD i 0)) (its:=ps.map (·.2)) (n:=cc) nD hsD fpD.2.1 fpD.2.2.2.2.1 fpD.2.2.2.2.2 g' hv (by
    rw[hv.length,Pb,p1.length_eq,Lz,Pb,Pb];exact Se (Nat.min_le_right _ _) (Il hz))
   exact⟨rfl,.ref D,_,I8,rfl,hQ D nD⟩
end
noncomputable def Qo(m:LI5->Rr PV)(pa pb:PV)(t:LI0):LI0:=match m [Ya t,pa,pb] with
 |.ok (.tup [.int a,.int b])=>[a,b]
 |_=>[]
def WE(m:LI5->Rr PV)(pa pb:PV)(ts:LI1):Prop:=ts.Nodup/\ts.length<=1000000/\∀t∈ts,∃a b,m [Ya t,pa,pb]=.ok (.tup [.int a,.int b])
open Classical in
noncomputable def E9(m:LI5->Rr PV)(pa pb:PV)(xs:LI5):Rr PV:=if h:∃ts:LI1,xs=[.lst (ts.map Ya)]/\WE m pa pb ts then newF ((Qh (h.choose.map (Qo m pa pb))).map fun i=>Ya (h.choose.getD i [])) else .bad
theorem Zjo{m:LI5->Rr PV}{pa pb:PV}{ts:LI1}(h:WE m pa pb ts):E9 m pa pb [.lst (ts.map Ya)]=newF ((Qh (ts.map (Qo m pa pb))).map fun i=>Ya (ts.getD i [])):=by
 have hex:∃us:LI1,[PV.lst (ts.map Ya)]=[.lst (us.map Ya)]/\WE m pa pb us:=⟨ts,rfl,h⟩
 unfold E9;rw[Xl hex];have hs:ts.map Ya=hex.choose.map Ya:=PV.lst.inj (List.cons.inj hex.choose_spec.1).1;have e:hex.choose=ts:=(U5 hs).symm;rw[e]
theorem HG{kz:LI1}{l:LI0}(h:l∈Ap kz):∃i k,kz[i]?=some k/\l=k++[((i:Nat):Int)]:=by
 unfold Ap at h;obtain⟨⟨k,i⟩,hp,rfl⟩:=Nd.mp h;have:=List.mem_zipIdx_iff_getElem?.mp hp;exact⟨i,k,this,rfl⟩
theorem OL{kz:LI1}{i:Nat}(h:i∈Qh kz):i<kz.length:=by
 unfold Qh at h;obtain⟨l,hl,rfl⟩:=Nd.mp h;obtain⟨j,k,hj,rfl⟩:=HG ((Pj _).mem_iff.mp hl);rw[VD,Kg];exact(Cd.mp hj).1
theorem CW:∀{qs:List Ue},(qs.map fun t=>t.2).Nodup->(∀t∈qs,∀t'∈qs,t.1=t'.1->t.2=t'.2)->(qs.map (·.1)).Nodup
 |[],_,_=>List.nodup_nil
 |t::qs,nd,hi=>by
  rw[Ed] at nd ⊢;obtain⟨n1,n2⟩:=Ys.mp nd;refine Ys.mpr ⟨fun z=>?_,CW n2 fun a ha b hb=>hi a (Jj _ ha) b (Jj _ hb)⟩;obtain⟨t',Ad,e⟩:=Nd.mp z;exact n1 (Nd.mpr ⟨t',Ad,hi t' (Jj _ Ad) t (Wl ..) e⟩)
section
variable {K:ZlR}{EX:PX->Hp->Prop}{Γ Γ':List Md}{ta:TA}{fa:LI5->Rr LI5}{m:LI5->Rr PV}
noncomputable abbrev EM(K:ZlR)(m:LI5->Rr PV):TE:=Rl (Tb K 3 .P W0 m) (Dk (Bg 0) (Dk (Bg 1) (Dk (Bg 2) Sl)))
theorem AV{pa pb:PV}{wa wb:V}:∀(qs:List Ue) (H2:Hp) (QQ:List V->Hp->Prop),Ta K H2 (fun _=>True) pa wa->Ta K H2 (fun _=>True) pb wb->(∀t∈qs,Ta K H2 (fun _=>True) (Ya t.2) (V.ref t.1)) ->
  (∀t∈qs,∃a b,m [Ya t.2,pa,pb]=.ok (.tup [.int a,.int b])) ->
  (∀H3 (ys:List Ue),La H2 H3->ys.map (·.2)=qs.map (fun t=>Qo m pa pb t.2)->(∀t∈ys,Af K H3 t.1 (t.2.map V.int)/\t.2.length=2)->QQ (ys.map fun t=>V.ref t.1) H3) ->
  UC (EM K m) [some wa,some wb] (qs.map fun t=>V.ref t.1) H2 QQ
 |[],H2,QQ,_,_,_,_,h=>h H2 [] (La.refl _) rfl (by simp)
 |t::qs,H2,QQ,ra,rb,rq,hm,h=>by
  obtain⟨a,b,e⟩:=hm t (by simp);show EM K m (some (V.ref t.1)::[some wa,some wb]) H2 _;refine⟨_,rfl,_,rfl,_,rfl,fun _=>True,[Ya t.2,pa,pb],⟨_,_,rfl,rq t (by simp),_,_,rfl,ra,_,_,rfl,rb,rfl⟩,rfl, ?_⟩;rw[e];intro v H1 s1 r1;obtain⟨_,p,ws,rfl,hi,hr⟩:=r1;obtain⟨v1,r',rfl,h1,h2⟩:=hr;obtain⟨v2,r'',rfl,h3,h4⟩:=h2;cases h1;cases h3;cases h4;refine AV qs H1 _ (ra.same s1) (rb.same s1) (fun t' Ad=>(rq t' (by simp[Ad])).same s1) (fun t' Ad=>hm t' (by simp[Ad])) fun H3 ys s3 ey hy=>?_;have hk:Qo m pa pb t.2=[a,b]:=by unfold Qo;rw[e]
  refine h H3 ((p,[a,b])::ys) (s1.trans s3) (by rw[Ed,Ed,ey,hk]) fun t' Ad=>?_;rcases Vd.mp Ad with rfl|Ad
  ·exact⟨(s3.im hi).sqT,rfl⟩
  ·exact hy t' Ad
theorem ZeJ{ja jb:Nat}{ma mb:Md}(ha:Ce K EX Γ Γ' ta fa)(h1:Γ'[ja]?=some ma)(hm1:ma≠.U)(h2:Γ'[jb]?=some mb)(hm2:mb≠.U) :
  DE K EX Γ Γ' .F (Za8 K (EM K m) [ja,jb] ta) (fun ρ=>(fa ρ).bind (E9 m (gv ja ρ) (gv jb ρ))):=fun B H0 H σ ρ F R Q A d=>by
 refine ha B H0 H σ ρ F R _ A (d.bind.imp (fun xs _ d vs H1 F1 s1 f1 p1 A1=>?_) fun e q=>q);obtain⟨wa,ea,ra⟩:=A1.getA h1 hm1;obtain⟨wb,eb,rb⟩:=A1.getA h2 hm2;unfold E9 at d
 split at d
 ·rename_i hex
  have hs:=hex.choose_spec;generalize hex.choose=ts at d hs;obtain⟨rfl,nd,hl,hk⟩:=hs;obtain⟨g1,g2,d⟩:=Dn.newF d;obtain⟨v,rfl,a,ws,rfl,hn,hr⟩:=Xi p1;obtain⟨qs,rfl,rfl,e3⟩:=WK hr;have hnd:(qs.map (·.1)).Nodup:=by
   have hinj:∀t∈qs,∀t'∈qs,t.1=t'.1->t.2=t'.2:=fun t ht t' Ad e=>by
    obtain⟨p,us,e1,i1,r1⟩:=(e3 t ht).2;obtain⟨p',us',e1',i1',r1'⟩:=(e3 t' Ad).2;cases e1;cases e1';rw[e] at i1;have h3:=i1.1.symm.trans i1'.1;have h4:us=us':=by injection h3 with h3;injection h3
    subst h4;have h5:=(D4 r1).symm.trans (D4 r1');exact W5 (fun x y h=>by injection h) |>.mp h5
   exact CW nd hinj
  refine⟨a,qs.map (·.1),rfl, ?_,hnd,by simpa using hl,fun H2 sm=>?_⟩
  ·rw[Sd]
   exact Nf (S:=fun _=>True) hn
  have hsel:Mo [ja,jb] σ=[some wa,some wb]:=by
   unfold Mo;rw[Ed,Ed,X5,ea,eb];rfl
  rw[hsel,Sd];refine AV (pa:=gv ja ρ) (pb:=gv jb ρ) qs H2 _ (ra.same sm) (rb.same sm) (fun t ht=>(e3 t ht).2.same sm) (fun t ht=>hk _ (QD ht)) fun H3 ys s3 ey hy=>?_;have eyl:ys.length=qs.length:=by
   have:=Ef List.length ey;rwa [Pb,Pb] at this
  refine⟨ys,rfl,hy,by rw[Pb];exact eyl,fun l hz=>?_⟩;have A3:=A1.grow (sm.trans s3);have hst:Qh (ys.map (·.2))=Qh ((qs.map fun t=>t.2).map (Qo m (gv ja ρ) (gv jb ρ))):=by rw[ey,Sd];rfl
  rw[hst];refine d _ _ ((s1.trans (sm.trans s3)).trans (La.new hz)) (Lc.newP (S:=fun _=>True) (s1.trans (sm.trans s3)) f1 ?_ g1 A3 hz);have hlt:∀i∈Qh ((qs.map fun t=>t.2).map (Qo m (gv ja ρ) (gv jb ρ))),i<qs.length:=fun i hi=>by
   have:=OL hi;simpa using this
  generalize Qh ((qs.map fun t=>t.2).map (Qo m (gv ja ρ) (gv jb ρ)))=is at hlt;clear d g1 g2
  induction is with
  |nil=>exact rfl
  |cons i is ih =>
   have hi:=hlt i (by simp);refine⟨_,_,rfl, ?_,ih fun j hj=>hlt j (by simp[hj])⟩;have:=((e3 qs[i] (Iz hi)).2.same (sm.trans s3))
   dsimp only;rw[Cb,Cb,Dd,Dd,Yc hi];exact this
 ·exact d.elim
end
def UO(K:ZlR)(f:Ja)(Lb:Va):Prop:=∃oc od fd osl,K.lookup f=some ⟨oc,od,.func fd,osl⟩/\fd.code=Lb/\fd.name = "ends_first"
noncomputable def Zhg(K:ZlR)(ts:LI2):Bool:=K.all fun p=>match p.2 with
 |⟨_,_,.func fd,_⟩=>if fd.name = "ends_first" then (match Uj K p.1 with
  |some (_,P)=>ts.contains P&&(K.lookup P).isNone
  |none=>false) else true
 |_=>true
theorem Zhh{K:ZlR}{ts:LI2}{h:Heap}(hc:Zhg K ts=true)(ht:∀P∈ts,h.get? P=some (PySem.W.tabObj #[])):NE K h:=fun f c P e=>by
 have e0:=e;unfold Uj at e
 split at e
 ·rename_i oc od fd osl hk
  have hm:=Ah.mp hc _ (PySem.W.mem_of_lookupK hk);dsimp only at hm
  split at e
  ·rename_i hn
   rw[Da hn,e0] at hm;simp only[Bool.and_eq_true,Ru] at hm;exact⟨ht _ hm.1,Option.isNone_iff_eq_none.mp hm.2⟩
  ·cases e
 ·cases e
noncomputable def CV(K:ZlR):Bool:=K.all fun p=>match p.2 with
 |⟨_,_,.func fd,_⟩=>if fd.name = "ends_first" then (Uj K p.1).isSome else true
 |_=>true
theorem Zhi{K:ZlR}{f:Ja}{Lb:Va}(hc:CV K=true)(hf:UO K f Lb):∃c P,Uj K f=some (c,P)/\Lb=.ref c:=by
 obtain⟨oc,od,fd,osl,hk,e1,e2⟩:=hf;have hm:=Ah.mp hc _ (PySem.W.mem_of_lookupK hk);dsimp only at hm;rw[Da e2] at hm;cases e:Uj K f with
 |none=>rw[e] at hm;cases hm
 |some cp =>
  obtain⟨c,P⟩:=cp;refine⟨c,P,rfl, ?_⟩;unfold Uj at e;rw[hk] at e;dsimp only at e;rw[Da e2,e1] at e;cases Lb with
  |ref c0 =>
   dsimp only at e
   split at e
   ·split at e
    ·split at e
     ·cases e;rfl
     ·cases e
    ·cases e
   ·cases e
  |_=>cases e
section
variable {P:Bc}{w:Jc}{K:ZlR}{mg:Str->Option Va}{base:Heap}
theorem Xb.okL{qual:Str}{st:Kb}{f:Ja}{fd:Fk}{N ps:List Str}{k n l:Nat}{kd:Kd}{m:LI5->Rr PV}(F:Xb K "ends_first" qual st f fd)(S:Uc N ps (Mb st))(hn:ps.length=n)(hl:N.length-n=l)(hbody:∀(Lb:Va) (A:Pd) (outer:List Env) (s:Ga) (H:Hp) (E:XK),UO K f Lb->Fe k (A.deeper (envOfC qual (Mb st) s.heap.objs.size f Lb)) ->
   ∃t g Y,Y.r=kd/\Wg (Gi Fc P w K mg base N qual (Mb st) f Lb A outer s H E).nox (Dl st) t/\DS K X0 (List.replicate n .S++List.replicate l .U) Y t g/\∀xs,Fv (m xs) (g (xs++List.replicate l .non)).out)(hkN:kd≠.N:=by nofun)(hkM:kd≠.M:=by nofun) :
  Wb P w K mg base Fc (k+1) f fd ps (Tb K n kd W0 m):=by
 obtain⟨oc,od,kV,doc,pm,an,Lb,ct,osl,rfl,lk,hcd⟩:=F.ex;refine HH lk hcd S (fun vs H Q E h=>?_) (fun A outer s H vs Q E hr h=>?_)
 ·obtain⟨B,xs,h1,h2,_⟩:=h
  rw[h1.length,h2,hn]
 ·obtain⟨B,xs,h1,h2,dn⟩:=h
  obtain⟨t,g,Y,hY,ht,hd,href⟩:=hbody Lb A outer s H E ⟨_,_,_,_,lk,rfl,rfl⟩ hr;refine⟨t,ht.nox, ?_⟩;have A0:=Ag.init (n:=l) h1;have est:Dj N vs=vs.map some++List.replicate l none:=by
   unfold Dj;rw[h1.length,h2,hl]
  rw[est];rw[h2] at A0;refine hd _ H H _ _ _ _ A0 ?_;have hdn:Dn (g (xs++List.replicate l .non)).out (fun x=>∀v H',La H H'->Ul K B H kd x v H'->Q v H') (fun e=>∀H',La H H'->W0 e E H'):=by
   rcases href xs with e|e
   ·rw[e] at dn;exact dn.elim
   ·rw[<- e];exact dn
  have retK:∀{x v H'},Ul K (fun a=>B a\/H a=none) H kd x v H'->Ul K B H kd x v H':=fun {x v H'} h=>by
   cases kd with
   |P=>exact h
   |F=>exact h
   |T=>exact Ta.mono (fun a us s r=>⟨r,s.elim id .inr⟩) (fun a us r=>r) h
   |Z=>exact Ta.mono (fun a us s r=>⟨r,s.elim id .inr⟩) (fun a us r=>r) h
   |A=>exact Ta.mono (fun a us s r=>⟨r,s.elim id .inr⟩) (fun a us r=>r) h
   |N=>exact h
   |M=>exact h
  cases e:g (xs++List.replicate l .non) with
  |next ρ =>
   rw[e] at hdn;refine fun σ' H' F' fr A'=>hdn .non H' A'.same ?_;cases kd with
   |P=>exact⟨rfl,rfl⟩
   |F=>exact⟨[],⟨rfl,rfl⟩,by simp⟩
   |T=>exact rfl
   |Z=>exact rfl
   |A=>exact rfl
   |N=>exact Eb rfl hkN
   |M=>exact Eb rfl hkM
  |ret x=>rw[e] at hdn;exact fun v H' s r=>hdn v H' s (retK (hY▸r))
  |exc q=>rw[e] at hdn;exact fun H' s=>hdn H' s
  |brk ρ=>rw[e] at hdn;exact hdn.elim
  |cont ρ=>rw[e] at hdn;exact hdn.elim
  |bad=>rw[e] at hdn;exact hdn.elim
end
theorem ZdB(kz:LI1):(Qh kz).Perm (List.range kz.length):=by
 unfold Qh;refine((Pj (Ap kz)).map _).trans (List.Perm.of_eq ?_);unfold Ap;rw[Sd];apply Vn;intro i;rw[Dd,List.getElem?_zipIdx];by_cases hi:i<kz.length
 ·rw[Yc hi,Rq hi]
  simp only[Q6,Function.comp,Option.some.injEq];rw[VD];lia
 ·rw[Bi (by lia),Bi (by simpa using hi)]
  rfl
theorem SI{α:Type}(ts:List α)(d:α):(List.range ts.length).map (fun i=>ts.getD i d)=ts:=by
 apply Vn;intro i;rw[Dd];by_cases hi:i<ts.length
 ·rw[Rq hi,Yc hi,Q6,Cb,Yc hi];rfl
 ·rw[Bi (by simpa using hi),Bi (by lia)];rfl
theorem ZkI{α:Type}{ts:List α}{d:α}{kz:LI1}(h:kz.length=ts.length):((Qh kz).map fun i=>ts.getD i d).Perm ts:=by
 refine((ZdB kz).map _).trans (List.Perm.of_eq ?_);rw[h,SI]
theorem Zh3{k k':LI0}{a b:Int}(hl:k.length=k'.length)(h:HT.Zc (k++[a]) (k'++[b])=false):HT.Zc k k'=false:=by
 induction k generalizing k' with
 |nil =>
  cases k' with
  |nil=>rfl
  |cons y k'=>simp at hl
 |cons x k ih =>
  cases k' with
  |nil=>simp at hl
  |cons y k' =>
   have hl:k.length=k'.length:=by simpa using hl
   rw[Pu,Pu] at h;unfold HT.Zc at h ⊢;by_cases hx:x=y
   ·simp only[hx,if_true] at h ⊢
    first|exact ih hl h|simp_all
   ·simp only[hx,if_false] at h ⊢
    first|exact h|simp_all
theorem ZkJ{kz:LI1}(h2:∀k∈kz,k.length=2):((Qh kz).map fun i=>kz.getD i []).Pairwise fun x y=>HT.Zc y x=false:=by
 have hu:=Iu (Ap kz);unfold Qh;rw[Sd,Zt];refine hu.imp_of_mem fun {x y} hx hy h=>?_;obtain⟨i,k,hi,rfl⟩:=HG ((Pj _).mem_iff.mp hx);obtain⟨j,k',hj,rfl⟩:=HG ((Pj _).mem_iff.mp hy);simp only[Function.comp,VD,Kg];rw[Cb,Cb,hi,hj];show HT.Zc k' k=false;exact Zh3 (by rw[h2 _ (Zd hi),h2 _ (Zd hj)]) h
theorem Zio(a d:Va):argsOk "max" ⟨[a],[("default",d)]⟩:=by unfold argsOk;kernel_rfl
theorem L8:(toString "max" ++ toString ".loop":String) = "max.loop":=by decide
section
variable {prog:Bc}{w:Jc}{A:Pd}{R:Result->Ga->Prop}{I S:Ja}{fp wr:LI2}{n:Nat}{P:Nat->Va->Prop}{St:Nat->Heap->Prop}{d:Va}
def Zbk(bt:Nat->Nat->Bool)(P:Nat->Va->Prop)(j:Nat)(xs:Array Va):Prop:=(j=0/\xs=#[])\/∃i v,j=i+1/\P (argBest bt i) v/\xs=#[v,v]
theorem Ziq(W:Walks prog w A.in1 I fp wr n P St)(bt:Nat->Nat->Bool)(hc:CmpOf prog w A.in1 .Gt P bt)(hS:S ∉ fp):∀(m j:Nat) (s:Ga) (xs:Array Va) (c:Nat),n=j+m->St j s.heap->Zbk bt P j xs ->
  s.heap.get? S=some { cls:=.type "list",dict:=none,data:=.seq xs c,slots:=#[] } ->
  (∀v h' tk,(n=0/\v=d\/∃i,n=i+1/\P (argBest bt i) v)->(∀b o,b ∉ wr->b≠S->s.heap.get? b=some o->h'.get? b=some o)->R (.ok (.ret v)) { s with heap:=h',toks:=tk }) ->
  codeAny (Na prog w) A (.builtin "max.loop" ⟨[.ref I,.none,.ref S],[("default",d)]⟩) R s:=by
 have sw:S ∉ wr:=fun z=>hS (W.sub _ z);intro m
 induction m with
 |zero =>
  intro j s xs c hn st hb so hR;refine MD F.entry_max_loop (by
   rw[Around.under_plainId F.plain_max_loop _];refine Ia (m:=seqItems? (.ref S)) (wpAny_seqItems so rfl (Ia (m:=tryCatch (pyNext (.ref I)) _) (wpAny_tryCatch (W.done s _ _ (by rw[hn];exact st) fun h1 tk1 k1=>?_))));have so1:=k1 S _ sw so;rcases hb with ⟨rfl,rfl⟩|⟨i,v,rfl,pv,rfl⟩
   ·exact Ia (m:=rule _) (Fn (Ib (hR d h1 tk1 (.inl ⟨by lia,rfl⟩) fun b o nb _ e=>k1 b o nb e)))
   ·refine Ia (m:=updateSeq S fun _=>#[]) (Q0 so1 rfl (Ia (V0 (Ib (hR v _ tk1 (.inr ⟨i,by lia,pv⟩) fun b o nb nS e=>?_)))))
    exact(Heap.get?_update_other _ _ (Ne.symm nS)).trans (k1 b o nb e))
 |succ m ih =>
  intro j s xs c hn st hb so hR;refine MD F.entry_max_loop (by
   rw[Around.under_plainId F.plain_max_loop _];refine Ia (m:=seqItems? (.ref S)) (wpAny_seqItems so rfl (Ia (m:=tryCatch (pyNext (.ref I)) _) (wpAny_tryCatch (W.item j s _ _ (by lia) st fun v h1 tk1 pv st1 k1=>?_))));have so1:=k1 S _ sw so;have away:∀(f:Obj->Obj) b,b∈fp->∀o,h1.get? b=some o->(h1.update S f).get? b=some o:=fun f b hb o e=>(Heap.get?_update_other _ _ (fun z:S=b=>hS (by rw[z];exact hb))).trans e;rcases hb with ⟨rfl,rfl⟩|⟨i,vb,rfl,pb,rfl⟩
   ·refine Ia (m:=updateSeq S fun _=>#[v,v]) (Q0 so1 rfl ?_)
    rw[L8];exact Ib ⟨Yz F.plain_max_loop _,ih 1 _ _ _ (by lia) (W.frame _ _ _ st1 (away _)) (.inr ⟨0,v,rfl,pv,rfl⟩) (Heap.get?_update_self _ so1 rfl) fun v2 h2 tk2 p2 k2=>hR v2 h2 tk2 p2 fun b o nb nS e=>k2 b o nb nS ((Heap.get?_update_other _ _ (Ne.symm nS)).trans (k1 b o nb e))⟩
   ·refine Ia (m:=tryCatch (holding [v,v] (richCompare .Gt v vb >>= _)) _) (wpAny_tryCatch ?_)
    refine Tj (Ia (hc (i+1) (argBest bt i) v vb _ _ _ pv pb ?_));refine Ia (Tj (Wq (Ia (V0 (Ib ?_)))));cases hbt:bt (i+1) (argBest bt i) with
    |true =>
     rw[Da rfl];refine Ia (m:=updateSeq S fun _=>#[v,v]) (Q0 so1 rfl (Ia (V0 ?_)));rw[L8];exact Ib ⟨Yz F.plain_max_loop _,ih (i+2) _ _ _ (by lia) (W.frame _ _ _ st1 (away _)) (.inr ⟨i+1,v,rfl,by simp only[argBest,hbt,if_true];exact pv,rfl⟩) (Heap.get?_update_self _ so1 rfl) fun v2 h2 tk2 p2 k2=>hR v2 h2 tk2 p2 fun b o nb nS e=>k2 b o nb nS ((Heap.get?_update_other _ _ (Ne.symm nS)).trans (k1 b o nb e))⟩
    |false =>
     rw[Qa (by simp)];refine Ia (V0 ?_);rw[L8];exact Ib ⟨Yz F.plain_max_loop _,ih (i+2) _ _ c (by lia) st1 (.inr ⟨i+1,vb,rfl,by simp only[argBest,hbt,Bool.false_eq_true,if_false];exact pb,rfl⟩) so1 fun v2 h2 tk2 p2 k2=>hR v2 h2 tk2 p2 fun b o nb nS e=>k2 b o nb nS (k1 b o nb e)⟩)
variable {E:Va->Ga->Prop}{s:Ga}{l:Ja}{zs:Array (Int×Tok)}
theorem Zip{Q:Va->Ga->Prop}(hh:A.handled=none)(hl:s.heap.IsList l (intItems zs))(h:∀v h' tk,(zs.size=0/\v=d\/∃i,zs.size=i+1/\(intItems zs)[argBest (fun i j=>decide (numAt zs i>numAt zs j)) i]?=some v)->(∀b o,s.heap.get? b=some o->h'.get? b=some o)->Q v { s with heap:=h',toks:=tk }) :
  Ra (Na prog w) A (call (.builtin "max") [.ref l] [("default",d)]) Q E s:=by
 refine J0 (codeAny_call_builtin F.plain_max F.entry_max ?_);have hsz:(intItems zs).size=zs.size:=by simp[intItems]
 have go:Ra (Na prog w) A.in1 (Builtin.«max» ⟨[.ref l],[("default",d)]⟩) (fun fi s2=>match fi with
   |.done g=>(match (Except.ok g:Result) with|.ok (.ret u)=>Q u s2|.ok _=>False|.error x=>E x s2)
   |.again g=>g.quiet=true/\codeAny (Na prog w) A g (fun r s3=>match r with|.ok (.ret u)=>Q u s3|.ok _=>False|.error x=>E x s3) s2) E s:=by
  refine Ia (m:=Builtin.Builtins.bindParams "max" ["key", "default"] 0 ⟨[],[("default",d)]⟩) (wpAny_of_eq (show Builtin.Builtins.bindParams "max" ["key", "default"] 0 ⟨[],[("default",d)]⟩=pure [none,some d] from rfl) (Ia (Ib (Ia (iter_intList hl fun s2 e st hf hne=>Ia (D6 ?_))))));subst e;rw[L8];refine Ib ⟨Yz F.plain_max_loop _,Ziq (W:=Walks.list (A:=A.in1) hh _ l hne (intItems zs)) _ (CmpOf.ints_gt (numAt zs) fun _ _=>intItems_at) (fun z=>Zl _ (hf _ z)) (intItems zs).size 0 _ _ _ (Jl _).symm ?_ (.inl ⟨rfl,rfl⟩) (Heap.get?_push_size _ rfl) fun v h' tk hv hk=>h v h' tk ?_ fun b o e=>?_⟩
  ·exact(Walks.list (A:=A.in1) (prog:=prog) (w:=w) hh _ l hne (intItems zs)).frame 0 _ _ st fun b _ o e=>Heap.get?_push_of_some _ e
  ·rw[hsz] at hv;exact hv
  ·have n1:b ∉ [s.heap.objs.size]:=fun z=>Zl s.heap.objs.size (by have:=Heap.lt_size e;rw[Di.mp z] at this;exact this)
   exact hk b o n1 (Jf (Heap.lt_size (Heap.get?_push_of_some _ e))) (Heap.get?_push_of_some _ (Heap.get?_push_of_some _ e))
 simp only[checkBuiltinCall,F.kind_max];cases hsig:Manifest.signature? "max" with
 |none=>exact Ib go
 |some sig =>
  have ha':Bind.checkArgs "max" sig ⟨[.ref l],[("default",d)]⟩=pure ():=by simpa only[argsOk,hsig] using Zio (.ref l) d
  simp only[ha']
  first|exact go|exact Ib go|exact Ia (Ib go)
end
section
variable {X:Cx}{e:Expr}{ta:TE}{np kp pos:Pos}
noncomputable def Zay(K:ZlR)(i0:Int)(ta:TA):TE:=fun σ H Q=>ta σ H fun xs H1=>∃p,∃ns:LI0,xs=[.ref p]/\Yb K H1 p (ns.map V.int)/\∀m,(ns=[]->m=i0)->(ns≠[]->m∈ns/\∀a∈ns,a<=m)->Q (.int m) H1
theorem ZjE{K:ZlR}{i0:Int}{ta:TA}(hc:X.calm=true)(hg:Gl X "max")(hm:X.mg "max"=none)(hv:Gh "max"=some (.builtin "max"))(ha:PA X [e] ta)(hd:PE X d0 (tC (.int i0)))(he:Fh pos (Tc [e] X.env)=(false,eval e X.env)::Fh pos (Tc [] X.env):=by rfl)(hpl:(Fh pos (Tc [e] X.env)).any (·.1)=false:=by rfl)(eK:X.K=K:=by rfl) :
  PE X (.Call (.Name "max" np) [e] [⟨some "default",d0,kp⟩] pos) (Zay K i0 ta):=by
 subst eK;intro Za s σ H Q I h;refine Yu (Lr I hg hm hv ?_ (by decide) (by decide));refine callWith_kw (Qb (ha pos Za s σ H _ I h) fun us s1 ⟨vs,H1,I1,r1,q1⟩=>?_) he hpl;obtain⟨p,ns,rfl,hS,q⟩:=q1;obtain⟨u,rfl,rx⟩:=Zn r1;cases rx;refine kws_cons (Qb (hd Za s1 σ H1 (fun v H'=>v=.int i0/\H'=H1) I1 ⟨rfl,rfl⟩) fun du s2 ⟨dv,H2,I2,r2,q2⟩=>kws_nil ?_);obtain⟨rfl,rfl⟩:=q2;obtain⟨t2,rfl⟩:=r2;show Ra _ _ (call (.builtin "max") [.ref p] [("default",Value.int i0 t2)]) _ _ s2;obtain⟨its,r',pl,hz⟩:=I2.list hS;have hi:IntsAre its ns:=VI r';obtain⟨zs,e⟩:=hi.allInts.items;have hns:ns=zs.toList.map (·.1):=by rw[<- hi.numsOf,<- nums_intItems,<- e]
 have hl:=pl.isList;rw[e] at hl;refine Zip (I2.ok.hd hc) hl fun v h' tk hv hk=>?_;rcases hv with ⟨z0,rfl⟩|⟨i,z1,hv⟩
 ·have n0:ns=[]:=by
   rw[hns];have:zs.toList.length=0:=by rw[Oe];exact z0
   rw[List.length_eq_zero_iff.mp this];rfl
  exact⟨.int i0,H2,I2.kept hk,⟨_,rfl⟩,q _ (fun _=>rfl) fun z=>Eb n0 z⟩
 ·obtain⟨t,rfl⟩:=intItems_at hv
  obtain⟨h1,h2⟩:=argBest_gt (numAt zs) i;have n1:ns≠[]:=fun z=>by
   have:=Ef List.length (hns.symm.trans z);rw[Pb,Oe,z1] at this;simp at this
  refine⟨.int _,H2,I2.kept hk,⟨_,rfl⟩,q _ (fun z=>Eb z n1) fun _=>⟨?_,fun a ha=>?_⟩⟩
  ·rw[hns,numAt_eq];exact getD_mem (by rw[Pb,Oe];lia)
  ·rw[hns] at ha
   obtain⟨j,hj,rfl⟩:=mem_getD ha;rw[Pb,Oe] at hj;rw[<- numAt_eq];exact h2 j (by lia)
end
noncomputable def OJ(i0:Int):LI5->Rr PV:=Eo fun ns=>.ok (.int (if ns=[] then i0 else Bo ns))
theorem Zjh{i0:Int}{ns:LI0}:OJ i0 [.lst (ns.map PV.int)]=.ok (.int (if ns=[] then i0 else Bo ns)):=by
 unfold OJ Eo;simp only[Zg6]
section
variable {K:ZlR}{EX:PX->Hp->Prop}{Γ Γ':List Md}{ta:TA}{fa:LI5->Rr LI5}
theorem ZeD{i0:Int}(ha:Ce K EX Γ Γ' ta fa):DE K EX Γ Γ' .P (Zay K i0 ta) (fun ρ=>(fa ρ).bind (OJ i0)):=by
 show DE K EX Γ Γ' .P (Zj (fun xs H1 Q=>∃p,∃ns:LI0,xs=[.ref p]/\Yb K H1 p (ns.map V.int)/\∀m,(ns=[]->m=i0)->(ns≠[]->m∈ns/\∀a∈ns,a<=m)->Q (.int m) H1) ta) _;refine Sv (fun {H xs vs Q} h z e=>?_) (LJ fun ns e h=>by cases h) ha;obtain⟨ns,rfl,e'⟩:=Rr.ints e;cases e';obtain⟨v,rfl,h1⟩:=Xi h;obtain⟨a,rfl,h2⟩:=OK h1;refine⟨rfl,fun q=>⟨a,ns,rfl,h2,fun m h0 hm=>?_⟩⟩;by_cases hn:ns=[]
 ·rw[h0 hn]
  rw[Da hn] at q;exact q _ rfl
 ·rw[Qa hn] at q
  obtain⟨m1,m2⟩:=hm hn;rw[ZhX m1 m2];exact q _ rfl
end
end L2
namespace My
open PySem PySem.Spec PyProof.Rows L2
noncomputable def Jh(n:Nat)(l:LI0)(p:Int):Nat:=((List.range (n+1)).find? fun(k:Nat)=>decide (1<=k/\(p+(k:Int))%n∈l)).getD 0
structure Zbn(n:Nat)(l:LI0)(p:Int)(d:Nat):Prop where
 d1:1<=d
 dn:d<n
 at_:(p+(d:Int))%n∈l
 min:∀k:Nat,1<=k->k<d->(p+(k:Int))%n ∉ l
theorem Zfr:∀{m:Nat}{f:Nat->Bool}{k:Nat},(List.range m).find? f=some k->f k=true/\k<m/\∀j,j<k->f j=false:=fun {m f k} h=>by
 have h1:=List.find?_some h;have h2:=Dh.mp (List.mem_of_find?_eq_some h);refine⟨h1,h2,fun j hj=>?_⟩;rw[List.find?_eq_some_iff_append] at h;obtain⟨_,as,bs,e,hn⟩:=h;have Ge:as.length=k:=by
  have e1:(List.range m)[as.length]?=some k:=by rw[e,Lg (Db _)];simp
  rw[Rq (by
   have:=Ef List.length e;rw[QN,Gj,Ci] at this;lia)] at e1
  exact Option.some.inj e1
 have e2:as[j]?=some j:=by
  have:(List.range m)[j]?=some j:=Rq (by lia);rw[e,Lh (by lia)] at this;exact this
 have:=hn j (Zd e2);simpa using this
theorem O7{n:Nat}{l:LI0}{p:Int}(h0:0<=p)(h1:p<n)(hp:p ∉ l)(hl:∃q∈l,0<=q/\q<n):Zbn n l p (Jh n l p):=by
 unfold Jh;cases hf:(List.range (n+1)).find? fun(k:Nat)=>decide (1<=k/\(p+(k:Int))%n∈l) with
 |none =>
  exfalso;obtain⟨q,hq,q0,q1⟩:=hl;have hn:=XC.mp hf;have hne:q≠p:=fun z=>hp (by rw[<- z];exact hq);have m:=K8 (n:=n) q0 q1 h0 h1;have:=hn ((q-p)%n).toNat (Dh.mpr (by rw[m];split<;>lia));apply this;refine Hb ⟨by rw[m];split<;>lia, ?_⟩;have e:(p+(((q-p)%n).toNat:Int))%n=q:=by
   rw[m]
   split
   ·rw[show p+((q-p).toNat:Int)=q by lia];exact Pk q0 q1
   ·rw[show p+((q-p+n).toNat:Int)=q+n by lia,RC];exact Pk q0 q1
  rw[e];exact hq
 |some k =>
  obtain⟨a,b,c⟩:=Zfr hf;have a:=Ei a;rw[U6];refine⟨a.1, ?_,a.2,fun j j1 j2 z=>?_⟩
  ·have:k≠n:=fun z=>by
    have a2:=a.2;rw[z,RC,Pk h0 h1] at a2;exact hp a2
   lia
  ·have:=c j j2
   rw[Hb ⟨j1,z⟩] at this;cases this
noncomputable def Re(n:Nat)(f:Nat->Int):Int:=((List.range n).map f).sum
theorem Ol(n:Nat)(f:Nat->Int):Re (n+1) f=Re n f+f n:=by
 unfold Re;rw[CD,Po,List.sum_append];simp
theorem YB{n:Nat}{f g:Nat->Int}(h:∀i,i<n->f i<=g i):Re n f<=Re n g:=by
 induction n with
 |zero=>exact Pq _
 |succ n ih =>
  rw[Ol,Ol];have:=ih fun i hi=>h i (by lia);have:=h n (by lia);lia
theorem XB{n:Nat}{f g:Nat->Int}(h:∀i,i<n->f i=g i):Re n f=Re n g:=
 Int.le_antisymm (YB fun i hi=>Int.le_of_eq (h i hi)) (YB fun i hi=>Int.le_of_eq (h i hi).symm)
theorem ZkL{n:Nat}{f g:Nat->Int}(h:∀i,i<n->f i<=g i){r:Nat}(hr:r<n)(hs:f r<g r):Re n f<Re n g:=by
 induction n with
 |zero=>lia
 |succ n ih =>
  rw[Ol,Ol];by_cases e:r=n
  ·subst e
   have:=YB (n:=r) fun i hi=>h i (by lia);lia
  ·have:=ih (fun i hi=>h i (by lia)) (by lia)
   have:=h n (by lia);lia
theorem R4(n:Nat)(f g:Nat->Int):Re n (fun i=>f i+g i)=Re n f+Re n g:=by
 induction n with
 |zero=>rfl
 |succ n ih=>rw[Ol,Ol,Ol,ih];lia
theorem ZkM(n:Nat)(c:Int)(f:Nat->Int):Re n (fun i=>f i*c)=Re n f*c:=by
 induction n with
 |zero=>simp[Re]
 |succ n ih=>rw[Ol,Ol,ih,Int.add_mul]
theorem Zae{n:Nat}{p:Nat}(hp:p<n)(v:Int):Re n (fun i=>if i=p then v else 0)=v:=by
 induction n with
 |zero=>lia
 |succ n ih =>
  rw[Ol];by_cases e:p=n
  ·subst e
   rw[Da rfl];have:Re p (fun i=>if i=p then v else 0)=Re p (fun _=>0):=XB fun i hi=>Qa (by lia);rw[this];have z:∀m,Re m (fun _=>(0:Int))=0:=fun m=>by
    induction m with
    |zero=>rfl
    |succ m ih=>rw[Ol,ih];rfl
   rw[z];lia
  ·rw[ih (by lia),Qa (fun z=>e z.symm)];lia
theorem PL:∀(x:LI0),Re x.length (fun i=>x.getD i 0)=x.sum:=fun x=>by
 unfold Re;congr 1;exact SI x 0
theorem LH(n:Nat)(l:LI0)(g:Int->Int):((Ha n l).map g).sum=Re n fun i=>if (i:Int)∈l then 0 else g i:=by
 unfold Ha;rw[Sd]
 induction n with
 |zero=>rfl
 |succ n ih =>
  rw[Ol,CD,List.filter_append,Po,List.sum_append,ih];by_cases e:(n:Int)∈l
  ·simp[e]
  ·simp[e]
noncomputable def Uo(n:Nat)(l:LI0)(x:LI0):LI0:=[((Ha n l).map fun p=>x.getD p.toNat 0).sum,((Ha n l).map fun p=>x.getD p.toNat 0*(Jh n l p:Int)).sum]
theorem ZkF{n:Nat}{s:Int}{l x:LI0}(hB:Bs n s x)(hl:∃q∈l,0<=q/\q<n){p:Int}(hp:p∈Ha n l)(hx:0<x.getD p.toNat 0):HT.Zc (Uo n l (Ee x p)) (Uo n l x)=true:=by
 obtain⟨⟨p0,p1⟩,pl⟩:=Hw.mp hp;obtain⟨hn,nn,sm⟩:=hB;have D:=O7 p0 p1 pl hl;generalize hd:Jh n l p=d at D;have hB':=Bs.sow (b:=x) ⟨hn,nn,sm⟩ p0 p1;have get:∀i,i<n->(Ee x p).getD i 0=(if (i:Int)=p then 0 else x.getD i 0)+x.getD p.toNat 0/n+Kq n p (x.getD p.toNat 0%n) i:=fun i hi=>by
  rw[ZkB (by lia)];unfold Yi Gu;rw[hn]
 have h0:=Int.ediv_nonneg (Int.le_of_lt hx) (show (0:Int)<=n by lia);have key2:∀a b c e:Int,(a<c\/(a=c/\b<e))->HT.Zc [a,b] [c,e]=true:=fun a b c e h=>by
  unfold HT.Zc HT.Zc HT.Zc;by_cases h1:a=c
  ·have:b<e:=by lia
   by_cases h2:b=e
   ·lia
   ·simp[h1,h2,this]
  ·have:a<c:=by lia
   simp[h1,this]
 unfold Uo;apply key2;have whole:∀y:LI0,y.length=n->Re n (fun i=>if (i:Int)∈l then y.getD i 0 else 0)+((Ha n l).map fun p=>y.getD p.toNat 0).sum=y.sum:=fun y hy=>by
  rw[LH n l fun p=>y.getD p.toNat 0,<- R4,<- PL y,hy];refine XB fun i hi=>?_;by_cases e:(i:Int)∈l
  ·rw[Da e,Da e];lia
  ·rw[Qa e,Qa e,Kg];lia
 have w1:=whole x hn;have w2:=whole (Ee x p) hB'.1;have hsum:(Ee x p).sum=x.sum:=by rw[hB'.2.2,sm]
 have grow:∀i,i<n->(if (i:Int)∈l then x.getD i 0 else 0)<=(if (i:Int)∈l then (Ee x p).getD i 0 else 0):=fun i hi=>by
  by_cases e:(i:Int)∈l
  ·rw[Da e,Da e,get i hi,Qa (fun z=>pl (by rw[<- z];exact e))]
   have:=IL n p (x.getD p.toNat 0%n) i;lia
  ·rw[Qa e,Qa e];exact Pq _
 by_cases c:(d:Int)<=x.getD p.toNat 0
 ·left
  have hr0:=Oq (p+(d:Int)) (show (n:Int)≠0 by lia);have hr1:=Nq (p+(d:Int)) (show (0:Int)<n by lia);have hrl:=D.at_;have hmod:=G3 p0 p1 (show (0:Int)<=(d:Int) by lia) (show (d:Int)<n from by have:=D.dn;lia);generalize hr:(p+(d:Int))%n=r at hr0 hr1 hrl hmod;have hrn:r.toNat<n:=by lia
  have strict:=ZkL grow (r:=r.toNat) hrn (by
   rw[Da (by rw[Sk hr0];exact hrl),Da (by rw[Sk hr0];exact hrl),get _ hrn,Sk hr0,Qa (fun z=>pl (by rw[<- z];exact hrl))];by_cases big:(n:Int)<=x.getD p.toNat 0
   ·have:1<=x.getD p.toNat 0/n:=Int.le_ediv_of_mul_le (by lia) (by lia)
    have:=IL n p (x.getD p.toNat 0%n) r.toNat;lia
   ·rw[Pk (by lia) (by lia),O4]
    ·lia
    ·rw[Sk hr0]
     have m2:=K8 (n:=n) hr0 hr1 p0 p1;have:=D.d1;have:=D.dn;rw[m2]
     split at hmod<;>split<;>lia)
  lia
 ·right
  have hq:x.getD p.toNat 0/n=0:=Int.ediv_eq_zero_of_lt (by lia) (by have:=D.dn;lia);have hm:x.getD p.toNat 0%n=x.getD p.toNat 0:=Pk (by lia) (by have:=D.dn;lia);generalize hh:x.getD p.toNat 0=h at *;have near:∀i:Nat,i<n->1<=((i:Int)-p)%n->((i:Int)-p)%n<=h->(i:Int) ∉ l/\(Jh n l i:Int)<=(d:Int)-1:=fun i hi k1 k2=>by
   obtain⟨k,k1,k2,k3⟩:∃k:Nat,1<=k/\(k:Int)<=h/\(p+(k:Int))%n=i:=by
    refine⟨(((i:Int)-p)%n).toNat,by lia,by lia, ?_⟩;have m2:=K8 (n:=n) (show (0:Int)<=(i:Int) by lia) (by lia) p0 p1;rw[Sk (by lia),m2]
    split
    ·rw[show p+((i:Int)-p)=i by lia];exact Pk (by lia) (by lia)
    ·rw[show p+((i:Int)-p+n)=i+n by lia,RC];exact Pk (by lia) (by lia)
   have hil:(i:Int) ∉ l:=fun z=>by
    have:=D.min k k1 (by lia);rw[k3] at this;exact this z
   refine⟨hil, ?_⟩;have D':=O7 (l:=l) (show (0:Int)<=(i:Int) by lia) (by lia) hil hl;apply Classical.byContradiction;intro z;have:=D'.min (d-k) (by lia) (by lia);apply this;have e:((i:Int)+((d-k:Nat):Int))%n=(p+(d:Int))%n:=by
    rw[<- k3,Int.emod_add_emod];congr 1;lia
   rw[e];exact D.at_
  have same:Re n (fun i=>if (i:Int)∈l then (Ee x p).getD i 0 else 0)=Re n (fun i=>if (i:Int)∈l then x.getD i 0 else 0):=XB fun i hi=>by
   by_cases e:(i:Int)∈l
   ·rw[Da e,Da e,get i hi,Qa (fun z=>pl (by rw[<- z];exact e)),hq,hm,Hu (fun z=>(near i hi z.1 z.2).1 e)]
    lia
   ·rw[Qa e,Qa e]
  refine⟨by lia, ?_⟩;rw[LH n l fun q=>(Ee x p).getD q.toNat 0*(Jh n l q:Int),LH n l fun q=>x.getD q.toNat 0*(Jh n l q:Int)];have cnt:Re n (fun i=>Kq n p h i)=h:=by
   have e1:Re n (fun i=>(Ee x p).getD i 0)=x.sum:=by rw[<- hsum,<- PL (Ee x p),hB'.1]
   have e2:Re n (fun i=>(Ee x p).getD i 0)+Re n (fun i=>if i=p.toNat then h else 0)=Re n (fun i=>x.getD i 0)+Re n (fun i=>Kq n p h i):=by
    rw[<- R4,<- R4];refine XB fun i hi=>?_;rw[get i hi,hq,hm];by_cases e:(i:Int)=p
    ·rw[Da e,Da (by lia),show i=p.toNat by lia,hh];lia
    ·rw[Qa e,Qa (by lia)];lia
   rw[Zae (by lia),e1] at e2;have e3:=PL x;rw[hn] at e3;lia
  have step:Re n (fun i=>(if (i:Int)∈l then 0 else (Ee x p).getD ((i:Int)).toNat 0*(Jh n l i:Int))+(if i=p.toNat then h*(d:Int) else 0))<=Re n (fun i=>(if (i:Int)∈l then 0 else x.getD ((i:Int)).toNat 0*(Jh n l i:Int))+Kq n p h i*((d:Int)-1)):=by
   refine YB fun i hi=>?_;rw[Kg,get i hi,hq,hm];by_cases e:(i:Int)=p
   ·have e':i=p.toNat:=by lia
    rw[Qa (by rw[e];exact pl),Da e,Da e',Qa (by rw[e];exact pl),e',hh,Sk p0,hd,Hu (by rw[Sk p0,Int.sub_self,Int.zero_emod];lia)];simp
   ·rw[Qa e,Qa (show ¬i=p.toNat by lia)]
    by_cases g:1<=((i:Int)-p)%n/\((i:Int)-p)%n<=h
    ·obtain⟨g1,g2⟩:=near i hi g.1 g.2
     rw[O4 g,Qa g1,Qa g1];have:(x.getD i 0+0+1)*(Jh n l i:Int)=x.getD i 0*(Jh n l i:Int)+(Jh n l i:Int):=by
      rw[Int.add_zero,Int.add_mul,Int.one_mul]
     rw[this];lia
    ·rw[Hu g]
     by_cases e2:(i:Int)∈l
     ·rw[Da e2,Da e2];lia
     ·rw[Qa e2,Qa e2];simp
  rw[R4,R4,ZkM,cnt,Zae (show p.toNat<n by lia)] at step;have:h*((d:Int)-1)=h*(d:Int)-h:=by rw[Int.mul_sub,Int.mul_one]
  lia
noncomputable def Le(n:Nat)(l b:LI0):LI1:=(Qh ((Od (Ha n l) b).map (Uo n l))).map fun i=>(Od (Ha n l) b).getD i []
theorem N7(n:Nat)(l b:LI0):(Le n l b).Perm (Od (Ha n l) b):=ZkI (by simp)
theorem BH(n:Nat)(l b:LI0):(Le n l b).Nodup:=(N7 n l b).nodup_iff.mpr (SY _ _)
theorem Zfk(n:Nat)(l b:LI0):(Le n l b).Pairwise fun x y=>HT.Zc (Uo n l y) (Uo n l x)=false:=by
 have h:=ZkJ (kz:=(Od (Ha n l) b).map (Uo n l)) (fun k hk=>by obtain⟨x,_,rfl⟩:=Nd.mp hk;rfl);unfold Le;rw[Zt] at h ⊢;refine h.imp_of_mem fun {i j} hi hj q=>?_;have li:=OL hi;have lj:=OL hj;rw[Pb] at li lj;rw[Cb,Cb,Dd,Dd,Yc li,Yc lj] at q;rw[Cb,Cb,Yc li,Yc lj];exact q
structure Rf(n:Nat)(s:Int)(l b:LI0):Prop where
 f:Mh n s (Ha n l) b
 bar:∃q∈l,0<=q/\q<n
theorem Rf.len{n:Nat}{s:Int}{l b:LI0}(h:Rf n s l b):(Le n l b).length<=1000:=by
 rw[(N7 n l b).length_eq];exact h.f.le _
theorem Rf.mem{n:Nat}{s:Int}{l b:LI0}(h:Rf n s l b){x:LI0}:x∈Le n l b ↔ Pg (Ha n l) b x:=by
 rw[(N7 n l b).mem_iff];exact h.f.mem
theorem Rf.ahead{n:Nat}{s:Int}{l b:LI0}(h:Rf n s l b){i:Nat}{x:LI0}(hi:(Le n l b)[i]?=some x){p:Int}(hp:p∈Ha n l)(hx:0<x.getD p.toNat 0):∃j,j<i/\(Le n l b)[j]?=some (Ee x p):=by
 have rx:=h.mem.mp (Zd hi);have ry:Ee x p∈Le n l b:=h.mem.mpr (.step rx hp hx);have k:=ZkF (rx.bs h.f.hP h.f.hb) h.bar hp hx;obtain⟨j,hj⟩:=Ej ry;refine⟨j, ?_,hj⟩;obtain⟨li,ei⟩:=Cd.mp hi;obtain⟨lj,ej⟩:=Cd.mp hj;apply Classical.byContradiction;intro c;by_cases e:i=j
 ·subst e
  rw[ei] at ej;rw[<- ej,HL.GI] at k;cases k
 ·have:=BD.mp (Zfk n l b) i j li lj (by lia)
  rw[ei,ej,k] at this;cases this
noncomputable def vF(g:LI0->Int)(P:LI0):Nat->LI0->Int
 |0,_=>0
 |k+1,x=>g ((Je P x).map fun y=>vF g P k y.2)
theorem EC(g:LI0->Int)(P:LI0)(k:Nat)(x:LI0):vF g P (k+1) x=g ((Je P x).map fun y=>vF g P k y.2):=rfl
noncomputable def Ms(g:LI0->Int)(P:LI0)(x:LI0):Int:=vF g P (1001+P.length) x
theorem Zlp(g:LI0->Int)(P:LI0)(x:LI0):Ms g P x=g ((Je P x).map fun y=>vF g P (1000+P.length) y.2):=by
 unfold Ms;rw[show 1001+P.length=(1000+P.length)+1 by lia,EC]
theorem Rf.same{n:Nat}{s:Int}{l b:LI0}(h:Rf n s l b)(g:LI0->Int):∀(i k k':Nat) (x:LI0),i<k->i<k'->(Le n l b)[i]?=some x->vF g (Ha n l) k x=vF g (Ha n l) k' x:=by
 intro i
 induction i using Nat.strongRecOn with
 |_ i ih =>
  intro k k' x hk hk' hx
  match k,k',hk,hk' with
  |k+1,k'+1,hk,hk' =>
   rw[EC,EC];congr 1;refine Xk fun y hy=>?_;obtain⟨y1,y2,y3⟩:=Ks.mp hy;obtain⟨j,hj,ej⟩:=h.ahead hx y1 y2;rw[<- y3] at ej;exact ih j hj k k' y.2 (by lia) (by lia) ej
theorem Rf.val{n:Nat}{s:Int}{l b:LI0}(h:Rf n s l b)(g:LI0->Int){x:LI0}(hx:x∈Le n l b):Ms g (Ha n l) x=g ((Je (Ha n l) x).map fun y=>Ms g (Ha n l) y.2):=by
 obtain⟨i,hi⟩:=Ej hx;have hl:=h.len;have li:=(Cd.mp hi).1;rw[Zlp];congr 1;refine Xk fun y hy=>?_;obtain⟨y1,y2,y3⟩:=Ks.mp hy;obtain⟨j,hj,ej⟩:=h.ahead hi y1 y2;rw[<- y3] at ej;unfold Ms;exact h.same g j _ _ y.2 (by lia) (by lia) ej
theorem Rf.go{n:Nat}{s:Int}{l b:LI0}(h:Rf n s l b){x:LI0}(hx:Pg (Ha n l) b x):Rf n s l x:=⟨h.f.go hx,h.bar⟩
noncomputable def gR(L:LI0):Int:=if L=[] then 0 else Bo (L.map (·+1))
noncomputable def Vc(P x:LI0):Int:=Ms gR P x
theorem XT:gR []=0:=rfl
theorem WT{L:LI0}(h:L≠[]):gR L=Bo (L.map (·+1)):=Qa h
theorem ZfU{L:LI0}(h:∀v∈L,0<=v):0<=gR L:=by
 unfold gR
 split
 ·exact Pq _
 ·rename_i hn
  obtain⟨v,hv⟩:=List.exists_mem_of_ne_nil L hn;have:=ZW (ns:=L.map (·+1)) (Nd.mpr ⟨v,hv,rfl⟩);have:=h v hv;lia
theorem ZaM{g:LI0->Int}(hg:∀L:LI0,(∀v∈L,0<=v)->0<=g L)(P:LI0):∀k x,0<=vF g P k x
 |0,_=>Pq _
 |k+1,x=>hg _ fun v hv=>by
  obtain⟨y,_,rfl⟩:=Nd.mp hv;exact ZaM hg P k y.2
theorem JL(P x:LI0):0<=Vc P x:=by
 unfold Vc Ms;exact ZaM (fun _=>ZfU) P _ x
theorem UZ{k:Nat}:∀(g:Nat) (P x:LI0),g<=k->vF gR P g x<=g
 |0,P,x,_=>Pq _
 |g+1,P,x,h=>by
  rw[EC];by_cases hn:((Je P x).map fun y=>vF gR P g y.2)=[]
  ·rw[hn,XT];lia
  ·rw[WT hn]
   have hm:=XI (ns:=((Je P x).map fun y=>vF gR P g y.2).map (·+1)) (by simpa using hn);obtain⟨v,hv,e⟩:=Nd.mp hm;obtain⟨y,_,rfl⟩:=Nd.mp hv;have:=UZ (k:=k) g P y.2 (by lia);rw[<- e];lia
theorem Rf.rk{n:Nat}{s:Int}{l b:LI0}(h:Rf n s l b):Vc (Ha n l) b=gR ((Je (Ha n l) b).map fun y=>Vc (Ha n l) y.2):=h.val gR (h.mem.mpr .refl)
noncomputable def stR(P x:LI0):Int×LI0:=((Je P x).filter fun y=>decide (Vc P y.2=Vc P x-1)).headD (0,[])
theorem Rf.stR{n:Nat}{s:Int}{l b:LI0}(h:Rf n s l b)(hp:0<Vc (Ha n l) b):((Je (Ha n l) b).filter fun y=>decide (Vc (Ha n l) y.2=Vc (Ha n l) b-1))≠[]/\My.stR (Ha n l) b∈Je (Ha n l) b/\Vc (Ha n l) (My.stR (Ha n l) b).2=Vc (Ha n l) b-1:=by
 have e:=h.rk;have hne:((Je (Ha n l) b).filter fun y=>decide (Vc (Ha n l) y.2=Vc (Ha n l) b-1))≠[]:=by
  by_cases hn:((Je (Ha n l) b).map fun y=>Vc (Ha n l) y.2)=[]
  ·rw[hn,XT] at e;lia
  ·rw[WT hn] at e
   have hm:=XI (ns:=((Je (Ha n l) b).map fun y=>Vc (Ha n l) y.2).map (·+1)) (by simpa using hn);rw[<- e] at hm;obtain⟨v,hv,e2⟩:=Nd.mp hm;obtain⟨y,hy,rfl⟩:=Nd.mp hv;exact GN (An.mpr ⟨hy,Hb (by lia)⟩)
 refine⟨hne, ?_⟩;unfold My.stR;cases hf:(Je (Ha n l) b).filter fun y=>decide (Vc (Ha n l) y.2=Vc (Ha n l) b-1) with
 |nil=>exact Eb hf hne
 |cons y ys =>
  have hy:y∈(Je (Ha n l) b).filter fun y=>decide (Vc (Ha n l) y.2=Vc (Ha n l) b-1):=by rw[hf];exact Wl ..
  obtain⟨a1,a2⟩:=An.mp hy;exact⟨a1,Ei a2⟩
noncomputable def Qq(P b:LI0):Nat->LI0
 |0=>b
 |i+1=>(stR P (Qq P b i)).2
noncomputable def CK(P b:LI0):LI0:=(List.range (Vc P b).toNat).map fun i=>(stR P (Qq P b i)).1
theorem Rf.pl{n:Nat}{s:Int}{l b:LI0}(h:Rf n s l b):∀i:Nat,(i:Int)<=Vc (Ha n l) b->Pg (Ha n l) b (Qq (Ha n l) b i)/\Vc (Ha n l) (Qq (Ha n l) b i)=Vc (Ha n l) b-i
 |0,_=>⟨.refl,by show Vc _ b=_;lia⟩
 |i+1,hi=>by
  obtain⟨r1,r2⟩:=h.pl i (by lia);obtain⟨_,m,e⟩:=(h.go r1).stR (by lia);obtain⟨m1,m2,m3⟩:=Ks.mp m;refine⟨?_, ?_⟩
  ·show Pg _ b (My.stR (Ha n l) (Qq (Ha n l) b i)).2
   rw[m3];exact .step r1 m1 m2
  ·show Vc _ (My.stR (Ha n l) (Qq (Ha n l) b i)).2=_
   rw[e,r2];lia
theorem GP{E:LI1}{f:LI0->PV}{i j:Nat}{y:LI0}(nd:E.Nodup)(hj:j<i)(hy:E[j]?=some y):Wc ((E.take i).map tI) ((E.take i).map f) (tI y)=some (f y):=by
 refine HF (j:=j) (Zax (nd.sublist (LN _ _))) ?_ ?_
 ·rw[Dd,ZD hj,hy];rfl
 ·rw[Dd,ZD hj,hy];rfl
theorem Zau{E:LI1}{i:Nat}{y:LI0}(nd:E.Nodup)(hy:E[i]?=some y):tI y ∉ (E.take i).map tI:=fun z=>by
 obtain⟨w,hw,e⟩:=Nd.mp z;have:=VC e;subst this;obtain⟨j,hj⟩:=Ej hw;have hji:j<i:=by
  have:=(Cd.mp hj).1;rw[Ch] at this;lia
 rw[ZD hji] at hj;obtain⟨l1,e1⟩:=Cd.mp hj;obtain⟨l2,e2⟩:=Cd.mp hy;have:=(List.getElem_inj nd).mp (e1.trans e2.symm);lia
theorem ZaD{α β:Type}{E:List α}{f:α->β}{i:Nat}{y:α}(hy:E[i]?=some y):(E.take (i+1)).map f=(E.take i).map f++[f y]:=by
 rw[List.take_add_one,hy,Po];rfl
theorem OI{α:Type}{f:PV->Rr PV}{q g:α->PV}:∀{L:List α},(∀x∈L,f (q x)=.ok (g x))->Xh f (L.map q)=.ok (L.map g)
 |[],_=>rfl
 |x::L,h=>by
  rw[Ed,Ed];unfold Xh;rw[h x (Wl ..),OI fun y hy=>h y (Jj _ hy)];rfl
theorem ZL(P x:LI0):Vc P x<=1001+P.length:=by
 have:=UZ (k:=1001+P.length) (1001+P.length) P x (Db _);unfold Vc Ms;lia
end My
namespace L2
open PySem PySem.Spec PyProof.Rows
noncomputable def ZdE(v:Va):Sem LI3:=match v with|.ref a=>(load a >>= fun o=>match o.data with|.seq ys _=>pure ys.toList|_=>unsupported "internal:collect")|_=>unsupported "internal:collect"
section
variable {prog:Bc}{w:Jc}{A:Pd}{E:Va->Ga->Prop}{s:Ga}{d:Ja}{es:Array DictEntry}{ep:Nat}
theorem ZdF{Q:LI3->Ga->Prop}(hh:A.handled=none)(nm:(d==Ij)=false)(x:Mj s.heap d es ep)(hz:es.size<=1000000)(q:∀h' tk,(∀b o,s.heap.get? b=some o->h'.get? b=some o)->s.heap.objs.size<=h'.objs.size->Q (es.map (·.key)).toList { s with heap:=h',toks:=tk }):Ra (Na prog w) A (collect (.ref d)) Q E s:=by
 have hS:(s.heap.push (Fd "list" #[] 0)).get? s.heap.objs.size=some (Fd "list" #[] 0):=Heap.get?_push_size _ rfl;unfold collect;refine Ia (wpAny_runValue (MD entry_proto_collect' (by
  refine Ia (m:=newList []) (U0 (Ib ⟨Code.quiet_builtin _ (by decide +kernel),MD entry_list_iadd' ?_⟩));rw[Around.under_plainId (show plainId "list.__iadd__"=true by decide +kernel) _];refine NS (A:=A) (R:=fun r s2=>match r with|.ok (.ret v)=>Ra (Na prog w) A (ZdE v) Q E s2|.ok _=>False|.error x=>E x s2) (s:={ s with heap:=s.heap.push (Fd "list" #[] 0) }) hh nm (x.at fun o e=>Heap.get?_push_of_some _ e) hz s.heap.objs.size (.ref s.heap.objs.size) 0 hS fun h' tk acc c' k e hacc=>?_;have hes:es.size=(es.map (·.key)).toList.length:=by simp
  have hacc':acc.toList=(es.map (·.key)).toList:=WU (by rw[Array.toArray_toList,<- hes];exact hacc);refine Ia (m:=load s.heap.objs.size) (wpAny_load e ?_);show Ra _ _ (pure acc.toList) Q E _;rw[hacc'];exact Ib (q h' tk (fun b o eb=>k b o (Jf (Heap.lt_size eb)) (Heap.get?_push_of_some _ eb)) (Vt (Heap.lt_size e))))))
theorem Zk8{vs:LI3}{Q:Va->Ga->Prop}(κ:Pi)(Rv:Va->Va->Bool)(hh:A.handled=none)(nm:(d==Ij)=false)(x:Mj s.heap d es ep)(hv:(es.map (·.key)).toList=vs)(hz:vs.length<=1000000)(hk:2<=vs.length->∀(s1:Ga) (Q:Pi->Ga->Prop),(∀b o,s.heap.get? b=some o->s1.heap.get? b=some o)->Q κ s1->Ra (Na prog w) A.in1.in1 (keyKind' vs.toArray) Q E s1)(hc:∀(s1:Ga) x y,x∈vs->y∈vs->(∀b o,s.heap.get? b=some o->s1.heap.get? b=some o)->∀C:Bool->Ga->Prop,C (Rv x y) s1->Ra (Na prog w) A.in1.in1 (keyLt' κ x y) C (fun _ _=>False) s1)(asy:∀x y,x∈vs->y∈vs->Rv x y=true->Rv y x=false)(tr:∀x y z,x∈vs->y∈vs->z∈vs->Rv y x=false->Rv z y=false->Rv z x=false)(hq:∀D h' tk c out,(∀b o,s.heap.get? b=some o->h'.get? b=some o)->s.heap.objs.size<=D->out.Perm vs->out.Pairwise (fun x y=>Rv y x=false)->h'.get? D=some (Fd "list" (List.toArray out) c)->Q (.ref D) { s with heap:=h',toks:=tk }) :
  Ra (Na prog w) A (call (.builtin "sorted") [.ref d]) Q E s:=by
 have line:vs.length<=Cc:=Il hz;have hes:es.size<=1000000:=by
  have:=Ef List.length hv;rw[Oe,Array.size_map] at this;lia
 refine Calls.call_function_entry kind_sorted plain_sorted entry_sorted (args_sorted1 _) ?_;unfold Builtin.«sorted»;refine Ia (m:=checkCount "sorted" 1 1 _) (Ib (Ia (ZdF (A:=A.in1) hh nm x hes fun h1 tk k1 hsz=>?_)));rw[hv];refine Ia (U0 ?_ line);have hD:(h1.push (Fd "list" vs.toArray 0)).get? h1.objs.size=some (Fd "list" vs.toArray 0):=Heap.get?_push_size _ rfl;show Ra _ _ _ _ _ { s with heap:=h1.push (Fd "list" vs.toArray 0),toks:=tk };have up:∀(h2:Heap),(∀b o,b≠h1.objs.size->(h1.push (Fd "list" vs.toArray 0)).get? b=some o->h2.get? b=some o)->∀b o,s.heap.get? b=some o->h2.get? b=some o:=fun h2 k b o q =>
  k b o (Jf (Heap.lt_size (k1 b o q))) (Heap.get?_push_of_some _ (k1 b o q))
 refine Ia (Tj (B6 slot_list_sort ⟨_,hD,rfl⟩ entry_list_sort (XZ (s:={ s with heap:=h1.push (Fd "list" vs.toArray 0),toks:=tk }) κ Rv hD hz (fun h2 s1 Q k q=>hk h2 s1 Q (up _ k) q) (fun s1 x y hx hy k C q=>hc s1 x y hx hy (up _ k) C q) asy tr fun h' c out k p1 p2 e=>?_) (args_list_sort _)));exact⟨_,rfl,Ib ⟨_,rfl,hq _ h' tk c out (up _ k) hsz p1 p2 e⟩⟩
end
section
variable {X:Cx}
def OY:List V->Hp->VK->Prop:=fun xs H Q=>∃p,∃Ub:List (List Sb×V),∃ts:LI1,xs=[.ref p]/\Rd H p (.dT Ub)/\Ub.map (·.1)=ts.map (fun t=>t.map Sum.inl)/\(∀t∈ts,t≠[])/\ts.length<=1000000 /\
  ∀l,H l=none->∀qs:List Ue,(∀t∈qs,H t.1=some (.tup (t.2.map V.int)))->(qs.map (·.2)).Perm ts->Nn (qs.map (·.2))->Q (.ref l) (upd H l (.lst (qs.map fun t=>V.ref t.1)))
theorem Zd3(hc:X.calm=true):Og X (.builtin "sorted") OY:=by
 intro Za s σ H xs us Q I r h;obtain⟨p,Ub,ts,rfl,hp,hks,hne,hz0,q⟩:=h;obtain⟨u,rfl,rx⟩:=Zn r;cases rx;obtain⟨z,nm,xs,rv,o,es,ep,h1,h2,h3,h4,h5⟩:=(show Wf X.prog X.w H s.heap p (.dT Ub) from P9 I.hok hp)
 obtain⟨g1,g2⟩:=EI rv;have Ge:Ub.length=ts.length:=by
  have:=Ef List.length hks;rwa [Pb,Pb] at this
 obtain⟨qs,hq1,hq2,hq3⟩:∃qs:List Ue,qs.map (·.1)=xs.map (·.2.1)/\qs.map (·.2)=ts/\∀t∈qs,H t.1=some (.tup (t.2.map V.int)):=by
  refine⟨(xs.map (·.2.1)).zip ts,List.map_fst_zip (by rw[Pb];lia),List.map_snd_zip (by rw[Pb];lia),fun t ht=>?_⟩;obtain⟨i,hi⟩:=Ej ht;rw[Hz,Dd] at hi;obtain⟨i1,i2⟩:=hi;have ki:(Ub.map (·.1))[i]?=some (t.2.map Sum.inl):=by rw[hks,Dd,i2];rfl
  rw[Dd] at ki;cases e:Ub[i]? with
  |none=>rw[e] at ki;cases ki
  |some kv =>
   rw[e] at ki;have ki:kv.1=t.2.map Sum.inl:=Option.some.inj ki;obtain⟨b,u,e1,e2⟩:=g2 i kv.1 kv.2 e;rw[e1] at i1;have i1:b=t.1:=Option.some.inj i1;rw[<- i1,e2,ki,Sd];rfl
 have hk:(es.map (·.key)).toList=qs.map fun t=>Value.ref t.1:=by
  rw[Dz,h4,Sd];have:=Ef (List.map Value.ref) hq1;rw[Sd,Sd] at this;exact this.symm
 have hql:qs.length=ts.length:=by rw[<- hq2,Pb]
 have tup:∀(s1:Ga),(∀b o,s.heap.get? b=some o->s1.heap.get? b=some o)->∀t∈qs,∃vs:LI3,Ab (t.2.map V.int) vs/\IsTup s1.heap t.1 vs.toArray:=fun s1 k t ht=>by
  have I':Ca X Za σ H { s with heap:=s1.heap,toks:=s1.toks }:=I.kept k;obtain⟨vs,rv,pt,_⟩:=I'.tuple (show Af X.K H t.1 (t.2.map V.int) from .inl (.inl (hq3 t ht)));exact⟨vs,rv,pt⟩
 have hu:∀t∈qs,∀t'∈qs,t.1=t'.1->t.2=t'.2:=fun t ht t' Ad e=>by
  have a1:=hq3 t ht;rw[e,hq3 t' Ad] at a1;have a1:t'.2.map V.int=t.2.map V.int:=by injection a1 with a1;injection a1
  exact((W5 fun x y h=>by injection h).mp a1).symm
 refine Zk8 (vs:=qs.map fun t=>Value.ref t.1) (tuples' true) (fun x y=>HT.Zc (Ff qs (Ac x)) (Ff qs (Ac y))) (I.ok.hd hc) nm ⟨o,h1,h2,h3⟩ hk (by rw[Pb];lia) (fun h2 s1 Q' k q'=>?_) (fun s1 x y hx hy k C q'=>?_) (fun x y _ _ h=>Q8 h) (fun x y z _ _ _ h1 h2=>B8 h1 h2) fun D h' tk c out k hD p1 p2 e=>?_
 ·have:∀(ts:List Ue) (its:LI3),(∀t∈ts,t.2≠[]/\∃vs:LI3,Ab (t.2.map V.int) vs/\IsTup s1.heap t.1 vs.toArray)->Ab (ts.map fun t=>V.ref t.1) its->∃fs:LI3,fs.length=ts.length/\PySem.W.KatTups s1.heap its fs/\∀v∈fs,∃n t,v=Value.int n t:=by
   intro ts
   induction ts with
   |nil =>
    intro its _ rv;cases rv;exact⟨[],rfl,trivial,by simp⟩
   |cons t ts ih =>
    intro its ht rv;cases rv with
    |cons rv tv =>
     obtain⟨fs,e1,e2,e3⟩:=ih _ (fun t' h'=>ht t' (Jj _ h')) tv;obtain⟨hne,vs,rvs,ob,eo,oc,k,od⟩:=ht t (Wl ..);obtain⟨n,ns,en⟩:=WC hne;rw[en] at rvs;cases rvs with
     |cons rn tn =>
      obtain⟨tk,rfl⟩:=rn;have rv':_=Value.ref t.1:=rv;subst rv';exact⟨.int n tk::fs,by simp[e1],⟨⟨t.1,ob,_,k,rfl,eo,oc,od,rfl⟩,e2⟩,fun v hv=>(Vd.mp hv).elim (fun z=>⟨n,tk,z⟩) (e3 v)⟩
  obtain⟨fs,e1,e2,e3⟩:=this qs _ (fun t ht=>⟨hne _ (by rw[<- hq2];exact QD ht),tup s1 k t ht⟩) (C4 qs);exact PySem.W.kat_kind (T:=.type "int") e2 (by rw[e1];rw[Pb] at h2;lia) (fun v hv=>by obtain⟨n,t,rfl⟩:=e3 v hv;exact PySem.W.Looks.of_pure rfl) rfl q'
 ·obtain⟨t,ht,rfl⟩:=Nd.mp hx
  obtain⟨t',Ad,rfl⟩:=Nd.mp hy;obtain⟨vs,rv,ob,eo,oc,k1,od⟩:=tup s1 k t ht;obtain⟨vs',rv',ob',eo',oc',k1',od'⟩:=tup s1 k t' Ad;refine PySem.W.kat_lt eo od eo' od' (C8 rv rv' ?_ ?_)
  ·simp
  ·rw[show Ac (.ref t.1)=t.1 from rfl,show Ac (.ref t'.1)=t'.1 from rfl,Fm hu ht,Fm hu Ad] at q'
   exact q'
 ·have ho:∀u∈out,∃t∈qs,u=Value.ref t.1:=fun u hu=>by
   obtain⟨t,ht,e⟩:=Nd.mp (p1.mem_iff.mp hu);exact⟨t,ht,e.symm⟩
  have hp':(out.map fun v=>((Ac v,Ff qs (Ac v)):Ue)).Perm qs:=by
   have a1:=p1.map fun v=>((Ac v,Ff qs (Ac v)):Ue)
   rw[Sd] at a1;have a2:qs.map ((fun v=>((Ac v,Ff qs (Ac v)):Ue))∘fun t=>Value.ref t.1)=qs:=by
    have:qs.map ((fun v=>((Ac v,Ff qs (Ac v)):Ue))∘fun t=>Value.ref t.1)=qs.map id:=Xk fun t ht=>by
     show ((t.1,Ff qs t.1):Ue)=t;rw[Fm hu ht]
    rw[this,T5]
   rw[a2] at a1;exact a1
  have hup:Nn ((out.map fun v=>((Ac v,Ff qs (Ac v)):Ue)).map (·.2)):=by
   rw[Sd];exact Zt.mpr (p2.imp fun h=>h)
  have hout:out=(out.map fun v=>((Ac v,Ff qs (Ac v)):Ue)).map fun t=>Value.ref t.1:=by
   rw[Sd];have:out.map ((fun(t:Ue)=>Value.ref t.1)∘fun v=>((Ac v,Ff qs (Ac v)):Ue))=out.map id:=Xk fun u hu=>by
    obtain⟨t,ht,rfl⟩:=ho u hu;rfl
   rw[this,T5]
  generalize (out.map fun v=>((Ac v,Ff qs (Ac v)):Ue))=zs at hp' hup hout;have I1:Ca X Za σ (upd H D (.lst (zs.map fun t=>V.ref t.1))) { s with heap:=h',toks:=tk }:=by
   refine I.laid (t':=tk) k hD ⟨?_,_,c, ?_,e⟩
   ·rw[Pb,hp'.length_eq,hql];exact Il hz0
   ·rw[hout];exact C4 zs
  exact⟨.ref D,_,I1,rfl,q D (I.hok.fresh hD) zs (fun t ht=>hq3 t (hp'.mem_iff.mp ht)) (by rw[<- hq2];exact hp'.map _) hup⟩
end
open Classical in
noncomputable def D9(xs:LI5):Rr PV:=if h:∃(ts:LI1) (p:Option Ja) (ys:LI5),xs=[.box p (.dt (ts.map fun t=>t.map Sum.inl)) ys]/\ys.length=ts.length/\Ev ts then newF ((Ni h.choose).map Ya) else .bad
theorem Zjn{ts:LI1}{p:Option Ja}{ys:LI5}(hl:ys.length=ts.length)(h:Ev ts):D9 [.box p (.dt (ts.map fun t=>t.map Sum.inl)) ys]=newF ((Ni ts).map Ya):=by
 have hex:∃(us:LI1) (p':Option Ja) (ys':LI5),[PV.box p (.dt (ts.map fun t=>t.map Sum.inl)) ys]=[.box p' (.dt (us.map fun t=>t.map Sum.inl)) ys']/\ys'.length=us.length/\Ev us:=⟨ts,p,ys,rfl,hl,h⟩
 unfold D9;rw[Xl hex];obtain⟨p',ys',e,_⟩:=hex.choose_spec;have e2:ts.map (fun t=>t.map (Sum.inl:Int->Sb))=hex.choose.map fun t=>t.map Sum.inl:=by
  have:=(List.cons.inj e).1;injection this with _ a2 _;injection a2
 have:∀{a b:LI1},(a.map fun t=>t.map (Sum.inl:Int->Sb))=(b.map fun t=>t.map Sum.inl)->a=b:=fun {a b} h=>(W5 fun x y h=>(W5 fun x y h=>Sum.inl.inj h).mp h).mp h;rw[<- this e2]
section
variable {K:ZlR}{EX:PX->Hp->Prop}{Γ Γ':List Md}{ta:TA}{fa:LI5->Rr LI5}
theorem ZeI(ha:Ce K EX Γ Γ' ta fa):DE K EX Γ Γ' .F (Zj OY ta) (fun ρ=>(fa ρ).bind D9):=fun B H0 H σ ρ F R Q A d=>by
 refine ha B H0 H σ ρ F R _ A (d.bind.imp (fun xs _ d vs H1 F1 s1 f1 p1 A1=>?_) fun e q=>q);unfold D9 at d
 split at d
 ·rename_i hex
  have hs:=hex.choose_spec;generalize hex.choose=ts at d hs;obtain⟨p,ys,rfl,hl,hne,hz⟩:=hs;obtain⟨g1,g2,d⟩:=Dn.newF d;obtain⟨v,rfl,a,ws,u,rfl,⟨hr,_⟩,⟨_,hlz,rfl⟩,_⟩:=Xi p1;refine⟨a,_,ts,rfl,hr,List.map_fst_zip (by lia),hne,hz,fun l hz' zs hq hp hup=>?_⟩;have e:Ni ts=zs.map (·.2):=Q5 (Iu _) hup ((Pj _).trans hp.symm);have pr:=TK (K:=K) (H:=H1) (S:=fun _=>True) (qs:=zs) fun t ht=>⟨t.1,_,rfl,⟨hq t ht,trivial⟩,YY t.2⟩
  rw[<- e] at pr;exact d _ _ (s1.trans (La.new hz')) (Lc.newP s1 f1 pr g1 A1 hz')
 ·exact d.elim
end
end L2
namespace My
open PySem PySem.Spec PyProof.Rows L2
noncomputable def Ar(p:Int):PV:=.tup [.str "sow",.int p]
noncomputable def rkQ(y:LI0×Int):PV:=.tup [Kl y.1,.int y.2]
noncomputable def NK(P x:LI0):PV:=rkQ (x,Vc P x)
end My
namespace L2
theorem XF:(10:Nat)^61<2^60000:=by
 calc (10:Nat)^61<=(2^4)^61:=MN (by decide) _
  _=2^244:=by rw[<- Nat.pow_mul]
  _<2^60000:=ON (by decide) (by decide)
end L2
namespace L2
open PySem PySem.Spec PyProof.Rows
theorem WS{α β:Type}{f:α->Rr β}:∀{xs:List α},Rh (fun x=>(f x).bind fun y=>.ok (some y)) xs=Xh f xs
 |[]=>rfl
 |x::xs=>by
  simp only[Rh,Xh,Rr.assoc,WS (xs:=xs),Rr.bind_ok,Pz,DD]
section
variable {K:ZlR}{EX:PX->Hp->Prop}{Γ Γ1:List Md}{te:TE}{fe:LI5->Rr PV}
theorem Hk{wi:TI}{fi:LI5->Rr LI5}(hi:K6 K EX Γ Γ1 wi fi)(he:DE K EX (Γ1++[.S]) (Γ1++[.S]) .F te fe) :
  DE K EX Γ Γ1 .F (Lu wi Ku Z5 te) (fun ρ=>(fi ρ).bind fun xs=>(lenM xs).bind fun _=>(Xh (fun x=>fe (ρ++[x])) xs).bind fun ys=>.ok (.lst ys)):=by
 have h:=Tt (k:=1) hi Ov AH he;simp only[Rr.bind_ok,if_true,WS] at h;exact h
variable {X:Cx}{scope:Scope}{x y:Str}{elt iter:Expr}{pos px py spos:Pos}{wi:TI}{i:Nat}
theorem Ho(hi:PI X (.Name x px) iter wi)(he:∀C s₂ H₂ ex,PE (Te X scope [x] C ex s₂ H₂) elt te)(hNd:X.N.Nodup)(hc:X.calm=true)(hclos:Sz scope X.env=pure (Yg scope X.env):=by rfl)(hchk:Bp X.N X.env.scope scope [x]=true:=by rfl)(hs:∀x,Tz iter X.env x=pure x:=by exact fun _=>rfl) :
  PE X (.ListComp elt [⟨.Name x px,iter,[],0⟩] scope pos) (Lu wi Ku Z5 te):=X3 hi (Tr hNd hchk) (fun _ _ _ _=>G9) he Ir hNd hc hclos hchk hs
theorem EK(hN:X.N.Nodup)(hi:X.N[i]?=some y)(hit:PI X (.Name x px) iter wi)(he:∀C s₂ H₂ ex,PE (Te X scope [x] C ex s₂ H₂) elt te)(hc:X.calm=true)(hsw:swapsWith (.ListComp elt [⟨.Name x px,iter,[],0⟩] scope pos) (some (.Name y py)) spos.line X.env=pure true:=by rfl)(hy:X.env.scope.names.lookup y=some .local:=by rfl)(hclos:Sz scope X.env=pure (Yg scope X.env):=by rfl)(hchk:Bp X.N X.env.scope scope [x]=true:=by rfl)(hs:∀x,Tz iter X.env x=pure x:=by exact fun _=>rfl) :
  PS X (.Assign [.Name y py] (.ListComp elt [⟨.Name x px,iter,[],0⟩] scope pos) spos) (VM i wi Ku Z5 te):=M9 hN hi hit (Tr hN hchk) (fun _ _ _ _=>G9) he Ir hc hsw hy hclos hchk hs
end
end L2
namespace My
open PySem L2
seal PE PT PA PS Wg DE DT Ce Qv DS
theorem ZlN{K:ZlR}{EX:_}{Γ:List Md}{i:Nat}(h:Γ[i]?=some .S):DE K EX Γ Γ .A (Bg i) (fun ρ=>.ok (gv i ρ)):=JH h (by decide)
noncomputable def Mc(i:Nat):Kb:=PySem.Challenge.pw_sowring_k28_barred_refused.main.body.getD i (.Pass ⟨0,0,0,0⟩)
noncomputable abbrev BA:Kb:=Mc 46
local macro_rules | `(tactic| walk_at "sc")=>`(tactic| exact⟨rfl,rfl,rfl,by decide +kernel,rfl,by decide +kernel,by decide +kernel⟩)
theorem G4:Uc ["script", "later", "most", "sums", "k", "at"] ["script", "later", "most"] (Mb BA):=by walk_at "sc"
set_option hygiene false
local macro_rules | `(tactic| walk_at "b1")=>`(tactic| exact fun _ _ _ _ _ _ us hl=>by obtain⟨_,rfl⟩:=us1 hl;rfl)
local macro_rules | `(tactic| walk_at "b2")=>`(tactic| exact fun _ _ _ _ _ _ us hl=>by obtain⟨_,_,rfl⟩:=us2 hl;rfl)
local macro_rules | `(tactic| walk_at "b3")=>`(tactic| exact fun _ _ _ _ _ _ us hl=>by obtain⟨_,_,_,rfl⟩:=us3 hl;rfl)
local macro_rules | `(tactic| walk_at "b4")=>`(tactic| exact fun _ _ _ _ _ _ us hl=>by obtain⟨_,_,_,_,rfl⟩:=us4 hl;rfl)
set_option hygiene true
theorem Zcx:Rc "_law_sums" BA ["script", "later", "most"]:=by walk_at "b3"
noncomputable abbrev QA:Kb:=Mc 49
theorem CZ:Uc ["cell", "sizes"] ["cell"] (Mb QA):=by walk_at "sc"
theorem Zcv:Rc "_law_size" QA ["cell"]:=by walk_at "b1"
noncomputable abbrev JA:Kb:=Mc 51
theorem MB:Uc ["board", "cell", "at", "far"] ["board", "cell"] (Mb JA):=by walk_at "sc"
theorem Zcs:Rc "_law_faulty" JA ["board", "cell"]:=by walk_at "b2"
noncomputable abbrev UA:Kb:=Mc 50
theorem UL:Uc ["pits", "seeds", "cell", "board", "one"] ["pits", "seeds", "cell"] (Mb UA):=by walk_at "sc"
theorem Zcu:Rc "_law_laid" UA ["pits", "seeds", "cell"]:=by walk_at "b3"
noncomputable abbrev T9:Kb:=Mc 52
theorem Wy:Uc ["pits", "cell", "far", "bars", "way"] ["pits", "cell", "far"] (Mb T9):=by walk_at "sc"
theorem Zcn:Rc "_law_bars" T9 ["pits", "cell", "far"]:=by walk_at "b3"
noncomputable abbrev AA:Kb:=Mc 47
theorem DZ:Uc ["cell", "j", "first"] ["cell", "j"] (Mb AA):=by walk_at "sc"
theorem Zcw:Rc "_law_stirred" AA ["cell", "j"]:=by walk_at "b2"
noncomputable abbrev W9:Kb:=Mc 54
theorem BZ:Uc ["board", "bars", "k"] ["board", "bars"] (Mb W9):=by walk_at "sc"
theorem Zco:Rc "_law_bars_good" W9 ["board", "bars"]:=by walk_at "b2"
noncomputable abbrev Y9:Kb:=Mc 48
theorem LB:Uc ["pits", "seeds", "ways", "k"] ["pits", "seeds"] (Mb Y9):=by walk_at "sc"
theorem Zcq:Rc "_law_count" Y9 ["pits", "seeds"]:=by walk_at "b2"
noncomputable abbrev VA:Kb:=Mc 53
theorem Zkk:Uc ["board"] ["board"] (Mb VA):=by walk_at "sc"
theorem Zct:Rc "_law_good" VA ["board"]:=by walk_at "b1"
noncomputable abbrev ZA:Kb:=Mc 55
theorem Zkj:Uc ["way", "board", "other", "bars"] ["way", "board", "other", "bars"] (Mb ZA):=by walk_at "sc"
theorem Zcr:Rc "_law_due" ZA ["way", "board", "other", "bars"]:=by walk_at "b4"
noncomputable abbrev X9:Kb:=Mc 45
theorem Zki:Uc ["script", "k"] ["script", "k"] (Mb X9):=by walk_at "sc"
theorem Zcp:Rc "_law_cell_at" X9 ["script", "k"]:=by walk_at "b2"
noncomputable abbrev XA:Kb:=Mc 10
theorem Zks:Uc ["value"] ["value"] (Mb XA):=by walk_at "sc"
theorem Zc7:Rc "is_whole" XA ["value"]:=by walk_at "b1"
noncomputable abbrev YA:Kb:=Mc 11
theorem Zkt:Uc ["value", "least"] ["value", "least"] (Mb YA):=by walk_at "sc"
theorem PP:Rc "is_whole_from" YA ["value", "least"]:=by walk_at "b2"
noncomputable abbrev RA:Kb:=Mc 12
theorem HZ:Uc ["values"] ["values"] (Mb RA):=by walk_at "sc"
theorem Zc4:Rc "is_list_from_nought" RA ["values"]:=by walk_at "b1"
noncomputable abbrev VB:Kb:=Mc 9
theorem Zku:Uc [] [] (Mb VB):=by walk_at "sc"
theorem ZcA:Rc "most_seeds" VB []:=fun _ _ _ _ _ _ us hl=>match us,hl with | [],_=>rfl
noncomputable abbrev OA:Kb:=Mc 13
theorem Zkq:Uc ["board"] ["board"] (Mb OA):=by walk_at "sc"
theorem Zc3:Rc "is_board" OA ["board"]:=by walk_at "b1"
noncomputable abbrev FA:Kb:=Mc 14
theorem Zkm:Uc ["board"] ["board"] (Mb FA):=by walk_at "sc"
theorem KP:Rc "check_board" FA ["board"]:=by walk_at "b1"
noncomputable abbrev WA:Kb:=Mc 17
theorem IZ:Uc ["numbers"] ["numbers"] (Mb WA):=by walk_at "sc"
theorem Zc6:Rc "is_rising" WA ["numbers"]:=by walk_at "b1"
noncomputable abbrev SA:Kb:=Mc 15
theorem Zkr:Uc ["board", "pit"] ["board", "pit"] (Mb SA):=by walk_at "sc"
theorem Zc5:Rc "is_pit" SA ["board", "pit"]:=by walk_at "b2"
noncomputable abbrev EA:Kb:=Mc 18
theorem EZ:Uc ["board", "barred"] ["board", "barred"] (Mb EA):=by walk_at "sc"
theorem IP:Rc "check_barred" EA ["board", "barred"]:=by walk_at "b2"
noncomputable abbrev KA:Kb:=Mc 20
theorem OB:Uc ["pits", "seeds", "count", "k"] ["pits", "seeds"] (Mb KA):=by walk_at "sc"
theorem Zc0:Rc "count_boards" KA ["pits", "seeds"]:=by walk_at "b2"
noncomputable abbrev GA:Kb:=Mc 25
theorem Zkn:Uc ["board"] ["board"] (Mb GA):=by walk_at "sc"
theorem LP:Rc "check_few_boards" GA ["board"]:=by walk_at "b1"
noncomputable abbrev HA:Kb:=Mc 32
theorem Zko:Uc ["board", "barred"] ["board", "barred"] (Mb HA):=by walk_at "sc"
theorem MP:Rc "check_play" HA ["board", "barred"]:=by walk_at "b2"
noncomputable abbrev BB:Kb:=Mc 29
theorem KZ:Uc ["boards"] ["boards"] (Mb BB):=by walk_at "sc"
theorem RP:Rc "rising_boards" BB ["boards"]:=by walk_at "b1"
noncomputable abbrev MA:Kb:=Mc 34
theorem BL:Uc ["board", "barred"] ["board", "barred"] (Mb MA):=by walk_at "sc"
theorem M1:Rc "free_pits" MA ["board", "barred"]:=by walk_at "b2"
noncomputable abbrev EB:Kb:=Mc 22
theorem Hs:Uc ["board", "pit", "pits", "rounds", "over", "other", "last", "step"] ["board", "pit"] (Mb EB):=by walk_at "sc"
theorem ZcF:Rc "sow_pit" EB ["board", "pit"]:=by walk_at "b2"
noncomputable abbrev FB:Kb:=Mc 27
theorem DL:Uc ["board", "pits"] ["board", "pits"] (Mb FB):=by walk_at "sc"
theorem SF:Rc "sowings_of" FB ["board", "pits"]:=by walk_at "b2"
noncomputable abbrev UB:Kb:=Mc 26
theorem SB:Uc ["level", "pits", "came_from", "found", "board", "step"] ["level", "pits", "came_from"] (Mb UB):=by walk_at "sc"
theorem ZcB:Rc "next_level" UB ["level", "pits", "came_from"]:=by walk_at "b3"
noncomputable abbrev IB:Kb:=Mc 33
theorem M4:Uc ["board", "barred", "pits", "came_from", "level"] ["board", "barred"] (Mb IB):=by walk_at "sc"
theorem WF:Rc "walk_from" IB ["board", "barred"]:=by walk_at "b2"
noncomputable abbrev IA:Kb:=Mc 31
theorem Zkp:Uc ["board", "barred"] ["board", "barred"] (Mb IA):=by walk_at "sc"
theorem NP:Rc "come_to" IA ["board", "barred"]:=by walk_at "b2"
noncomputable abbrev NA:Kb:=Mc 36
theorem GZ:Uc ["board", "pits"] ["board", "pits"] (Mb NA):=by walk_at "sc"
theorem OP:Rc "free_seeds" NA ["board", "pits"]:=by walk_at "b2"
noncomputable abbrev LA:Kb:=Mc 35
theorem K4:Uc ["board", "barred", "boards", "pits"] ["board", "barred"] (Mb LA):=by walk_at "sc"
theorem Zc2:Rc "ends_of" LA ["board", "barred"]:=by walk_at "b2"
noncomputable abbrev HB:Kb:=Mc 43
theorem FL:Uc ["board", "barred", "pit", "steps"] ["board", "barred", "pit"] (Mb HB):=by walk_at "sc"
theorem ZcH:Rc "steps_to_bar" HB ["board", "barred", "pit"]:=by walk_at "b3"
noncomputable abbrev CB:Kb:=Mc 42
theorem CL:Uc ["board", "pits", "steps"] ["board", "pits", "steps"] (Mb CB):=by walk_at "sc"
theorem ZcE:Rc "seeds_and_steps" CB ["board", "pits", "steps"]:=by walk_at "b3"
noncomputable abbrev E4:Kb:=Mc 41
theorem RB:Uc ["board", "barred", "pits", "steps"] ["board", "barred"] (Mb E4):=by walk_at "sc"
theorem Zc1:Rc "ends_first" E4 ["board", "barred"]:=by walk_at "b2"
noncomputable abbrev AB:Kb:=Mc 39
theorem L4:Uc ["board", "barred", "pits", "ranks", "found"] ["board", "barred"] (Mb AB):=by walk_at "sc"
theorem ZcD:Rc "ranks_from" AB ["board", "barred"]:=by walk_at "b2"
noncomputable abbrev GB:Kb:=Mc 40
theorem EL:Uc ["board", "pits", "ranks", "steps"] ["board", "pits", "ranks"] (Mb GB):=by walk_at "sc"
theorem ZcG:Rc "step_to_rank" GB ["board", "pits", "ranks"]:=by walk_at "b3"
noncomputable abbrev JB:Kb:=Mc 38
theorem Gs:Uc ["board", "barred", "pits", "ranks", "plan", "now", "step"] ["board", "barred"] (Mb JB):=by walk_at "sc"
theorem Zc9:Rc "longest_play" JB ["board", "barred"]:=by walk_at "b2"
noncomputable abbrev DA:Kb:=Mc 16
theorem Zkl:Uc ["board", "other"] ["board", "other"] (Mb DA):=by walk_at "sc"
theorem Zcz:Rc "check_alike" DA ["board", "other"]:=by walk_at "b2"
noncomputable abbrev QB:Kb:=Mc 28
theorem WB:Uc ["goal", "came_from", "plan", "origin"] ["goal", "came_from"] (Mb QB):=by walk_at "sc"
theorem ZcC:Rc "plan_to" QB ["goal", "came_from"]:=by walk_at "b2"
noncomputable abbrev KB:Kb:=Mc 37
theorem LZ:Uc ["board", "other", "barred", "came_from"] ["board", "other", "barred"] (Mb KB):=by walk_at "sc"
theorem ZcI:Rc "way_or_bar" KB ["board", "other", "barred"]:=by walk_at "b3"
noncomputable abbrev CA:Kb:=Mc 56
theorem Eu:Uc ["way", "board", "other", "bars", "caught", "e", "met", "word"] ["way", "board", "other", "bars"] (Mb CA):=by walk_at "sc"
theorem Zcy:Rc "_law_word" CA ["way", "board", "other", "bars"]:=by walk_at "b4"
noncomputable abbrev ZB:Kb:=Mc 57
theorem Bk:Uc ["script", "sums", "cells", "pits", "seeds", "board", "other", "far", "bars", "way", "handed", "due"] ["script"] (Mb ZB):=by walk_at "sc"
theorem Zc8:Rc "law" ZB ["script"]:=by walk_at "b1"
noncomputable abbrev XN:List Str:=["SowError", "BadBoard", "BadPits", "Unlike", "TooMany"]
noncomputable abbrev K5(t:Str)(a0 a1 a2 a3 a4:Bool):List (Str×Str×Bool):=[("SowError",t,a0),("BadBoard",t,a1),("BadPits",t,a2),("Unlike",t,a3),("TooMany",t,a4)]
noncomputable abbrev ZbT:=K5 "SowError" true true true true true
noncomputable abbrev ZbR:=K5 "BadBoard" false true false false false
noncomputable abbrev ZbS:=K5 "BadPits" false false true false false
noncomputable abbrev ZbV:=K5 "Unlike" false false false true false
noncomputable abbrev ZbU:=K5 "TooMany" false false false false true
noncomputable abbrev XS:List (Str×Str×Bool):=ZbT++ZbR++ZbS++ZbV++ZbU
noncomputable abbrev XR:List Str:=["SowError", "BadBoard", "BadPits", "Unlike", "TooMany"]
noncomputable abbrev Cz(a0 a1 a2 a3 a4:Bool):List (Str×Bool):=[("SowError",a0),("BadBoard",a1),("BadPits",a2),("Unlike",a3),("TooMany",a4)]
noncomputable abbrev X6:=Cz true true true true true
noncomputable abbrev U1:=Cz false true false false false
noncomputable abbrev Q1:=Cz false false true false false
noncomputable abbrev C1:=Cz false false false true false
noncomputable abbrev B1:=Cz false false false false true
noncomputable abbrev ZbQ:=Cz true true true true true
noncomputable abbrev SZ:Kb:=Z3 (Mc 1) 0
theorem Zkx:Uc ["self"] ["self"] (Mb SZ):=by walk_at "sc"
noncomputable abbrev OZ:Kb:=Z3 (Mc 2) 0
theorem Zkv:Uc ["self"] ["self"] (Mb OZ):=by walk_at "sc"
noncomputable abbrev RZ:Kb:=Z3 (Mc 3) 0
theorem Zkw:Uc ["self"] ["self"] (Mb RZ):=by walk_at "sc"
noncomputable abbrev WZ:Kb:=Z3 (Mc 4) 0
theorem Zkz:Uc ["self"] ["self"] (Mb WZ):=by walk_at "sc"
noncomputable abbrev TZ:Kb:=Z3 (Mc 5) 0
theorem Zky:Uc ["self"] ["self"] (Mb TZ):=by walk_at "sc"
structure Gc(K:ZlR)(mg:Str->Option Va):Prop where
 ZdU:Oc K mg "_law_sums" BA
 ZdS:Oc K mg "_law_size" QA
 ZdP:Oc K mg "_law_faulty" JA
 ZdR:Oc K mg "_law_laid" UA
 ZdK:Oc K mg "_law_bars" T9
 ZdT:Oc K mg "_law_stirred" AA
 ZdL:Oc K mg "_law_bars_good" W9
 ZdN:Oc K mg "_law_count" Y9
 ZdQ:Oc K mg "_law_good" VA
 ZdO:Oc K mg "_law_due" ZA
 ZdM:Oc K mg "_law_cell_at" X9
 Zeg:Oc K mg "is_whole" XA
 KR:Oc K mg "is_whole_from" YA
 Zed:Oc K mg "is_list_from_nought" RA
 Zej:Oc K mg "most_seeds" VB
 Zec:Oc K mg "is_board" OA
 ER:Oc K mg "check_board" FA
 Zef:Oc K mg "is_rising" WA
 Zee:Oc K mg "is_pit" SA
 DR:Oc K mg "check_barred" EA
 ZdX:Oc K mg "count_boards" KA
 FR:Oc K mg "check_few_boards" GA
 GR:Oc K mg "check_play" HA
 LR:Oc K mg "rising_boards" BB
 Y1:Oc K mg "free_pits" MA
 Zeq:Oc K mg "sow_pit" EB
 NG:Oc K mg "sowings_of" FB
 Zek:Oc K mg "next_level" UB
 OG:Oc K mg "walk_from" IB
 HR:Oc K mg "come_to" IA
 IR:Oc K mg "free_seeds" NA
 ZdZ:Oc K mg "ends_of" LA
 Zes:Oc K mg "steps_to_bar" HB
 Zeo:Oc K mg "seeds_and_steps" CB
 ZdY:Oc K mg "ends_first" E4
 Zen:Oc K mg "ranks_from" AB
 Zer:Oc K mg "step_to_rank" GB
 Zei:Oc K mg "longest_play" JB
 ZdW:Oc K mg "check_alike" DA
 Zem:Oc K mg "plan_to" QB
 Zet:Oc K mg "way_or_bar" KB
 ZdV:Oc K mg "_law_word" CA
 Zeh:Oc K mg "law" ZB
 c_FEWEST_PITS:∃t,mg "FEWEST_PITS"=some (.int 2 t)
 c_MOST_BOARDS:∃t,mg "MOST_BOARDS"=some (.int 1000 t)
 c_MOST_PITS:∃t,mg "MOST_PITS"=some (.int 24 t)
 z_ValueError:mg "ValueError"=none
 z_all:mg "all"=none
 z_bool:mg "bool"=none
 z_enumerate:mg "enumerate"=none
 z_int:mg "int"=none
 z_isinstance:mg "isinstance"=none
 z_len:mg "len"=none
 z_list:mg "list"=none
 z_max:mg "max"=none
 z_min:mg "min"=none
 z_range:mg "range"=none
 z_sorted:mg "sorted"=none
 z_sum:mg "sum"=none
 z_tuple:mg "tuple"=none
 x_tab:Mq K XN XS=true
 x_exc:Zbd K XR=true
 x_mg:∀n C,Xg K n C->mg n=some (.ref C)
 m_SowError:Dv K "SowError" "called" "SowError.called" SZ
 m_BadBoard:Dv K "BadBoard" "called" "BadBoard.called" OZ
 m_BadPits:Dv K "BadPits" "called" "BadPits.called" RZ
 m_Unlike:Dv K "Unlike" "called" "Unlike.called" WZ
 m_TooMany:Dv K "TooMany" "called" "TooMany.called" TZ
 l_lam:CV K=true
section
variable {P:Bc}{w:Jc}{K:ZlR}{mg:Str->Option Va}{base:Heap}
theorem Zih(T:Gc K mg):Nt P w K mg base 1 "called" "SowError":=by
 obtain⟨C,f,fd,h1,h2,h3,F⟩:=T.m_SowError;obtain⟨C2,c1,_,c2,_⟩:=Ps T.x_tab (n := "SowError") (by decide);obtain rfl:=c1.inj h1;refine⟨C2,f,fd,h1,c2,h2,h3,F.kp,F.binds (fun _ _ _ _ _ _ us hl=>match us,hl with | [_],_=>rfl), ?_⟩;exact F.okP Zkx rfl rfl (fun Lb A outer s H E hr=>⟨_,_,⟨[],[],[],.P⟩,rfl,Jb (Nb Mf),Qd Kf,fun xs=>.inr rfl⟩)
theorem Zif(T:Gc K mg):Nt P w K mg base 1 "called" "BadBoard":=by
 obtain⟨C,f,fd,h1,h2,h3,F⟩:=T.m_BadBoard;obtain⟨C2,c1,_,c2,_⟩:=Ps T.x_tab (n := "BadBoard") (by decide);obtain rfl:=c1.inj h1;refine⟨C2,f,fd,h1,c2,h2,h3,F.kp,F.binds (fun _ _ _ _ _ _ us hl=>match us,hl with | [_],_=>rfl), ?_⟩;exact F.okP Zkv rfl rfl (fun Lb A outer s H E hr=>⟨_,_,⟨[],[],[],.P⟩,rfl,Jb (Nb Mf),Qd Kf,fun xs=>.inr rfl⟩)
theorem Zig(T:Gc K mg):Nt P w K mg base 1 "called" "BadPits":=by
 obtain⟨C,f,fd,h1,h2,h3,F⟩:=T.m_BadPits;obtain⟨C2,c1,_,c2,_⟩:=Ps T.x_tab (n := "BadPits") (by decide);obtain rfl:=c1.inj h1;refine⟨C2,f,fd,h1,c2,h2,h3,F.kp,F.binds (fun _ _ _ _ _ _ us hl=>match us,hl with | [_],_=>rfl), ?_⟩;exact F.okP Zkw rfl rfl (fun Lb A outer s H E hr=>⟨_,_,⟨[],[],[],.P⟩,rfl,Jb (Nb Mf),Qd Kf,fun xs=>.inr rfl⟩)
theorem Zij(T:Gc K mg):Nt P w K mg base 1 "called" "Unlike":=by
 obtain⟨C,f,fd,h1,h2,h3,F⟩:=T.m_Unlike;obtain⟨C2,c1,_,c2,_⟩:=Ps T.x_tab (n := "Unlike") (by decide);obtain rfl:=c1.inj h1;refine⟨C2,f,fd,h1,c2,h2,h3,F.kp,F.binds (fun _ _ _ _ _ _ us hl=>match us,hl with | [_],_=>rfl), ?_⟩;exact F.okP Zkz rfl rfl (fun Lb A outer s H E hr=>⟨_,_,⟨[],[],[],.P⟩,rfl,Jb (Nb Mf),Qd Kf,fun xs=>.inr rfl⟩)
theorem Zii(T:Gc K mg):Nt P w K mg base 1 "called" "TooMany":=by
 obtain⟨C,f,fd,h1,h2,h3,F⟩:=T.m_TooMany;obtain⟨C2,c1,_,c2,_⟩:=Ps T.x_tab (n := "TooMany") (by decide);obtain rfl:=c1.inj h1;refine⟨C2,f,fd,h1,c2,h2,h3,F.kp,F.binds (fun _ _ _ _ _ _ us hl=>match us,hl with | [_],_=>rfl), ?_⟩;exact F.okP Zky rfl rfl (fun Lb A outer s H E hr=>⟨_,_,⟨[],[],[],.P⟩,rfl,Jb (Nb Mf),Qd Kf,fun xs=>.inr rfl⟩)
theorem Zik(T:Gc K mg):∀n∈XN,Nt P w K mg base 1 "called" n:=fun n hn=>by
 simp only[XN,Vd,List.not_mem_nil,or_false] at hn;rcases hn with rfl|rfl|rfl|rfl|rfl
 ·exact Zih T
 ·exact Zif T
 ·exact Zig T
 ·exact Zij T
 ·exact Zii T
theorem ZhJ:Yf X6 (.exc "BadBoard")=.ok (.bl true):=Hh (by decide)
theorem ZhK:Yf X6 (.exc "BadPits")=.ok (.bl true):=Hh (by decide)
theorem ZhM:Yf X6 (.exc "Unlike")=.ok (.bl true):=Hh (by decide)
theorem ZhL:Yf X6 (.exc "TooMany")=.ok (.bl true):=Hh (by decide)
theorem ZhB:Yf U1 (.exc "BadBoard")=.ok (.bl true):=Hh (by decide)
theorem ZhC:Yf U1 (.exc "BadPits")=.ok (.bl false):=Hh (by decide)
theorem ZhE:Yf U1 (.exc "Unlike")=.ok (.bl false):=Hh (by decide)
theorem ZhD:Yf U1 (.exc "TooMany")=.ok (.bl false):=Hh (by decide)
theorem ZhF:Yf Q1 (.exc "BadBoard")=.ok (.bl false):=Hh (by decide)
theorem ZhG:Yf Q1 (.exc "BadPits")=.ok (.bl true):=Hh (by decide)
theorem ZhI:Yf Q1 (.exc "Unlike")=.ok (.bl false):=Hh (by decide)
theorem ZhH:Yf Q1 (.exc "TooMany")=.ok (.bl false):=Hh (by decide)
theorem ZhR:Yf C1 (.exc "BadBoard")=.ok (.bl false):=Hh (by decide)
theorem ZhS:Yf C1 (.exc "BadPits")=.ok (.bl false):=Hh (by decide)
theorem ZhU:Yf C1 (.exc "Unlike")=.ok (.bl true):=Hh (by decide)
theorem ZhT:Yf C1 (.exc "TooMany")=.ok (.bl false):=Hh (by decide)
theorem ZhN:Yf B1 (.exc "BadBoard")=.ok (.bl false):=Hh (by decide)
theorem ZhO:Yf B1 (.exc "BadPits")=.ok (.bl false):=Hh (by decide)
theorem ZhQ:Yf B1 (.exc "Unlike")=.ok (.bl false):=Hh (by decide)
theorem ZhP:Yf B1 (.exc "TooMany")=.ok (.bl true):=Hh (by decide)
theorem Zhr:Zq XN (.exc "BadBoard")=.ok (.str "BadBoard"):=R8 (by decide)
theorem Zhs:Zq XN (.exc "BadPits")=.ok (.str "BadPits"):=R8 (by decide)
theorem Zhu:Zq XN (.exc "Unlike")=.ok (.str "Unlike"):=R8 (by decide)
theorem Zht:Zq XN (.exc "TooMany")=.ok (.str "TooMany"):=R8 (by decide)
theorem OV:PyData.canLay0 (.str "BadBoard")=true:=by rw[PyData.canLay0];decide +kernel
theorem RV:PyData.canLay0 (.str "BadPits")=true:=by rw[PyData.canLay0];decide +kernel
theorem SV:PyData.canLay0 (.str "TooMany")=true:=by rw[PyData.canLay0];decide +kernel
theorem TV:PyData.canLay0 (.str "Unlike")=true:=by rw[PyData.canLay0];decide +kernel
theorem Zhv{g:Bool->Bool}:Ji g (.str "BadBoard") (.str "BadBoard")=.ok (.bl (g true)):=Y8 OV OV
theorem Zhw{g:Bool->Bool}:Ji g (.str "BadPits") (.str "BadPits")=.ok (.bl (g true)):=Y8 RV RV
theorem Zhx{g:Bool->Bool}:Ji g (.str "TooMany") (.str "TooMany")=.ok (.bl (g true)):=Y8 SV SV
theorem Zhy{g:Bool->Bool}:Ji g (.str "Unlike") (.str "Unlike")=.ok (.bl (g true)):=Y8 TV TV
set_option hygiene false
local macro_rules | `(tactic| symm)=>`(tactic| try simp -implicitDefEqProofs (disch:=first|lia|(simp only[Pb,Gj,Tu,UD,Ci,Kz,Ch,Ws,QN,Sy];lia)|decide) only[Zgk,Zgj,List.set_cons_zero,List.set_cons_succ,Pu,Xs,Zkc,Zkd,YC,Rr.bind_ok,Rr.bind_exc,Rr.bind_bad,Rr.thenS_ok,Rr.thenS_exc,RS.seq_next,RS.seq_ret,RS.seq_exc,RS.out_next,RS.out_ret,RS.out_exc,
 ZiE,Zjq,Zjf,Zja,ZiQ,ZiP,Zgf,Zgg,Zgi,Zgh,ZbZ,Zcb,Zcc,Zca,ZiT,ZiU,ZiR,ZiS,Zjk,ZiY,ZiZ,ZgC,ZgB,ZgD,ZiN,YW,ZiO,Zjb,ZiH,ZiD,ZiC,ZiA,Zjr,Ci,Kz,Bool.not_true,Bool.not_false,Bool.false_eq_true,if_true,if_false,Nat.reduceAdd,Nat.reduceSub,id,Ed,X5,Int.reduceToNat,ZiJ,RJ,ZiB,Zid,Zie,Zce,ZiK,Zcd,Zgw,Zit,Nat.reduceLeDiff,Db,Int.reduceLT,Int.reduceLE,Int.reduceEq,decide_true,decide_false,
 MJ,TJ,ZiG,Zjg,AX,Zjl,Sw,Zje,Xw,AJ,ZdI,ZdH,ZkY,Zlb,Zla,Zi8,Zi9,Zis,Zir,ZiF,beq_self_eq_true,Bool.and_true,Bool.true_and,Bool.and_false,Bool.false_and,Zjj,ZhJ,ZhK,ZhM,ZhL,ZhB,ZhC,ZhE,ZhD,ZhF,ZhG,ZhI,ZhH,ZhR,ZhS,ZhU,ZhT,ZhN,ZhO,ZhQ,ZhP,Zhr,Zhs,Zhu,Zht,Zhv,Zhw,Zhx,Zhy])
local macro_rules | `(tactic| walk_at "in")=>`(tactic| (simp only[List.cons.injEq,PV.lst.injEq,PV.int.injEq,PV.str.injEq,PV.bl.injEq,PV.tup.injEq,Zg7,and_true] at e ⊢;first|(simp only[e];done)|(subst e;rfl)|(rw[e])))
local macro_rules | `(tactic| walk_at "lo")=>`(tactic| first|exact Or.inl rfl|exact Or.inr rfl)
set_option hygiene true
noncomputable def Wx:Pm:=⟨LI0×Int×Int,fun a=>[.lst (a.1.map PV.int),.int a.2.1,.int a.2.2],fun a=>a.1.length<=1000/\(0<=a.2.1/\a.2.1<=1000)/\0<a.2.2/\a.2.2<=1000,fun a=>.ok (.lst ((Lq a.1 a.2.1.toNat a.2.2.toNat).map PV.int))⟩
section
theorem pLe{X:Cx}(K:ZlR)(hm:X.mg "len"=none)(ha:PA X (e::es) t)(hg:Gl X "len":=by rfl)(he:Tc (e::es) X.env=(false,eval e X.env)::Tc es X.env:=by rfl)(hpl:(Fh pos (Tc es X.env)).any (·.1)=false:=by rfl)(e':X.K=K:=by rfl):PE X (.Call (.Name "len" p) (e::es) [] pos) (Zj (fun xs H Q=>∃p ys,xs=[.ref p]/\(Yb K H p ys\/Af K H p ys)/\Q (.int ys.length) H) t):=Lf (Zdx (K:=K) e') hg hm Zcl ha (by decide) (by decide) he hpl
theorem pO{X:Cx}(G:Ok X.prog X.w X.K X.mg X.base k x ps sp)(hr:Fe k' X.A)(ha:PA X (e::es) t)(hk:k<=k':=by decide)(hg:Gl X x:=by rfl)(hdb:(x==("__debug__":Str))=false:=by decide)(he:Tc (e::es) X.env=(false,eval e X.env)::Tc es X.env:=by rfl)(hpl:(Fh pos (Tc es X.env)).any (·.1)=false:=by rfl):PE X (.Call (.Name x p) (e::es) [] pos) (Rl sp t):=SX G (hr.mono hk) hg ha hdb he hpl
theorem pQ{X:Cx}(K:ZlR)(hu:X.A.units+64<cLine)(ha:PE X a ta)(hb:PE X b tb)(e:X.K=K:=by rfl):PT X (.Compare a [.Eq] [b] pos) (UM (Pf (O9 K id) ta tb)):=Zg (Zi4 (K:=K) hu e) ha hb (Df _)
theorem pS{X:Cx}(i:Nat)(hN:X.N.Nodup)(he:PE X e te)(hi:X.N[i]?=some x:=by rfl)(hx:Mt X.env.scope x:=by walk_at "lo")(hs:swapsWith e (some (.Name x pos')) pos.line X.env=pure false:=by rfl)(hf:X.fn x=true\/X.env.scope.names.lookup x=some .local:=by walk_at "lo"):PS X (.Assign [.Name x pos'] e pos) (Xm te (Ti i)):=ZjV hN hi hx he hs hf
theorem pX{X:Cx}(K:ZlR)(ha:PE X a ta)(hb:PE X b tb)(hs:JP b:=by exact fun _ _=>rfl)(e:X.K=K:=by rfl):PE X (.Subscript a b pos) (Pf (Ry K) ta tb):=ZjD (ZgJ (K:=K) e) ha hb hs
theorem qA(h:DE K EX Γ Γ' k te f):DE K EX Γ Γ' .A te f:=DE.toA h
theorem qF(h:DE K EX Γ Γ' .P te f):DE K EX Γ Γ' .F te f:=DE.PF h
theorem qI{i:Int}:DE K EX Γ Γ .A (tC (.int i)) (fun _=>.ok (.int i)):=DE.toA Gm
theorem qO{Γ:List Md}(i:Nat)(h:Γ[i]?=some .O:=by rfl):DE K EX Γ Γ .A (Bg i) (fun ρ=>.ok (gv i ρ)):=JH h (by decide)
theorem qP{Γ:List Md}(i:Nat)(h:Γ[i]?=some .P:=by rfl):DE K EX Γ Γ .A (Bg i) (fun ρ=>.ok (gv i ρ)):=DE.toA (Qr h)
theorem qS{Γ:List Md}(i:Nat)(h:Γ[i]?=some .S:=by rfl):DE K EX Γ Γ .A (Bg i) (fun ρ=>.ok (gv i ρ)):=JH h (by decide)
theorem qX{fa fb:LI5->Rr PV}(ha:DE K EX Γ Γ1 .A ta fa)(hb:DE K EX Γ1 Γ2 .A tb fb):DE K EX Γ Γ2 .A (Pf (Ry K) ta tb) (fun ρ=>(fa ρ).bind fun x=>(fb ρ).bind fun y=>pIx x y):=ZeA ha hb
theorem zF{Γ':List Md}{f:LI5->Rr PV}(i:Nat)(he:DE K EX Γ Γ' .F te f)(hi:i<Γ'.length:=by decide):DS K EX Γ ⟨Γ'.set i .O,Γ1,Γ2,k⟩ (Xm te (Ti i)) (fun ρ=>(f ρ).thenS fun x=>.next (ρ.set i x)):=FS he hi
theorem zP{Γ':List Md}{f:LI5->Rr PV}(i:Nat)(he:DE K EX Γ Γ' .P te f)(hi:i<Γ'.length:=by decide):DS K EX Γ ⟨Γ'.set i .P,Γ1,Γ2,k⟩ (Xm te (Ti i)) (fun ρ=>(f ρ).thenS fun x=>.next (ρ.set i x)):=Zfe he hi
end
set_option hygiene false
local macro_rules | `(tactic| walk_at "ok")=>`(tactic| (refine F.okP S rfl rfl (fun Lb A outer s H E hr=>?_);have hu:=hr.units))
set_option hygiene true
local macro_rules | `(tactic| walk_at "ln")=>`(tactic| first|exact Ug|exact Yd (by walk_at "ln"))
section
theorem Jq{X:Cx}(hi:PI X tg iter wi)(hg:PG X tg g)(hb:Wg X body tb)(hp:PassesOwn (Na X.prog X.w) X.A X.env X.xe:=by exact PassesOwn.never)(hc:X.calm=true:=by rfl)(hs:∀x,Tz iter X.env x=pure x:=by intro _;rfl):PS X (.For tg iter body [] pos) (ZM wi g tb):=ZjU hp hc hi hg hb hs
theorem Om{X:Cx}(i:Nat)(hN:X.N.Nodup)(hi:X.N[i]?=some x:=by rfl)(hx:Mt X.env.scope x:=by walk_at "lo")(hf:X.fn x=true\/X.env.scope.names.lookup x=some .local:=by walk_at "lo"):PG X (.Name x pos) (Ti i):=UK hN hi hx hf
theorem Gq{Γ:List Md}(i:Nat)(hi:i<Γ.length:=by decide):DG K EX Γ (Γ.set i .P) (Ti i) (fun x ρ=>(grd x).bind fun x=>.ok (ρ.set i x)):=ZeO hi
theorem qM{Γ:List Md}(i:Nat)(h:Γ[i]?=some .O:=by rfl):DE K EX Γ (Γ.set i .U) .F (Bg i) (fun ρ=>.ok (gv i ρ)):=ZeM h
theorem Nk{fa:LI5->Rr LI5}(ha:Ce K X0 Γ Γ' ta fa)(hn:Nh fa n:=by walk_at "ln"):DE K X0 Γ Γ' .F (Rl (Tb K n .F W0 m) ta) (fun ρ=>(fa ρ).bind m):=Zey hn ha
theorem Bj{fa:LI5->Rr LI5}(ha:Ce K X0 Γ Γ' ta fa)(hn:Nh fa n:=by walk_at "ln"):DE K X0 Γ Γ' .P (Rl (Tb K n .P W0 m) ta) (fun ρ=>(fa ρ).bind m):=Zez hn ha
theorem Q4{fa:LI5->Rr LI5}{E:XK}(ha:Ce K (Zm K E) Γ Γ' ta fa)(hn:Nh fa n:=by walk_at "ln"):DE K (Zm K E) Γ Γ' .F (X4 (Tb K n .F (W1 K) m) (fun _=>E) ta) (fun ρ=>(fa ρ).bind m):=Zfi hn ha
theorem Lo{fa:LI5->Rr LI5}{E:XK}(ha:Ce K (Zm K E) Γ Γ' ta fa)(hn:Nh fa n:=by walk_at "ln"):DE K (Zm K E) Γ Γ' .P (X4 (Tb K n .P (W1 K) m) (fun _=>E) ta) (fun ρ=>(fa ρ).bind m):=Zfj hn ha
end
theorem Xc(P:Bc)(w:Jc)(base:Heap){ps:List Str}{sp:Sp}(d:Oc K mg x st)(b:Rc x st ps)(h:∀{f fd},Xb K x x st f fd->Wb P w K mg base Fc k f fd ps sp):Ok P w K mg base k x ps sp:=Zi1 d b h
theorem Zf6(T:Gc K mg)(F:Xb K "_law_sums" "_law_sums" BA f fd):Wb P w K mg base Fc 1 f fd ["script", "later", "most"] (Tb K 3 .F W0 Wx.fn):=by
 have S:=G4;walk_at "ok";refine⟨_,_,⟨[],[],[],.F⟩,rfl,(Xa (M9 (i:=3) G4.nd rfl (Sm rfl T.z_range (Ua (pv 2) Fa)) (Tr G4.nd) (fun _ _ _ _=>G9) (fun _ _ _ _=>Ka) Ir rfl) (Xa (Jq (QK rfl T.z_range (Ua (pv 1) (Ua (pLe K T.z_len (Ua (pv 0) Fa)) Fa))) (Om 4 G4.nd) (Xa (pS 5 G4.nd (Zb Ye (Zb Yp (pv 4) (pv 1)) (pv 2))) (Xa (Cu (Zb Uh (Zb Wp (pX K (pv 3) (pv 5)) Ka) (Zb Ye (pX K (pv 0) (pv 4)) (Zb Xp Ka Ka))) (Ix (pv 3) (pv 5) Fu)) (Jb (Cu (Zb Ye (pX K (pv 3) (pv 5)) (Zb Xp Ka Ka)) (Ix (pv 3) (pv 5) Fu)))))) (Jb (Nb (pv 3))))),(Wa (Aw (i:=3) (Tt (k:=1) (DI.c (Km (Ea (qS 2) Ma))) Ov AH (qF Gm)) (by decide)) (Wa (Ip (Γl:=[.S,.S,.S,.O,.U,.U]) (VH (Ea (qS 1) (Ea (qA (Gf (Ea (qS 0) Ma))) Ma))) rfl (Gq 4) (DS.out (Y:=⟨[.S,.S,.S,.O,.P,.P],[.S,.S,.S,.O,.U,.U],[.S,.S,.S,.O,.U,.U],.F⟩) (Y':=⟨[.S,.S,.S,.O,.U,.U],[.S,.S,.S,.O,.U,.U],[.S,.S,.S,.O,.U,.U],.F⟩) (Wa (zP 5 (Xe (qA (Gp (qP 4) (qS 1))) (qS 2))) (Wa (Bw (i:=3) rfl (Zh (qA (Ep (qX (qO 3) (qP 5)) qI)) (qA (Xe (qX (qS 0) (qP 4)) (qA (Fp qI qI))))) (qP 5)) (Bw (i:=3) rfl (Xe (qX (qO 3) (qP 5)) (qA (Fp qI qI))) (qP 5)))) rfl rfl rfl rfl)) (Rg (qM 3)))), ?_⟩;refine Pm.ref Wx (g:=fun xs=>_) ?_;rintro⟨ns,l,m⟩ ⟨hn,hl,h0,h1⟩;simp only at hn hl h0 h1;simp only[Wx];symm;rw[DH (p:=fun _=>true) (g:=fun _=>.int 0) (fun i hi=>rfl)];rw[show ((List.range m.toNat).filter fun _=>true).map (fun _=>PV.int 0)=(Ck ns l.toNat m.toNat 0).map PV.int by
  rw[show ((List.range m.toNat).filter fun _=>true)=List.range m.toNat from List.filter_eq_self.mpr fun _ _=>rfl,Ck,ZN,QN,List.map_replicate]]
 symm;generalize hw:Vh _ _ _=W;obtain⟨ρ',rfl,v,u,rfl⟩:=Cr hw (fun i ρ=>∃v u,ρ=[.lst (ns.map PV.int),.int l,.int m,.lst ((Ck ns l.toNat m.toNat i).map PV.int),v,u]) ⟨_,_,rfl⟩ (by
  rintro i x ρ hx ⟨v,u,rfl⟩;obtain⟨hi,rfl⟩:=Fs hx;have Ge:(Ck ns l.toNat m.toNat i).length=m.toNat:=TL _ _ _ _;have m0:=Oq (l+(i:Int)-l) (show m≠0 by lia);have m1:=Nq (l+(i:Int)-l) h0;have e:((l+(i:Int)-l)%m).toNat=i%m.toNat:=by
   have:((i%m.toNat:Nat):Int)=(l+(i:Int)-l)%m:=by rw[Int.natCast_emod,Sk (by lia),show l+(i:Int)-l=i by lia]
   lia
  have hb:=ZfY (P:=fun x=>0<=x/\x<10^62) (Zag ns l.toNat m.toNat i) (by decide) ((l+(i:Int)-l)%m).toNat;symm;refine Wi ⟨.int (l+(i:Int)),.int ((l+(i:Int)-l)%m), ?_⟩;rw[List.set_set,L2.getD_set (by lia),Da rfl,Ck,e,show (l+(i:Int)).toNat=l.toNat+i by lia])
 symm;rw[Sy];unfold Lq;rw[show ((ns.length:Int)-l).toNat=ns.length-l.toNat by lia]
theorem ZcX{ns:LI0}{l m:Int}(h:ns.length<=1000/\(0<=l/\l<=1000)/\0<m/\m<=1000):Wx.fn [.lst (ns.map PV.int),.int l,.int m]=.ok (.lst ((Lq ns l.toNat m.toNat).map PV.int)):=Pm.fn_eq Wx (ns,l,m) h fun(a:LI0×Int×Int) e=>by simp only[Wx] at e ⊢;walk_at "in"
noncomputable def WL:List (Int×Int):=[(2,999),(2,1000),(3,43),(3,44),(4,17),(5,10),(24,3),(3,10^59)]
noncomputable def Pl(c:Int):Int×Int:=if c%4=3 then WL.getD (c/4%8).toNat (0,0) else (2+c/4%5,c/32%6)
noncomputable def YL(x:Int×Int):PV:=.tup [.int x.1,.int x.2]
noncomputable def Sx:Pm:=⟨Int,fun c=>[.int c],fun _=>True,fun c=>.ok (.tup [.int (Pl c).1,.int (Pl c).2])⟩
theorem Zf4(T:Gc K mg)(F:Xb K "_law_size" "_law_size" QA f fd):Wb P w K mg base Fc 1 f fd ["cell"] (Tb K 1 .P W0 Sx.fn):=by
 have S:=CZ;walk_at "ok";refine⟨_,_,⟨[],[],[],.P⟩,rfl,(Xa (pS 1 CZ.nd (Vi (Ua (Ui (Ua Ka (Ua Ka Fa))) (Ua (Ui (Ua Ka (Ua Ka Fa))) (Ua (Ui (Ua Ka (Ua Ka Fa))) (Ua (Ui (Ua Ka (Ua Ka Fa))) (Ua (Ui (Ua Ka (Ua Ka Fa))) (Ua (Ui (Ua Ka (Ua Ka Fa))) (Ua (Ui (Ua Ka (Ua Ka Fa))) (Ua (Ui (Ua Ka (Ua (Zb Xp Ka Ka) Fa))) Fa)))))))))) (Xa (Ld (pQ K hu (Zb Ye (pv 0) Ka) Ka) (Jb (Nb (pX K (pv 1) (Zb Ye (Zb Li (pv 0) Ka) (pLe K T.z_len (Ua (pv 1) Fa)))))) Be) (Jb (Nb (Ui (Ua (Zb Uh Ka (Zb Ye (Zb Li (pv 0) Ka) Ka)) (Ua (Zb Ye (Zb Li (pv 0) Ka) Ka) Fa))))))),(Wa (zF 1 (Ii (Xd (qF (DE.grd (Yj (Ea qI (Ea qI Ma))))) (Xd (qF (DE.grd (Yj (Ea qI (Ea qI Ma))))) (Xd (qF (DE.grd (Yj (Ea qI (Ea qI Ma))))) (Xd (qF (DE.grd (Yj (Ea qI (Ea qI Ma))))) (Xd (qF (DE.grd (Yj (Ea qI (Ea qI Ma))))) (Xd (qF (DE.grd (Yj (Ea qI (Ea qI Ma))))) (Xd (qF (DE.grd (Yj (Ea qI (Ea qI Ma))))) (Xd (qF (DE.grd (Yj (Ea qI (Ea (qA (Fp qI qI)) Ma))))) Eg)))))))))) (Wa (Hd (Hc (qA (Ke (g:=id) (qA (Xe (qS 0) qI)) qI))) (Qd (DE.grd (qX (qO 1) (qA (Xe (qA (Hi (qS 0) qI)) (qA (Gf (Ea (qO 1) Ma)))))))) Qe) (Qd (DE.grd (Yj (Ea (qA (Zh qI (qA (Xe (qA (Hi (qS 0) qI)) qI)))) (Ea (qA (Xe (qA (Hi (qS 0) qI)) qI)) Ma))))))), ?_⟩;refine Pm.ref Sx (g:=fun xs=>_) ?_;rintro(c:Int) _;simp only[Sx];symm
 try rw[M8 rfl (by decide)]
 symm
 try rw[Ax (by decide)]
 symm;unfold Pl;by_cases h:c%4=3
 ·rw[Hb h,Da h]
  symm;rw[Zjd];symm;have hL:∀L:LI5,L=WL.map YL->pIx (.lst L) (.int (c/4%8))=.ok (YL (WL.getD (c/4%8).toNat (0,0))):=fun L e=>by
   rw[e,ZiX (d:=(0,0)) (by lia) (by show c/4%8<8;lia)]
  rw[show ((8:Nat):Int)=8 from rfl,hL]
  ·unfold YL
   symm
  ·rfl
 ·rw[Fb h,Qa h]
  symm
theorem ZcV{c:Int}:Sx.fn [.int c]=.ok (.tup [.int (Pl c).1,.int (Pl c).2]):=Pm.fn_eq Sx c trivial fun(a:Int) e=>by simp only[Sx] at e ⊢;walk_at "in"
theorem ZkO(c:Int):(2<=(Pl c).1/\(Pl c).1<=24)/\0<=(Pl c).2/\(Pl c).2<=10^59:=by
 unfold Pl
 split
 ·have h0:0<=c/4%8:=by lia
  have h1:c/4%8<8:=by lia
  obtain⟨n,hn⟩:∃n:Nat,c/4%8=n:=⟨(c/4%8).toNat,by lia⟩
  rw[hn,Kg];have h2:n<8:=by lia
  clear hn h0 h1;revert n;decide +kernel
 ·exact⟨⟨by simp only;lia,by simp only;lia⟩,by simp only;lia,by simp only;lia⟩
noncomputable def Zu(b:LI0)(c:Int):LI0:=
 if c%32=5 then b.take 1
 else if c%32=6 then b++List.replicate (25-(b.length:Int)).toNat 1
 else if c%32=7 then b.take (c/32%b.length).toNat++[-1-c/64%10^8]++b.drop (c/32%b.length+1).toNat
 else if c%32=8 then b.take (c/32%b.length).toNat++[10^60+1+c/64%10^8]++b.drop (c/32%b.length+1).toNat
 else b
theorem OS{b:LI0}{c:Int}(h:1<=b.length/\b.length<=100):1<=(Zu b c).length/\(Zu b c).length<=200:=by
 unfold Zu
 repeat' split
 all_goals try simp
 all_goals lia
noncomputable def Ox:Pm:=⟨LI0×Int,fun a=>[.lst (a.1.map PV.int),.int a.2],fun a=>1<=a.1.length/\a.1.length<=100,fun a=>.ok (.lst ((Zu a.1 a.2).map PV.int))⟩
theorem Zf1(T:Gc K mg)(F:Xb K "_law_faulty" "_law_faulty" JA f fd):Wb P w K mg base Fc 1 f fd ["board", "cell"] (Tb K 2 .Z W0 Ox.fn):=by
 have S:=MB;walk_at "ok";refine⟨_,_,⟨[],[],[],.Z⟩,rfl,(Xa (pS 2 MB.nd (Zb Ye (Zb Li (pv 1) Ka) (pLe K T.z_len (Ua (pv 0) Fa)))) (Xa (pS 3 MB.nd (Zb Ye (Zb Li (pv 1) Ka) (Zb Xp Ka Ka))) (Xa (Ld (pQ K hu (Zb Ye (pv 1) Ka) Ka) (Jb (Nb (Hx (Xy (K:=K)) (pv 0) Ny (Oy Ka)))) Be) (Xa (Ld (pQ K hu (Zb Ye (pv 1) Ka) Ka) (Jb (Nb (Zb (Co (K:=K)) (pv 0) (Ho (Sm rfl T.z_range (Ua (Zb Yp Ka (pLe K T.z_len (Ua (pv 0) Fa))) Fa)) (fun _ _ _ _=>Ka) MB.nd rfl)))) Be) (Xa (Ld (pQ K hu (Zb Ye (pv 1) Ka) Ka) (Jb (Nb (Zb (Co (K:=K)) (Zb (Co (K:=K)) (Hx (Xy (K:=K)) (pv 0) Ny (Oy (pv 2))) (Vi (Ua (Zb Yp (JK KM Ka) (pv 3)) Fa))) (Hx (Xy (K:=K)) (pv 0) (Oy (Zb Uh (pv 2) Ka)) Ny)))) Be) (Xa (Ld (pQ K hu (Zb Ye (pv 1) Ka) Ka) (Jb (Nb (Zb (Co (K:=K)) (Zb (Co (K:=K)) (Hx (Xy (K:=K)) (pv 0) Ny (Oy (pv 2))) (Vi (Ua (Zb Uh (Zb Uh (Zb Xp Ka Ka) Ka) (pv 3)) Fa))) (Hx (Xy (K:=K)) (pv 0) (Oy (Zb Uh (pv 2) Ka)) Ny)))) Be) (Jb (Nb (pv 0))))))))),(Wa (zP 2 (Xe (qA (Hi (qS 1) qI)) (qA (Gf (Ea (qS 0) Ma))))) (Wa (zP 3 (Xe (qA (Hi (qS 1) qI)) (qA (Fp qI qI)))) (Wa (Hd (Hc (qA (Ke (g:=id) (qA (Xe (qS 1) qI)) qI))) (E2 (DE.FZ (Yv (qS 0) Jw (Vw qI)))) Qe) (Wa (Hd (Hc (qA (Ke (g:=id) (qA (Xe (qS 1) qI)) qI))) (E2 (DE.FZ (Wn (qS 0) (qA (Hk (DI.c (Km (Ea (qA (Gp qI (qA (Gf (Ea (qS 0) Ma))))) Ma))) (qF Gm)))))) Qe) (Wa (Hd (Hc (qA (Ke (g:=id) (qA (Xe (qS 1) qI)) qI))) (E2 (DE.FZ (Wn (qA (Wn (qA (Yv (qS 0) Jw (Vw (qP 2)))) (qA (Ii (Xd (qF (Gp (qA (ZH qI)) (qP 3))) Eg))))) (qA (Yv (qS 0) (Vw (qA (Zh (qP 2) qI))) Jw))))) Qe) (Wa (Hd (Hc (qA (Ke (g:=id) (qA (Xe (qS 1) qI)) qI))) (E2 (DE.FZ (Wn (qA (Wn (qA (Yv (qS 0) Jw (Vw (qP 2)))) (qA (Ii (Xd (qF (Zh (qA (Zh (qA (Fp qI qI)) qI)) (qP 3))) Eg))))) (qA (Yv (qS 0) (Vw (qA (Zh (qP 2) qI))) Jw))))) Qe) (E2 (Xt (i:=0) rfl)))))))), ?_⟩;refine Pm.ref Ox (g:=fun xs=>_) ?_;rintro⟨b,c⟩ ⟨h0,h1⟩;simp only at h0 h1;simp only[Ox];symm;have a0:=Oq (c/32) (show (b.length:Int)≠0 by lia);have a1:=Nq (c/32) (show 0<(b.length:Int) by lia);have one:∀z:Int,[PV.int z]=[z].map PV.int:=fun z=>rfl;rw[Ax (by decide)];symm;unfold Zu;by_cases g0:c%32=5
 ·rw[Hb g0,Da g0]
  symm
 ·rw[Fb g0,Qa g0]
  symm;by_cases g1:c%32=6
  ·rw[Hb g1,Da g1]
   symm;rw[E8 (g:=fun _=>1) (fun i hi=>rfl),show ∀n,(List.range n).map (fun _=>(1:Int))=List.replicate n 1 from fun n=>by simp[ZN]];symm
  ·rw[Fb g1,Qa g1]
   symm;by_cases g2:c%32=7
   ·rw[Hb g2,Da g2]
    symm
   ·rw[Fb g2,Qa g2]
    symm;by_cases g3:c%32=8
    ·rw[Hb g3,Da g3]
     symm
    ·rw[Fb g3,Qa g3]
     symm
theorem GQ{b:LI0}{c:Int}(h:1<=b.length/\b.length<=100):Ox.fn [.lst (b.map PV.int),.int c]=.ok (.lst ((Zu b c).map PV.int)):=Pm.fn_eq Ox (b,c) h fun(a:LI0×Int) e=>by simp only[Ox] at e ⊢;walk_at "in"
noncomputable def Ao(n:Nat)(s c:Int):LI0:=
 ((List.replicate n (0:Int)).set (c%n).toNat (s-s/3)).set ((c%n+1)%n).toNat (((List.replicate n (0:Int)).set (c%n).toNat (s-s/3)).getD ((c%n+1)%n).toNat 0+s/3)
noncomputable def Rx:Pm:=⟨Int×Int×Int,fun a=>[.int a.1,.int a.2.1,.int a.2.2],fun a=>1<=a.1/\a.1<=1000,fun a=>.ok (.lst ((Ao a.1.toNat a.2.1 a.2.2).map PV.int))⟩
theorem Zf3(T:Gc K mg)(F:Xb K "_law_laid" "_law_laid" UA f fd):Wb P w K mg base Fc 1 f fd ["pits", "seeds", "cell"] (Tb K 3 .F W0 Rx.fn):=by
 have S:=UL;walk_at "ok";refine⟨_,_,⟨[],[],[],.F⟩,rfl,(Xa (EK (i:=3) UL.nd rfl (Sm rfl T.z_range (Ua (pv 0) Fa)) (fun _ _ _ _=>Ka) rfl) (Xa (pS 4 UL.nd (Zb Ye (pv 2) (pv 0))) (Xa (Cu (Zb Yp (pv 1) (Zb Li (pv 1) Ka)) (Ix (pv 3) (pv 4) Fu)) (Xa (Cu (Zb Uh (pX K (pv 3) (Zb Ye (Zb Uh (pv 4) Ka) (pv 0))) (Zb Li (pv 1) Ka)) (Ix (pv 3) (Zb Ye (Zb Uh (pv 4) Ka) (pv 0)) Fu)) (Jb (Nb (pv 3))))))),(Wa (Aw (i:=3) (Hk (DI.c (Km (Ea (qS 0) Ma))) (qF Gm)) (by decide)) (Wa (zP 4 (Xe (qS 2) (qS 0))) (Wa (Bw (i:=3) rfl (Gp (qS 1) (qA (Hi (qS 1) qI))) (qP 4)) (Wa (Bw (i:=3) rfl (Zh (qX (qO 3) (qA (Xe (qA (Zh (qP 4) qI)) (qS 0)))) (qA (Hi (qS 1) qI))) (qA (Xe (qA (Zh (qP 4) qI)) (qS 0)))) (Rg (qM 3)))))), ?_⟩;refine Pm.ref Rx (g:=fun xs=>_) ?_;rintro⟨m,s,c⟩ ⟨hm,hn⟩;simp only at hm hn;obtain⟨n,rfl⟩:∃n:Nat,m=n:=⟨m.toNat,by lia⟩
 simp only[Rx];symm;rw[E8 (g:=fun _=>0) (fun i hi=>rfl),Kg,show (List.range n).map (fun _=>(0:Int))=List.replicate n 0 by simp[ZN]];have a0:=Oq c (show (n:Int)≠0 by lia);have a1:=Nq c (show (0:Int)<n by lia);have b0:=Oq (c%n+1) (show (n:Int)≠0 by lia);have b1:=Nq (c%n+1) (show (0:Int)<n by lia);have hl:(List.replicate n (0:Int)).length=n:=UD;symm;unfold Ao;generalize List.replicate n (0:Int)=bb at hl
 try rw[Kg]
 try symm
theorem IQ{n s c:Int}(h:1<=n/\n<=1000):Rx.fn [.int n,.int s,.int c]=.ok (.lst ((Ao n.toNat s c).map PV.int)):=Pm.fn_eq Rx (n,s,c) h fun(a:Int×Int×Int) e=>by simp only[Rx] at e ⊢;walk_at "in"
theorem EV{n:Nat}{s c:Int}(hn:2<=n)(hs:0<=s):(Ao n s c).length=n/\(∀x∈Ao n s c,0<=x)/\(Ao n s c).sum=s:=by
 have a0:=Oq c (show (n:Int)≠0 by lia);have a1:=Nq c (show (0:Int)<n by lia);have b0:=Oq (c%n+1) (show (n:Int)≠0 by lia);have b1:=Nq (c%n+1) (show (0:Int)<n by lia);have hl:(List.replicate n (0:Int)).length=n:=UD;have h0:∀x∈List.replicate n (0:Int),0<=x:=fun x hx=>by rw[List.eq_of_mem_replicate hx];lia
 have hz:(List.replicate n (0:Int)).sum=0:=by simp
 unfold Ao;have hg:∀i,(List.replicate n (0:Int)).getD i 0=0:=fun i=>by
  by_cases hi:i<n
  ·simp[Cb,R5,hi]
  ·simp[Cb,R5,hi]
 have hsum:((List.replicate n (0:Int)).set (c%n).toNat (s-s/3)).sum=s-s/3:=by
  rw[T4 (by lia),hz,hg];lia
 have hnn:∀x∈(List.replicate n (0:Int)).set (c%n).toNat (s-s/3),0<=x:=fun x hx=>by
  rcases DN hx with z|z
  ·exact h0 x z
  ·lia
 refine⟨by simp,fun x hx=>?_, ?_⟩
 ·rcases DN hx with z|z
  ·exact hnn x z
  ·have:=R7 hnn ((c%n+1)%n).toNat
   lia
 ·rw[T4 (by rw[Tu,hl];lia),hsum];lia
noncomputable def Em(c:Int)(n:Nat):LI0:=((List.range n).filter fun(i:Nat)=>decide (c/2^i%2=1)).map fun(i:Nat)=>(i:Int)
noncomputable def Bl(c:Int)(n:Nat):LI0:=if Em (c/64) n=[]\/(Em (c/64) n).length=n then [c/64%n] else Em (c/64) n
theorem CQ{c:Int}{n:Nat}(h:1<=n):1<=(Bl c n).length/\(Bl c n).length<=n:=by
 unfold Bl
 split
 ·simp;lia
 ·rename_i q
  refine⟨?_,by unfold Em;rw[Pb];exact Se (S5 _ _) (by simp)⟩;cases e:Em (c/64) n with
  |nil=>exact Eb (.inl e) q
  |cons x xs=>simp
noncomputable def Iv(n:Nat)(c f:Int):LI0:=
 if c%16=1 then []
 else if c%16=2 then (List.range n).map fun(i:Nat)=>(i:Int)
 else if c%16=3 then [n-1,0]
 else if c%16=4 then Bl c n++(Bl c n).drop ((Bl c n).length-1)
 else if c%16=5 then [-1-f]++Bl c n
 else if c%16=6 then Bl c n++[n+f]
 else Bl c n
theorem Zck{n:Nat}{c f:Int}(h:1<=n)(h2:n<=300):(Iv n c f).length<=1000:=by
 have:=CQ (c:=c) h;unfold Iv
 repeat' split
 all_goals try simp
 all_goals lia
noncomputable def Kx:Pm:=⟨Int×Int×Int,fun a=>[.int a.1,.int a.2.1,.int a.2.2],fun a=>1<=a.1/\a.1<=300,fun a=>.ok (.lst ((Iv a.1.toNat a.2.1 a.2.2).map PV.int))⟩
theorem Zfw(T:Gc K mg)(F:Xb K "_law_bars" "_law_bars" T9 f fd):Wb P w K mg base Fc 1 f fd ["pits", "cell", "far"] (Tb K 3 .F W0 Kx.fn):=by
 have S:=Wy;walk_at "ok";refine⟨_,_,⟨[],[],[],.F⟩,rfl,(Xa (M9 (i:=3) Wy.nd rfl (Sm rfl T.z_range (Ua (pv 0) Fa)) (Tr Wy.nd) (fun _ _ _ _=>(R3 (fun _ _ h=>h) (pQ K hu (Zb Ye (Zb Zi7 (Zb Li (pv 1) Ka) (pv 5)) Ka) Ka))) (fun _ _ _ _=>(pv 5)) Ir rfl) (Xa (Ld (PW.pt (Ko (pQ K hu (pv 3) (Vi Fa)) (Fq (pQ K hu (pLe K T.z_len (Ua (pv 3) Fa)) (pv 0))))) (Jb (pS 3 Wy.nd (Vi (Ua (Zb Ye (Zb Li (pv 1) Ka) (pv 0)) Fa)))) Be) (Xa (pS 4 Wy.nd (Zb Ye (pv 1) Ka)) (Xa (Ld (pQ K hu (pv 4) Ka) (Jb (Nb (Vi Fa))) Be) (Xa (Ld (pQ K hu (pv 4) Ka) (Jb (Nb (Ho (Sm rfl T.z_range (Ua (pv 0) Fa)) (fun _ _ _ _=>(pv 5)) Wy.nd rfl))) Be) (Xa (Ld (pQ K hu (pv 4) Ka) (Jb (Nb (Vi (Ua (Zb Yp (pv 0) Ka) (Ua Ka Fa))))) Be) (Xa (Ld (pQ K hu (pv 4) Ka) (Jb (Nb (Zb (Co (K:=K)) (pv 3) (Hx (Xy (K:=K)) (pv 3) (Oy (JK KM Ka)) Ny)))) Be) (Xa (Ld (pQ K hu (pv 4) Ka) (Jb (Nb (Zb (Co (K:=K)) (Vi (Ua (Zb Yp (JK KM Ka) (pv 2)) Fa)) (pv 3)))) Be) (Xa (Ld (pQ K hu (pv 4) Ka) (Jb (Nb (Zb (Co (K:=K)) (pv 3) (Vi (Ua (Zb Uh (pv 0) (pv 2)) Fa))))) Be) (Jb (Nb (pv 3)))))))))))),(Wa (Aw (i:=3) (Tt (k:=1) (DI.c (Km (Ea (qS 0) Ma))) Ov (Hc (qA (Ke (g:=id) (qA (Xe (qA (ZeH (qA (Hi (qS 1) qI)) (qS 5))) qI)) qI))) (qF (DE.grd (qS 5)))) (by decide)) (Wa (Hd (Yn (Hc (qA (Ke (g:=id) (qO 3) (qA (Ii Eg))))) (Hc (qA (Ke (g:=id) (qA (Gf (Ea (qO 3) Ma))) (qS 0))))) (zF 3 (Ii (Xd (qF (Xe (qA (Hi (qS 1) qI)) (qS 0))) Eg))) Qe) (Wa (zP 4 (Xe (qS 1) qI)) (Wa (Hd (Hc (qA (Ke (g:=id) (qP 4) qI))) (Rg (Ii Eg)) Qe) (Wa (Hd (Hc (qA (Ke (g:=id) (qP 4) qI))) (Rg (Hk (DI.c (Km (Ea (qS 0) Ma))) (qF (DE.grd (qS 5))))) Qe) (Wa (Hd (Hc (qA (Ke (g:=id) (qP 4) qI))) (Rg (Ii (Xd (qF (Gp (qS 0) qI)) (Xd (qF Gm) Eg)))) Qe) (Wa (Hd (Hc (qA (Ke (g:=id) (qP 4) qI))) (Rg (Wn (qO 3) (qA (Yv (qO 3) (Vw (qA (ZH qI))) Jw)))) Qe) (Wa (Hd (Hc (qA (Ke (g:=id) (qP 4) qI))) (Rg (Wn (qA (Ii (Xd (qF (Gp (qA (ZH qI)) (qS 2))) Eg))) (qO 3))) Qe) (Wa (Hd (Hc (qA (Ke (g:=id) (qP 4) qI))) (Rg (Wn (qO 3) (qA (Ii (Xd (qF (Zh (qS 0) (qS 2))) Eg))))) Qe) (Rg (qM 3))))))))))), ?_⟩;refine Pm.ref Kx (g:=fun xs=>_) ?_;rintro⟨m,c,f⟩ ⟨h0,h1⟩;simp only at h0 h1;obtain⟨n,rfl⟩:∃n:Nat,m=n:=⟨m.toNat,by lia⟩
 simp only[Kx];symm;rw[DH (p:=fun i=>decide (c/64/2^i%2=1)) (g:=fun(i:Nat)=>.int (i:Int)) (fun i hi=>by
  rw[P5];symm;rw[Zjm (by lia),Kg];symm;by_cases e:c/64/2^i%2=1
  ·rw[Hb e]
   symm
  ·rw[Fb e]
   symm)]
 rw[Kg,show ((List.range n).filter fun i=>decide (c/64/2^i%2=1)).map (fun(i:Nat)=>PV.int (i:Int))=(Em (c/64) n).map PV.int by unfold Em;rw[Sd];rfl];symm;have hk:=CQ (c:=c) (n:=n) (by lia);have hbr:∀X:LI5->RS,((if decide (Em (c/64) n=[])=true then Rr.ok true else Rr.ok (decide (((Em (c/64) n).length:Int)=n))).thenS fun b =>
   if b=true then RS.next [PV.int n,PV.int c,PV.int f,PV.lst [PV.int (c/64%n)],PV.non] else RS.next [PV.int n,PV.int c,PV.int f,PV.lst (List.map PV.int (Em (c/64) n)),PV.non]).seq X=X [PV.int n,PV.int c,PV.int f,PV.lst ((Bl c n).map PV.int),PV.non]:=fun X=>by
  unfold Bl;generalize Em (c/64) n=L;by_cases e:L=[]\/L.length=n
  ·rw[Da e]
   by_cases e2:L=[]
   ·rw[Hb e2];rfl
   ·rw[Fb e2,Qa (by decide),Hb (show (L.length:Int)=n by have:=e.resolve_left e2;lia)];rfl
  ·rw[Qa e,Fb (fun z=>e (.inl z)),Qa (by decide),Fb (fun z=>e (.inr (by lia)))];rfl
 rw[hbr];unfold Iv;generalize Bl c n=L at hk;symm;by_cases g1:c%16=1
 ·rw[Hb g1,Da g1]
  symm
 rw[Fb g1,Qa g1];symm;by_cases g2:c%16=2
 ·rw[Hb g2,Da g2]
  rw[E8 (g:=fun(i:Nat)=>(i:Int)) (fun i hi=>by rw[P5];rfl),Kg];symm
 rw[Fb g2,Qa g2];symm;by_cases g3:c%16=3
 ·rw[Hb g3,Da g3]
  symm
 rw[Fb g3,Qa g3];symm;by_cases g4:c%16=4
 ·rw[Hb g4,Da g4]
  symm;have hs:HT.Gg (L.map PV.int).length 0 (some (-1))=L.length-1:=by
   rw[Pb];unfold HT.Gg;simp;lia
  have ht:HT.Gg (L.map PV.int).length (L.map PV.int).length none=L.length:=by
   rw[Pb];rfl
  rw[show Cp (L.map PV.int) (some (-1)) none=(L.drop (L.length-1)).map PV.int by unfold Cp;rw[hs,ht,List.map_drop,Yk (by simp)]];rw[Xw (by simp;lia)];symm
 rw[Fb g4,Qa g4];symm;have one:∀z:Int,[PV.int z]=[z].map PV.int:=fun z=>rfl;by_cases g5:c%16=5
 ·rw[Hb g5,Da g5]
  symm
 rw[Fb g5,Qa g5];symm;by_cases g6:c%16=6
 ·rw[Hb g6,Da g6]
  symm
 rw[Fb g6,Qa g6];symm
theorem ZcS{n c f:Int}(h:1<=n/\n<=300):Kx.fn [.int n,.int c,.int f]=.ok (.lst ((Iv n.toNat c f).map PV.int)):=Pm.fn_eq Kx (n,c,f) h fun(a:Int×Int×Int) e=>by simp only[Kx] at e ⊢;walk_at "in"
noncomputable def Tx:Pm:=⟨Int×Int,fun a=>[.int a.1,.int a.2],fun a=>0<=a.2/\a.2<=1000000,fun a=>.ok (.int (stir a.1 a.2))⟩
theorem Zf5(T:Gc K mg)(F:Xb K "_law_stirred" "_law_stirred" AA f fd):Wb P w K mg base Fc 1 f fd ["cell", "j"] (Tb K 2 .P W0 Tx.fn):=by
 have S:=DZ;walk_at "ok";refine⟨_,_,⟨[],[],[],.P⟩,rfl,(Xa (pS 2 DZ.nd (Zb Ye (Zb Wp (Zb Uh (Zb Uh (Zb Ye (pv 0) Ka) (Zb Wp Ka (pv 1))) Ka) Ka) Ka)) (Jb (Nb (Zb Li (Zb Ye (Zb Wp (pv 2) (pv 2)) Ka) Ka)))),(Wa (zP 2 (Xe (qA (Ep (qA (Zh (qA (Zh (qA (Xe (qS 0) qI)) (qA (Ep qI (qS 1))))) qI)) qI)) qI)) (Qd (Hi (qA (Xe (qA (Ep (qP 2) (qP 2))) qI)) qI))), ?_⟩;refine Pm.ref Tx (g:=fun xs=>_) ?_;rintro⟨c,j⟩ ⟨h0,h1⟩;simp only at h0 h1;simp only[Tx];symm;rfl
theorem ZcW{c j:Int}(h:0<=j/\j<=1000000):Tx.fn [.int c,.int j]=.ok (.int (stir c j)):=Pm.fn_eq Tx (c,j) h fun(a:Int×Int) e=>by simp only[Tx] at e ⊢;walk_at "in"
def M3(n:Nat)(l:LI0)(i:Nat):Prop:=(0<=l.getD i 0/\l.getD i 0<n)/\(i=0\/l.getD (i-1) 0<l.getD i 0)
theorem Zi0{n:Nat}{l:LI0}(h:∀i<l.length,M3 n l i):l.length<=n:=by
 have key:∀i,i<l.length->(i:Int)<=l.getD i 0:=by
  intro i
  induction i with
  |zero=>intro hi;exact(h 0 hi).1.1
  |succ i ih =>
   intro hi;have h1:=ih (by lia);have h2:=(h (i+1) hi).2;rw[show i+1-1=i by lia] at h2;lia
 by_cases h0:l.length=0
 ·lia
 ·have h1:=key (l.length-1) (by lia)
  have h2:=(h (l.length-1) (by lia)).1.2;lia
theorem Zhz{p:Nat->Prop}(n:Nat)(h:¬∀i<n,p i):∃k,k<n/\¬p k/\∀j<k,p j:=by
 induction n with
 |zero=>exact Eb (fun i hi=>Eb hi (by lia)) h
 |succ n ih =>
  by_cases c:∀i<n,p i
  ·refine⟨n,by lia,fun z=>h fun i hi=>?_,c⟩
   by_cases e:i=n
   ·rw[e];exact z
   ·exact c i (by lia)
  ·obtain⟨k,h1,h2,h3⟩:=ih c
   exact⟨k,by lia,h2,h3⟩
open Classical in
noncomputable def Xj(n:Nat)(l:LI0):Bool:=decide ((∀i<l.length,M3 n l i)/\0<l.length/\l.length<n)
open Classical in
theorem MF{n:Nat}{l:LI0}:Xj n l=true ↔ (∀i<l.length,M3 n l i)/\0<l.length/\l.length<n:=by unfold Xj;exact decide_eq_true_iff
noncomputable def Lx:Pm:=⟨LI0×LI0,fun a=>[.lst (a.1.map PV.int),.lst (a.2.map PV.int)],fun a=>a.1.length<=1000/\a.2.length<=1000,fun a=>.ok (.bl (Xj a.1.length a.2))⟩
theorem Zfx(T:Gc K mg)(F:Xb K "_law_bars_good" "_law_bars_good" W9 f fd):Wb P w K mg base Fc 1 f fd ["board", "bars"] (Tb K 2 .P W0 Lx.fn):=by
 have S:=BZ;walk_at "ok";refine⟨_,_,⟨[],[],[],.P⟩,rfl,(Xa (Jq (Sm rfl T.z_range (Ua (pLe K T.z_len (Ua (pv 1) Fa)) Fa)) (Om 2 BZ.nd) (Jb (Ld (PW.pt (Ko (Zg Nr (pX K (pv 1) (pv 2)) Ka (Df _)) (Ko (Zg O8 (pX K (pv 1) (pv 2)) (pLe K T.z_len (Ua (pv 0) Fa)) (Df _)) (Fq (PW.pt (FK (Zg Yw (pv 2) Ka (Df _)) (GK (Zg O8 (pX K (pv 1) (Zb Yp (pv 2) Ka)) (pX K (pv 1) (pv 2)) (Df _))))))))) (Jb (Nb Wr)) Be))) (Jb (Nb (TX Nr Nr Ka (pLe K T.z_len (Ua (pv 1) Fa)) (pLe K T.z_len (Ua (pv 0) Fa)) (by rfl))))),(Wa (Ip (Γl:=[.S,.S,.U]) (Km (Ea (qA (Gf (Ea (qS 1) Ma))) Ma)) rfl (Gq 2) (DS.out (Y:=⟨[.S,.S,.P],[.S,.S,.U],[.S,.S,.U],.P⟩) (Y':=⟨[.S,.S,.U],[.S,.S,.U],[.S,.S,.U],.P⟩) (Hd (Yn (Hc (qA (Wv (qX (qS 1) (qP 2)) qI))) (Yn (Hc (qA (F7 (qX (qS 1) (qP 2)) (qA (Gf (Ea (qS 0) Ma)))))) (QH (Hc (qA (Tv (qP 2) qI))) (Hc (qA (F7 (qX (qS 1) (qA (Gp (qP 2) qI))) (qX (qS 1) (qP 2)))))))) (Qd Ur) Qe) rfl rfl rfl rfl)) (Qd (ZS (p:=fun i j=>decide (i<j)) (q:=fun i j=>decide (i<j)) qI (qA (Gf (Ea (qS 1) Ma))) (qA (Gf (Ea (qS 0) Ma)))))), ?_⟩;refine Pm.ref Lx (g:=fun xs=>_) ?_;rintro⟨b,l⟩ ⟨hb,hl⟩;simp only at hb hl;simp only[Lx];symm;generalize hw:Vh _ _ _=W;by_cases H:∀i<l.length,M3 b.length l i
 ·obtain⟨ρ',rfl,v,rfl⟩:=Cr hw (fun i ρ=>∃v,ρ=[.lst (b.map PV.int),.lst (l.map PV.int),v]) ⟨_,rfl⟩ (by
   rintro i x ρ hx ⟨v,rfl⟩;obtain⟨hi,rfl⟩:=Fs hx;obtain⟨⟨a0,a1⟩,a2⟩:=H i (by lia);symm;rw[show (0:Int)+(i:Int)=i by lia,Kg,Fb (show ¬(l.getD i 0<0) by lia),Fb (show ¬((b.length:Int)<=l.getD i 0) by lia)];symm;by_cases hz:i=0
   ·rw[Fb (show ¬((0:Int)<i) by lia)]
    symm;exact Wi ⟨_,rfl⟩
   ·rw[Hb (show (0:Int)<i by lia)]
    have hp:l.getD (i-1) 0<l.getD i 0:=a2.resolve_left hz;symm;rw[show ((i:Int)-1).toNat=i-1 by lia,Fb (by lia)];symm;exact Wi ⟨_,rfl⟩)
  symm;have e:(decide (0<(l.length:Int))&&decide ((l.length:Int)<b.length))=Xj b.length l:=by
   rw[Bool.eq_iff_iff,Bool.and_eq_true,decide_eq_true_eq,decide_eq_true_eq,MF];exact⟨fun z=>⟨H,by lia,by lia⟩,fun z=>⟨by lia,by lia⟩⟩
  rw[e]
 ·obtain⟨k,hk,hn,hm⟩:=Zhz _ H
  rw[ZfS hw k (fun i ρ=>∃v,ρ=[.lst (b.map PV.int),.lst (l.map PV.int),v]) ⟨_,rfl⟩ (by
   rintro i x ρ hik hx ⟨v,rfl⟩;obtain⟨hi,rfl⟩:=Fs hx;obtain⟨⟨a0,a1⟩,a2⟩:=hm i hik;symm;rw[show (0:Int)+(i:Int)=i by lia,Kg,Fb (show ¬(l.getD i 0<0) by lia),Fb (show ¬((b.length:Int)<=l.getD i 0) by lia)];symm;by_cases hz:i=0
   ·rw[Fb (show ¬((0:Int)<i) by lia)]
    symm;exact Wi ⟨_,rfl⟩
   ·rw[Hb (show (0:Int)<i by lia)]
    have hp:l.getD (i-1) 0<l.getD i 0:=a2.resolve_left hz;symm;rw[show ((i:Int)-1).toNat=i-1 by lia,Fb (by lia)];symm;exact Wi ⟨_,rfl⟩) (by rw[Sy];lia) (v:=.bl false) (by
   rintro x ρ hx ⟨v,rfl⟩;obtain⟨hi,rfl⟩:=Fs hx;symm;rw[show (0:Int)+(k:Int)=k by lia,Kg];by_cases q1:l.getD k 0<0
   ·rw[Hb q1]
    symm
   ·rw[Fb q1]
    symm;by_cases q2:(b.length:Int)<=l.getD k 0
    ·rw[Hb q2]
     symm
    ·rw[Fb q2]
     symm;have q3:k≠0:=fun z=>hn ⟨⟨by lia,by lia⟩,.inl z⟩;have q4:l.getD k 0<=l.getD (k-1) 0:=Classical.byContradiction fun z=>hn ⟨⟨by lia,by lia⟩,.inr (by lia)⟩;rw[Hb (show (0:Int)<k by lia)];symm;rw[show ((k:Int)-1).toNat=k-1 by lia,Hb q4];symm)]
  symm;rw[Bool.eq_false_iff.mpr fun z=>H (MF.mp z).1]
theorem EQ{b l:LI0}(h:b.length<=1000/\l.length<=1000):Lx.fn [.lst (b.map PV.int),.lst (l.map PV.int)]=.ok (.bl (Xj b.length l)):=Pm.fn_eq Lx (b,l) h fun(a:LI0×LI0) e=>by simp only[Lx] at e ⊢;walk_at "in"
noncomputable def Mx:Pm:=⟨Int×Int,fun a=>[.int a.1,.int a.2],fun a=>(1<=a.1/\a.1<=24)/\0<=a.2/\a.2<=10^60,fun a=>.ok (.int (Ie a.1 a.2))⟩
theorem Zfz(T:Gc K mg)(F:Xb K "_law_count" "_law_count" Y9 f fd):Wb P w K mg base Fc 1 f fd ["pits", "seeds"] (Tb K 2 .P W0 Mx.fn):=by
 have S:=LB;walk_at "ok";refine⟨_,_,⟨[],[],[],.P⟩,rfl,(Xa (pS 2 LB.nd Ka) (Xa (Jq (QK rfl T.z_range (Ua Ka (Ua (pv 0) Fa))) (Om 3 LB.nd) (Jb (pS 2 LB.nd (Zb Li (Zb Wp (pv 2) (Zb Uh (pv 1) (pv 3))) (pv 3))))) (Jb (Nb (pv 2))))),(Wa (zP 2 Gm) (Wa (Ip (Γl:=[.S,.S,.P,.U]) (VH (Ea qI (Ea (qS 0) Ma))) rfl (Gq 3) (DS.out (Y:=⟨[.S,.S,.P,.P],[.S,.S,.P,.U],[.S,.S,.P,.U],.P⟩) (Y':=⟨[.S,.S,.P,.U],[.S,.S,.P,.U],[.S,.S,.P,.U],.P⟩) (zP 2 (Hi (qA (Ep (qP 2) (qA (Zh (qS 1) (qP 3))))) (qP 3))) rfl rfl rfl rfl)) (Qd (Qr (i:=2) rfl)))), ?_⟩;refine Pm.ref Mx (g:=fun xs=>_) ?_;rintro⟨p,s⟩ ⟨⟨hp0,hp⟩,h,hs⟩;simp only at hp0 hp h hs;simp only[Mx];unfold Ie;rw[Qa (by lia)];symm;generalize hw:Vh _ _ _=W;obtain⟨ρ',rfl,v,rfl⟩:=Cr hw (fun i ρ=>∃v,ρ=[.int p,.int s,.int (Jg s i),v]) ⟨_,rfl⟩ (by
  rintro i x ρ hx ⟨v,rfl⟩;obtain⟨hi,rfl⟩:=Fs hx;symm;rw[Q9 ⟨WQ (by lia) hs (by lia),Sq (show (s+(1+(i:Int))).natAbs<=10^61 by lia) XF⟩];symm;exact Wi ⟨.int (1+(i:Int)),by rw[Jg,Int.add_comm 1 (i:Int)]⟩)
 symm;rw[Sy]
theorem FQ{p s:Int}(h:(1<=p/\p<=24)/\0<=s/\s<=10^60):Mx.fn [.int p,.int s]=.ok (.int (Ie p s)):=Pm.fn_eq Mx (p,s) h fun(a:Int×Int) e=>by simp only[Mx] at e ⊢;walk_at "in"
noncomputable def Px:Pm:=⟨LI0,fun a=>[.lst (a.map PV.int)],fun a=>a.length<=1000,fun a=>.ok (.bl (We a))⟩
theorem Zf2(T:Gc K mg)(F:Xb K "_law_good" "_law_good" VA f fd):Wb P w K mg base Fc 1 f fd ["board"] (Tb K 1 .P W0 Px.fn):=by
 have S:=Zkk;walk_at "ok";refine⟨_,_,⟨[],[],[],.P⟩,rfl,(Jb (Nb (Ex (TX P8 P8 Ka (pLe K T.z_len (Ua (pv 0) Fa)) Ka (by rfl)) (Ex (Fx O8 (Lf (Zd2 (K:=K) rfl) rfl T.z_min Zcm (Ua (pv 0) Fa)) Ka (Df _)) (Z4 (Fx P8 (Lf (Tn (K:=K) rfl) rfl T.z_sum Pn (Ua (pv 0) Fa)) (Zb Xp Ka Ka) (Df _))))))),(Qd (Pv (qA (ZS (p:=fun i j=>decide (i<=j)) (q:=fun i j=>decide (i<=j)) qI (qA (Gf (Ea (qS 0) Ma))) qI)) (Pv (qA (F7 (qA (ZeE (Ea (qS 0) Ma))) qI)) (VS (qA (Xn (Ea (qS 0) Ma))) (qA (Fp qI qI)))))), ?_⟩;refine Pm.ref Px (g:=fun xs=>_) ?_;rintro(bs:LI0) (hn:bs.length<=1000);simp only[Px];symm;by_cases h:2<=bs.length/\bs.length<=24
 ·rw[Hb (show (2:Int)<=bs.length by lia),Hb (show (bs.length:Int)<=24 by lia)]
  have hne:bs≠[]:=by intro z;rw[z] at h;simp at h
  symm;rw[Zji hne];symm;by_cases h2:0<=Ll bs
  ·have hall:∀x∈bs,0<=x:=fun x hx=>Int.le_trans h2 (G8 hx)
   rw[Hb h2];symm;unfold We;by_cases h3:bs.sum<=10^60
   ·rw[Hb h3,Hb ⟨h.1,h.2,hall,h3⟩]
   ·rw[Fb h3,Fb fun z=>h3 z.2.2.2]
  ·rw[Fb h2]
   symm;unfold We;rw[Fb fun z=>h2 (z.2.2.1 _ (H8 hne))]
 ·have:(decide ((2:Int)<=bs.length)&&decide ((bs.length:Int)<=24))=false:=by
   rw[<- Bool.decide_and];exact Fb (by lia)
  rw[this];symm;unfold We;rw[Fb fun z=>h ⟨z.1,z.2.1⟩]
theorem HQ{bs:LI0}(h:bs.length<=1000):Px.fn [.lst (bs.map PV.int)]=.ok (.bl (We bs)):=Pm.fn_eq Px bs h fun(a:LI0) e=>by simp only[Px] at e ⊢;walk_at "in"
noncomputable def Vg(way:Int)(b o l:LI0)(g:Bool):Str:=if We b=false\/way=3/\We o=false then "BadBoard" else if g=false then "BadPits" else if way=3/\¬(b.length=o.length/\b.sum=o.sum) then "Unlike" else if 1000<Ie b.length b.sum then "TooMany" else "none"
noncomputable def Nx:Pm:=⟨Int×LI0×LI0×LI0,fun a=>[.int a.1,.lst (a.2.1.map PV.int),.lst (a.2.2.1.map PV.int),.lst (a.2.2.2.map PV.int)],fun a=>a.2.1.length<=1000/\a.2.2.1.length<=1000/\a.2.2.2.length<=1000,fun a=>.ok (.str (Vg a.1 a.2.1 a.2.2.1 a.2.2.2 (Xj a.2.1.length a.2.2.2)))⟩
theorem Zf0(T:Gc K mg)(F:Xb K "_law_due" "_law_due" ZA f fd):Wb P w K mg base Fc 2 f fd ["way", "board", "other", "bars"] (Tb K 4 .P W0 Nx.fn):=by
 have Zbp:=Xc P w base T.ZdL Zco (fun F=>Zfx T F);have Zbr:=Xc P w base T.ZdN Zcq (fun F=>Zfz T F);have FO:=Xc P w base T.ZdQ Zct (fun F=>Zf2 T F);have S:=Zkj;walk_at "ok";refine⟨_,_,⟨[],[],[],.P⟩,rfl,(Xa (Ld (PW.pt (Ko (Bq (Cq (pO FO hr (Ua (pv 1) Fa)))) (Fq (PW.pt (FK (pQ K hu (pv 0) Ka) (GK (Bq (Cq (pO FO hr (Ua (pv 2) Fa)))))))))) (Jb (Nb Mf)) Be) (Xa (Ld (Bq (Cq (pO Zbp hr (Ua (pv 1) (Ua (pv 3) Fa))))) (Jb (Nb Mf)) Be) (Xa (Ld (PW.pt (FK (pQ K hu (pv 0) Ka) (GK (PW.pt (Ko (Zg (Pr (K:=K) hu) (pLe K T.z_len (Ua (pv 1) Fa)) (pLe K T.z_len (Ua (pv 2) Fa)) (Df _)) (Fq (Zg (Pr (K:=K) hu) (Lf (Tn (K:=K) rfl) rfl T.z_sum Pn (Ua (pv 1) Fa)) (Lf (Tn (K:=K) rfl) rfl T.z_sum Pn (Ua (pv 2) Fa)) (Df _)))))))) (Jb (Nb Mf)) Be) (Xa (Ld (Zg Yw (pO Zbr hr (Ua (pLe K T.z_len (Ua (pv 1) Fa)) (Ua (Lf (Tn (K:=K) rfl) rfl T.z_sum Pn (Ua (pv 1) Fa)) Fa))) Ka (Df _)) (Jb (Nb Mf)) Be) (Jb (Nb Mf)))))),(Wa (Hd (Yn (Kp (Lm (qA (Bj (Ea (qS 1) Ma))))) (QH (Hc (qA (Ke (g:=id) (qS 0) qI))) (Kp (Lm (qA (Bj (Ea (qS 2) Ma))))))) (Qd Kf) Qe) (Wa (Hd (Kp (Lm (qA (Bj (Ea (qS 1) (Ea (qS 3) Ma)))))) (Qd Kf) Qe) (Wa (Hd (QH (Hc (qA (Ke (g:=id) (qS 0) qI))) (Yn (Hc (qA (Ke (g:=(!·)) (qA (Gf (Ea (qS 1) Ma))) (qA (Gf (Ea (qS 2) Ma)))))) (Hc (qA (Ke (g:=(!·)) (qA (Xn (Ea (qS 1) Ma))) (qA (Xn (Ea (qS 2) Ma)))))))) (Qd Kf) Qe) (Wa (Hd (Hc (qA (Tv (qA (Bj (Ea (qA (Gf (Ea (qS 1) Ma))) (Ea (qA (Xn (Ea (qS 1) Ma))) Ma)))) qI))) (Qd Kf) Qe) (Qd Kf))))), ?_⟩;refine Pm.ref Nx (g:=fun xs=>_) ?_;rintro⟨way,b,o,l⟩ ⟨hb,ho,hl⟩;simp only at hb ho hl;simp only[Nx];symm;rw[HQ hb];symm;by_cases h1:We b=true
 ·rw[h1]
  have B:=Vr.mp h1;have l1:=B.lo;have l2:=B.hi;have l3:=B.sm;have l4:0<=b.sum:=sum_nn B.nn;symm;by_cases h2:way=3
  ·subst h2
   symm;rw[HQ ho];symm;by_cases h3:We o=true
   ·rw[h3]
    symm;rw[EQ ⟨hb,hl⟩];symm;by_cases h4:Xj b.length l=true
    ·rw[h4]
     symm;by_cases h5:(b.length:Int)=o.length
     ·rw[Hb h5]
      by_cases h6:b.sum=o.sum
      ·rw[Hb h6]
       symm;rw[FQ ⟨⟨by lia,by lia⟩,l4,l3⟩];symm;by_cases h7:1000<Ie b.length b.sum
       ·rw[Hb h7]
        symm;rw[show Vg 3 b o l true = "TooMany" by unfold Vg;rw[Qa (by simp[h1,h3]),Qa (by simp),Qa (fun z=>z.2 ⟨by lia,h6⟩),Da h7]]
       ·rw[Fb h7]
        symm;rw[show Vg 3 b o l true = "none" by unfold Vg;rw[Qa (by simp[h1,h3]),Qa (by simp),Qa (fun z=>z.2 ⟨by lia,h6⟩),Qa h7]]
      ·rw[Fb h6]
       symm;rw[show Vg 3 b o l true = "Unlike" by unfold Vg;rw[Qa (by simp[h1,h3]),Qa (by simp),Da ⟨rfl,fun z=>h6 z.2⟩]]
     ·rw[Fb h5]
      symm;rw[show Vg 3 b o l true = "Unlike" by unfold Vg;rw[Qa (by simp[h1,h3]),Qa (by simp),Da ⟨rfl,fun z=>h5 (by lia)⟩]]
    ·rw[Bool.eq_false_iff.mpr h4]
     symm;rw[show Vg 3 b o l false = "BadPits" by unfold Vg;rw[Qa (by simp[h1,h3]),Da rfl]]
   ·rw[Bool.eq_false_iff.mpr h3]
    symm;rw[show Vg 3 b o l (Xj b.length l) = "BadBoard" by unfold Vg;rw[Da (by simp[h3])]]
  ·rw[Fb h2]
   symm;rw[EQ ⟨hb,hl⟩];symm;by_cases h4:Xj b.length l=true
   ·rw[h4]
    symm;rw[Fb h2];symm;rw[FQ ⟨⟨by lia,by lia⟩,l4,l3⟩];symm;by_cases h7:1000<Ie b.length b.sum
    ·rw[Hb h7]
     symm;rw[show Vg way b o l true = "TooMany" by unfold Vg;rw[Qa (by simp[h1,h2]),Qa (by simp),Qa (fun z=>h2 z.1),Da h7]]
    ·rw[Fb h7]
     symm;rw[show Vg way b o l true = "none" by unfold Vg;rw[Qa (by simp[h1,h2]),Qa (by simp),Qa (fun z=>h2 z.1),Qa h7]]
   ·rw[Bool.eq_false_iff.mpr h4]
    symm;rw[show Vg way b o l false = "BadPits" by unfold Vg;rw[Qa (by simp[h1,h2]),Da rfl]]
 ·rw[Bool.eq_false_iff.mpr h1]
  symm;rw[show Vg way b o l (Xj b.length l) = "BadBoard" by unfold Vg;rw[Da (by simp[h1])]]
theorem ZcU{way:Int}{b o l:LI0}(h:b.length<=1000/\o.length<=1000/\l.length<=1000):Nx.fn [.int way,.lst (b.map PV.int),.lst (o.map PV.int),.lst (l.map PV.int)]=.ok (.str (Vg way b o l (Xj b.length l))):=Pm.fn_eq Nx (way,b,o,l) h fun(a:Int×LI0×LI0×LI0) e=>by simp only[Nx] at e ⊢;walk_at "in"
noncomputable def Bu:Pm:=⟨LI0×Int,fun a=>[.lst (a.1.map PV.int),.int a.2],fun a=>0<=a.2,fun a=>.ok (.int (A7 a.1 a.2.toNat))⟩
theorem Zfy(T:Gc K mg)(F:Xb K "_law_cell_at" "_law_cell_at" X9 f fd):Wb P w K mg base Fc 1 f fd ["script", "k"] (Tb K 2 .P W0 Bu.fn):=by
 have S:=Zki;walk_at "ok";refine⟨_,_,⟨[],[],[],.P⟩,rfl,(Xa (Ld (Zg Nr (pv 1) (pLe K T.z_len (Ua (pv 0) Fa)) (Df _)) (Jb (Nb (Zb Ye (pX K (pv 0) (pv 1)) (Zb Xp Ka Ka)))) Be) (Jb (Nb Ka))),(Wa (Hd (Hc (qA (Wv (qS 1) (qA (Gf (Ea (qS 0) Ma)))))) (Qd (Xe (qX (qS 0) (qS 1)) (qA (Fp qI qI)))) Qe) (Qd Gm)), ?_⟩;refine Pm.ref Bu (g:=fun xs=>_) ?_;rintro⟨ns,k⟩ (hk:0<=k);simp only[Bu];symm;unfold A7;by_cases h:k<ns.length
 ·rw[Hb h]
  symm
 ·rw[Fb h]
  symm;rw[PH (by lia)];rfl
theorem ZcT{ns:LI0}{k:Int}(h:0<=k):Bu.fn [.lst (ns.map PV.int),.int k]=.ok (.int (A7 ns k.toNat)):=Pm.fn_eq Bu (ns,k) h fun(a:LI0×Int) e=>by simp only[Bu] at e ⊢;walk_at "in"
noncomputable def J4:Pm:=⟨Int,fun i=>[.int i],fun _=>True,fun _=>.ok (.bl true)⟩
theorem ZfG(T:Gc K mg)(F:Xb K "is_whole" "is_whole" XA f fd):Wb P w K mg base Fc 1 f fd ["value"] (Tb K 1 .P W0 J4.fn):=by
 have S:=Zks;walk_at "ok";refine⟨_,_,⟨[],[],[],.P⟩,rfl,(Jb (Nb (Ex (Lf (Q7 (K:=K) (n := "int") rfl) rfl T.z_isinstance Vp (Ua (pv 0) (Ua (T3 (v:=.ty "int") rfl T.z_int ZcR rfl) Fa))) (Z4 (ZjF (Lf (Q7 (K:=K) (n := "bool") rfl) rfl T.z_isinstance Vp (Ua (pv 0) (Ua (T3 (v:=.ty "bool") rfl T.z_bool ZcP rfl) Fa)))))))),(Qd (Pv (qA (G7 (qS 0))) (ZeF (qA (G7 (qS 0)))))), ?_⟩;refine Pm.ref J4 (g:=fun xs=>_) ?_;intro (i:Int) _;simp only[J4];symm
theorem Zdj{i:Int}:J4.fn [.int i]=.ok (.bl true):=Pm.fn_eq J4 i trivial fun _ _=>rfl
noncomputable def Ey:Pm:=⟨Int×Int,fun a=>[.int a.1,.int a.2],fun _=>True,fun a=>.ok (.bl (decide (a.2<=a.1)))⟩
theorem MT(T:Gc K mg)(F:Xb K "is_whole_from" "is_whole_from" YA f fd):Wb P w K mg base Fc 2 f fd ["value", "least"] (Tb K 2 .P W0 Ey.fn):=by
 have Zb5:=Xc P w base T.Zeg Zc7 (fun F=>ZfG T F);have S:=Zkt;walk_at "ok";refine⟨_,_,⟨[],[],[],.P⟩,rfl,(Jb (Nb (Ex (pO Zb5 hr (Ua (pv 0) Fa)) (Z4 (Fx O8 (pv 0) (pv 1) (Df _)))))),(Qd (Pv (qA (Bj (Ea (qS 0) Ma))) (F7 (qS 0) (qS 1)))), ?_⟩;refine Pm.ref Ey (g:=fun xs=>_) ?_;rintro⟨i,j⟩ _;simp only[Ey];symm;rw[Zdj];symm
theorem PQ{i j:Int}:Ey.fn [.int i,.int j]=.ok (.bl (decide (j<=i))):=Pm.fn_eq Ey (i,j) trivial fun(a:Int×Int) e=>by simp only[Ey] at e ⊢;walk_at "in"
noncomputable def Dy:Pm:=⟨LI0,fun ns=>[.lst (ns.map PV.int)],fun ns=>ns.length<=1000000,fun ns=>.ok (.bl (decide (∀x∈ns,0<=x)))⟩
theorem ZfD(T:Gc K mg)(F:Xb K "is_list_from_nought" "is_list_from_nought" RA f fd):Wb P w K mg base Fc 3 f fd ["values"] (Tb K 1 .P W0 Dy.fn):=by
 have EE:=Xc P w base T.KR PP (fun F=>MT T F);have S:=HZ;walk_at "ok";refine⟨_,_,⟨[],[],[],.P⟩,rfl,(Jb (Nb (Ex (Lf (Q7 (K:=K) (n := "list") rfl) rfl T.z_isinstance Vp (Ua (pv 0) (Ua (T3 (v:=.ty "list") rfl T.z_list Sn rfl) Fa))) (Z4 (Lf (QG (K:=K) rfl) rfl T.z_all NF (Ua (Ho (Lk (K:=K) (pv 0)) (fun _ _ _ _=>(pO EE hr (Ua (pv 1) (Ua Ka Fa)))) HZ.nd rfl) Fa)))))),(Qd (Pv (qA (G7 (qS 0))) (XG (Ea (qA (Hk (DI.c (Hm (Xt (i:=0) rfl))) (qF (Bj (Ea (qS 1) (Ea qI Ma)))))) Ma)))), ?_⟩;refine Pm.ref Dy (g:=fun xs=>_) ?_;intro (ns:LI0) (hn:ns.length<=1000000);simp only[Dy];symm;rw[YV (g:=fun z=>decide (0<=z)) (fun z _=>PQ)];symm;rw[BP]
theorem Zdg{ns:LI0}(h:ns.length<=1000000):Dy.fn [.lst (ns.map PV.int)]=.ok (.bl (decide (∀x∈ns,0<=x))):=Pm.fn_eq Dy ns h fun(a:LI0) e=>by simp only[Dy] at e ⊢;walk_at "in"
noncomputable def U4:Pm:=⟨Unit,fun _=>[],fun _=>True,fun _=>.ok (.int (10^60))⟩
theorem ZfJ(T:Gc K mg)(F:Xb K "most_seeds" "most_seeds" VB f fd):Wb P w K mg base Fc 1 f fd [] (Tb K 0 .P W0 U4.fn):=by
 have S:=Zku;walk_at "ok";refine⟨_,_,⟨[],[],[],.P⟩,rfl,(Jb (Nb (Zb Xp Ka Ka))),(Qd (Fp qI qI)), ?_⟩;refine Pm.ref U4 (g:=fun xs=>_) ?_;rintro _ _;simp only[U4];symm
theorem Zdl:U4.fn []=.ok (.int (10^60)):=Pm.fn_eq U4 () trivial fun _ _=>rfl
noncomputable def Zs:Pm:=⟨LI0,fun ns=>[.lst (ns.map PV.int)],fun ns=>ns.length<=1000,fun ns=>.ok (.bl (We ns))⟩
theorem ZfC(T:Gc K mg)(F:Xb K "is_board" "is_board" OA f fd):Wb P w K mg base Fc 4 f fd ["board"] (Tb K 1 .P W0 Zs.fn):=by
 have Zb2:=Xc P w base T.Zed Zc4 (fun F=>ZfD T F);have Zb7:=Xc P w base T.Zej ZcA (fun F=>ZfJ T F);have S:=Zkq;walk_at "ok";refine⟨_,_,⟨[],[],[],.P⟩,rfl,(Xa (Ld (Bq (Cq (pO Zb2 hr (Ua (pv 0) Fa)))) (Jb (Nb Wr)) Be) (Xa (Ld (PW.pt (Ko (Zg Nr (pLe K T.z_len (Ua (pv 0) Fa)) (ZK T.c_FEWEST_PITS rfl) (Df _)) (Fq (Zg Yw (pLe K T.z_len (Ua (pv 0) Fa)) (ZK T.c_MOST_PITS rfl) (Df _))))) (Jb (Nb Wr)) Be) (Jb (Nb (Fx P8 (Lf (Tn (K:=K) rfl) rfl T.z_sum Pn (Ua (pv 0) Fa)) (Zj9 Zb7 (hr.mono (by decide)) rfl) (Df _)))))),(Wa (Hd (Kp (Lm (qA (Bj (Ea (qS 0) Ma))))) (Qd Ur) Qe) (Wa (Hd (Yn (Hc (qA (Wv (qA (Gf (Ea (qS 0) Ma))) qI))) (Hc (qA (Tv (qA (Gf (Ea (qS 0) Ma))) qI)))) (Qd Ur) Qe) (Qd (VS (qA (Xn (Ea (qS 0) Ma))) (qA (Bj Ma)))))), ?_⟩;refine Pm.ref Zs (g:=fun xs=>_) ?_;intro (ns:LI0) (hn:ns.length<=1000);simp only[Zs];symm;rw[Zdg (by lia)];symm;by_cases h3:∀x∈ns,0<=x
 ·rw[Hb h3]
  symm;by_cases h1:(ns.length:Int)<2
  ·rw[Hb h1]
   symm;rw[show We ns=false from Fb (by lia)]
  rw[Fb h1];symm;by_cases h2:(24:Int)<ns.length
  ·rw[Hb h2]
   symm;rw[show We ns=false from Fb (by lia)]
  rw[Fb h2];symm;rw[Zdl];symm;by_cases h4:ns.sum<=10^60
  ·rw[Hb h4,Vr.mpr ⟨by lia,by lia,h3,h4⟩]
  ·rw[Fb h4,show We ns=false from Fb (fun z=>h4 z.2.2.2)]
 ·rw[Fb h3]
  symm;rw[show We ns=false from Fb (fun z=>h3 z.2.2.1)]
theorem Zdf{ns:LI0}(h:ns.length<=1000):Zs.fn [.lst (ns.map PV.int)]=.ok (.bl (We ns)):=Pm.fn_eq Zs ns h fun(a:LI0) e=>by simp only[Zs] at e ⊢;walk_at "in"
theorem Zj0:Zs.calm:=fun a q h=>by (simp only[Zs] at h;cases h)
noncomputable def Jy:Pm:=⟨LI0,fun ns=>[.lst (ns.map PV.int)],fun ns=>ns.length<=1000,fun ns=>Ze (if We ns=true then none else some "BadBoard") .non⟩
theorem CT(T:Gc K mg)(F:Xb K "check_board" "check_board" FA f fd):Wb P w K mg base (Cg P w) 5 f fd ["board"] (Tb K 1 .P (W1 K) Jy.fn):=by
 have Zb1:=Xc P w base T.Zec Zc3 (fun F=>ZfC T F);obtain⟨ZlE,UU,Zgp⟩:=E5 T.x_exc (n := "BadBoard") (by decide);refine F.okX Zkm rfl rfl (fun Lb A outer s H E hr=>?_);have hu:=hr.units;refine⟨_,_,⟨[.S],[],[],.P⟩,rfl,(Jb (Ld (Bq (Cq (pO Zb1 hr (Ua (pv 0) Fa)))) (Jb (Py Tw Zgp rfl (T.x_mg _ _ UU) rfl (Ua Mf Fa))) Be)),(Hd (Kp (Lm (qA (Cw (Yd Ug) (Pm.calm_fn Zj0) (Ea (qS 0) Ma))))) (Qw UU (Yd Ug) (by decide) (Ea (qA Kf) Ma)) Qe), ?_⟩;refine Pm.ref Jy (g:=fun xs=>_) ?_;intro (ns:LI0) (hn:ns.length<=1000);simp only[Jy];symm;rw[Zdf hn];symm;by_cases h:We ns=true
 ·rw[h];symm
 ·rw[Bool.not_eq_true] at h
  rw[h];symm
theorem JG{ns:LI0}(h:ns.length<=1000):Jy.fn [.lst (ns.map PV.int)]=Ze (if We ns=true then none else some "BadBoard") .non:=Pm.fn_eq Jy ns h fun a e=>by
 simp only[Jy,List.cons.injEq,PV.lst.injEq,and_true] at e ⊢;rw[Nj e]
noncomputable def Du(l:LI0):Bool:=(List.range (l.length-1)).all fun i=>decide (l.getD i 0<l.getD (i+1) 0)
noncomputable def Vs:Pm:=⟨LI0,fun a=>[.lst (a.map PV.int)],fun a=>a.length<=100000,fun a=>.ok (.bl (Du a))⟩
theorem ZfF(T:Gc K mg)(F:Xb K "is_rising" "is_rising" WA f fd):Wb P w K mg base Fc 1 f fd ["numbers"] (Tb K 1 .P W0 Vs.fn):=by
 have S:=IZ;walk_at "ok";refine⟨_,_,⟨[],[],[],.P⟩,rfl,(Jb (Nb (Lf (QG (K:=K) rfl) rfl T.z_all NF (Ua (Ho (Sm rfl T.z_range (Ua (Zb Yp (pLe K T.z_len (Ua (pv 0) Fa)) Ka) Fa)) (fun _ _ _ _=>(Fx Nr (pX K (pv 0) (pv 1)) (pX K (pv 0) (Zb Uh (pv 1) Ka)) (Df _))) IZ.nd rfl) Fa)))),(Qd (XG (Ea (qA (Hk (DI.c (Km (Ea (qA (Gp (qA (Gf (Ea (qS 0) Ma))) qI)) Ma))) (qF (Wv (qX (qS 0) (qS 1)) (qX (qS 0) (qA (Zh (qS 1) qI))))))) Ma))), ?_⟩;refine Pm.ref Vs (g:=fun xs=>_) ?_;rintro(l:LI0) (hl:l.length<=100000);simp only[Vs];symm;rw[ZhW (g:=fun(i:Nat)=>PV.bl (decide (l.getD i 0<l.getD (i+1) 0))) (fun i hi=>by
  rw[P5];symm;rw[Kg,show ((i:Int)+1).toNat=i+1 by lia])]
 rw[show (List.range ((l.length:Int)-1).toNat).map (fun(i:Nat)=>PV.bl (decide (l.getD i 0<l.getD (i+1) 0)))=((List.range (l.length-1)).map fun(i:Nat)=>decide (l.getD i 0<l.getD (i+1) 0)).map PV.bl by rw[Sd,show ((l.length:Int)-1).toNat=l.length-1 by lia];rfl];symm;unfold Du;rw[List.all_map];rfl
theorem Zdi{l:LI0}(h:l.length<=100000):Vs.fn [.lst (l.map PV.int)]=.ok (.bl (Du l)):=Pm.fn_eq Vs l h fun(a:LI0) e=>by simp only[Vs] at e ⊢;walk_at "in"
theorem Zj2:Vs.calm:=fun a q h=>by (simp only[Vs] at h;cases h)
noncomputable def Js:Pm:=⟨LI0×Int,fun a=>[.lst (a.1.map PV.int),.int a.2],fun _=>True,fun a=>.ok (.bl (decide (0<=a.2/\a.2<a.1.length)))⟩
theorem ZfE(T:Gc K mg)(F:Xb K "is_pit" "is_pit" SA f fd):Wb P w K mg base Fc 3 f fd ["board", "pit"] (Tb K 2 .P W0 Js.fn):=by
 have EE:=Xc P w base T.KR PP (fun F=>MT T F);have S:=Zkr;walk_at "ok";refine⟨_,_,⟨[],[],[],.P⟩,rfl,(Jb (Nb (Ex (pO EE hr (Ua (pv 1) (Ua Ka Fa))) (Z4 (Fx Nr (pv 1) (pLe K T.z_len (Ua (pv 0) Fa)) (Df _)))))),(Qd (Pv (qA (Bj (Ea (qS 1) (Ea qI Ma)))) (Wv (qS 1) (qA (Gf (Ea (qS 0) Ma)))))), ?_⟩;refine Pm.ref Js (g:=fun xs=>_) ?_;rintro⟨ns,p⟩ -;simp only[Js];symm;rw[PQ];symm;by_cases h0:0<=p
 ·rw[Hb h0]
  symm;by_cases h1:p<ns.length
  ·rw[Hb h1,show decide (0<=p/\p<(ns.length:Int))=true from Hb ⟨h0,h1⟩]
  ·rw[Fb h1,show decide (0<=p/\p<(ns.length:Int))=false from Fb (fun z=>h1 z.2)]
 ·rw[Fb h0,show decide (0<=p/\p<(ns.length:Int))=false from Fb (fun z=>h0 z.1)]
  symm
theorem Zdh{ns:LI0}{p:Int}:Js.fn [.lst (ns.map PV.int),.int p]=.ok (.bl (decide (0<=p/\p<ns.length))):=Pm.fn_eq Js (ns,p) trivial fun(a:LI0×Int) e=>by simp only[Js] at e ⊢;walk_at "in"
theorem Zj1:Js.calm:=fun a q h=>by (simp only[Js] at h;cases h)
def Ri(n:Nat)(l:LI0):Prop:=(∀p∈l,0<=p/\p<n)/\Du l=true/\l.length≠0/\l.length≠n
noncomputable instance (n:Nat) (l:LI0):Decidable (Ri n l):=by unfold Ri;infer_instance
noncomputable def Pt(n:Nat)(l:LI0):Option Str:=if Ri n l then none else some "BadPits"
theorem K1{n:Nat}{l:LI0}(h:Ri n l):Pt n l=none:=Da h
theorem Jr{n:Nat}{l:LI0}(h:¬Ri n l):Pt n l=(some "BadPits":Option Str):=Qa h
noncomputable def Zy:Pm:=⟨LI0×LI0,fun a=>[.lst (a.1.map PV.int),.lst (a.2.map PV.int)],fun a=>a.1.length<=1000/\a.2.length<=1000,fun a=>Ze (Pt a.1.length a.2) .non⟩
theorem AT(T:Gc K mg)(F:Xb K "check_barred" "check_barred" EA f fd):Wb P w K mg base (Cg P w) 4 f fd ["board", "barred"] (Tb K 2 .P (W1 K) Zy.fn):=by
 have Zb4:=Xc P w base T.Zef Zc6 (fun F=>ZfF T F);have Zb3:=Xc P w base T.Zee Zc5 (fun F=>ZfE T F);obtain⟨ZlF,Lw,SH⟩:=E5 T.x_exc (n := "BadPits") (by decide);refine F.okX EZ rfl rfl (fun Lb A outer s H E hr=>?_);have hu:=hr.units;refine⟨_,_,⟨[.S,.S],[],[],.P⟩,rfl,(Xa (Ld (PW.pt (Ko (Bq (Cq (Lf (Q7 (K:=K) (n := "list") rfl) rfl T.z_isinstance Vp (Ua (pv 1) (Ua (T3 (v:=.ty "list") rfl T.z_list Sn rfl) Fa))))) (Fq (Bq (Cq (Lf (QG (K:=K) rfl) rfl T.z_all NF (Ua (Ho (Lk (K:=K) (pv 1)) (fun _ _ _ _=>(pO Zb3 hr (Ua (pv 0) (Ua (pv 2) Fa)))) EZ.nd rfl) Fa))))))) (Jb (Py Tw SH rfl (T.x_mg _ _ Lw) rfl (Ua Mf Fa))) Be) (Xa (Ld (Bq (Cq (pO Zb4 hr (Ua (pv 1) Fa)))) (Jb (Py Tw SH rfl (T.x_mg _ _ Lw) rfl (Ua Mf Fa))) Be) (Jb (Ld (PW.pt (Ko (pQ K hu (pLe K T.z_len (Ua (pv 1) Fa)) Ka) (Fq (pQ K hu (pLe K T.z_len (Ua (pv 1) Fa)) (pLe K T.z_len (Ua (pv 0) Fa)))))) (Jb (Py Tw SH rfl (T.x_mg _ _ Lw) rfl (Ua Mf Fa))) Be)))),(Wa (Hd (Yn (Kp (Lm (qA (G7 (qS 1))))) (Kp (Lm (qA (XG (Ea (qA (Hk (DI.c (Hm (Xt (i:=1) rfl))) (qF (Cw (Yd (Yd Ug)) (Pm.calm_fn Zj1) (Ea (qS 0) (Ea (qS 2) Ma)))))) Ma)))))) (Qw Lw (Yd Ug) (by decide) (Ea (qA Kf) Ma)) Qe) (Wa (Hd (Kp (Lm (qA (Cw (Yd Ug) (Pm.calm_fn Zj2) (Ea (qS 1) Ma))))) (Qw Lw (Yd Ug) (by decide) (Ea (qA Kf) Ma)) Qe) (Hd (Yn (Hc (qA (Ke (g:=id) (qA (Gf (Ea (qS 1) Ma))) qI))) (Hc (qA (Ke (g:=id) (qA (Gf (Ea (qS 1) Ma))) (qA (Gf (Ea (qS 0) Ma))))))) (Qw Lw (Yd Ug) (by decide) (Ea (qA Kf) Ma)) Qe))), ?_⟩;refine Pm.ref Zy (g:=fun xs=>_) ?_;rintro⟨b,l⟩ ⟨hb,hl⟩;simp only at hb hl;simp only[Zy];symm;rw[YV (g:=fun z=>decide (0<=z/\z<(b.length:Int))) (fun z _=>Zdh)];symm;rw[BP];by_cases h1:∀x∈l,0<=x/\x<(b.length:Int)
 ·rw[Hb h1]
  symm;rw[Zdi (by lia)];symm;by_cases h2:Du l=true
  ·rw[h2]
   symm;by_cases h3:l.length=0
   ·rw[Hb (show (l.length:Int)=0 by lia),Jr (fun z=>z.2.2.1 h3)]
    symm
   ·rw[Fb (show ¬(l.length:Int)=0 by lia)]
    symm;by_cases h4:l.length=b.length
    ·rw[Hb (show (l.length:Int)=b.length by lia),Jr (fun z=>z.2.2.2 h4)]
     symm
    ·rw[Fb (show ¬(l.length:Int)=b.length by lia),K1 ⟨h1,h2,h3,h4⟩]
     symm
  ·rw[eq_false_of_ne_true h2,Jr (fun z=>h2 z.2.1)]
   symm
 ·rw[Fb h1,Jr (fun z=>h1 z.1)]
  symm
theorem KQ{b l:LI0}(h:b.length<=1000/\l.length<=1000):Zy.fn [.lst (b.map PV.int),.lst (l.map PV.int)]=Ze (Pt b.length l) .non:=Pm.fn_eq Zy (b,l) h fun(a:LI0×LI0) e=>by simp only[Zy] at e ⊢;walk_at "in"
theorem ZcJ:(10:Nat)^61<2^60000:=by
 calc (10:Nat)^61<=(2^4)^61:=MN (by decide) _
  _=2^244:=by rw[<- Nat.pow_mul]
  _<2^60000:=ON (by decide) (by decide)
noncomputable def Xr:Pm:=⟨Int×Int,fun a=>[.int a.1,.int a.2],fun a=>(1<=a.1/\a.1<=24)/\a.2<=10^60,fun a=>.ok (.int (Ie a.1 a.2))⟩
theorem Zf9(T:Gc K mg)(F:Xb K "count_boards" "count_boards" KA f fd):Wb P w K mg base Fc 1 f fd ["pits", "seeds"] (Tb K 2 .P W0 Xr.fn):=by
 have S:=OB;walk_at "ok";refine⟨_,_,⟨[],[],[],.P⟩,rfl,(Xa (Ld (Zg Nr (pv 1) Ka (Df _)) (Jb (Nb Ka)) Be) (Xa (pS 2 OB.nd Ka) (Xa (Jq (QK rfl T.z_range (Ua Ka (Ua (pv 0) Fa))) (Om 3 OB.nd) (Jb (pS 2 OB.nd (Zb Li (Zb Wp (pv 2) (Zb Uh (pv 1) (pv 3))) (pv 3))))) (Jb (Nb (pv 2)))))),(Wa (Hd (Hc (qA (Wv (qS 1) qI))) (Qd Gm) Qe) (Wa (zP 2 Gm) (Wa (Ip (Γl:=[.S,.S,.P,.U]) (VH (Ea qI (Ea (qS 0) Ma))) rfl (Gq 3) (DS.out (Y:=⟨[.S,.S,.P,.P],[.S,.S,.P,.U],[.S,.S,.P,.U],.P⟩) (Y':=⟨[.S,.S,.P,.U],[.S,.S,.P,.U],[.S,.S,.P,.U],.P⟩) (zP 2 (Hi (qA (Ep (qP 2) (qA (Zh (qS 1) (qP 3))))) (qP 3))) rfl rfl rfl rfl)) (Qd (Qr (i:=2) rfl))))), ?_⟩;refine Pm.ref Xr (g:=fun xs=>_) ?_;rintro⟨p,s⟩ ⟨⟨hp0,hp⟩,hs⟩;simp only at hp0 hp hs;simp only[Xr];unfold Ie;symm;by_cases h:s<0
 ·rw[Hb h,Da h]
  symm
 ·rw[Fb h,Qa h]
  symm;generalize hw:Vh _ _ _=W;obtain⟨ρ',rfl,v,rfl⟩:=Cr hw (fun i ρ=>∃v,ρ=[.int p,.int s,.int (Jg s i),v]) ⟨_,rfl⟩ (by
   rintro i x ρ hx ⟨v,rfl⟩;obtain⟨hi,rfl⟩:=Fs hx;symm;rw[Q9 ⟨WQ (by lia) hs (by lia),Sq (show (s+(1+(i:Int))).natAbs<=10^61 by lia) ZcJ⟩];symm;exact Wi ⟨.int (1+(i:Int)),by rw[Jg,Int.add_comm 1 (i:Int)]⟩)
  symm;rw[Sy]
theorem Zda{p s:Int}(h:(1<=p/\p<=24)/\s<=10^60):Xr.fn [.int p,.int s]=.ok (.int (Ie p s)):=Pm.fn_eq Xr (p,s) h fun(a:Int×Int) e=>by simp only[Xr] at e ⊢;walk_at "in"
theorem Zjw:Xr.calm:=fun a q h=>by (simp only[Xr] at h;cases h)
noncomputable def Ik(b:LI0):Option Str:=if 1000<Ie b.length b.sum then some "TooMany" else none
noncomputable def Vy:Pm:=⟨LI0,fun a=>[.lst (a.map PV.int)],fun a=>(1<=a.length/\a.length<=24)/\a.sum<=10^60,fun a=>Ze (Ik a) .non⟩
theorem ET(T:Gc K mg)(F:Xb K "check_few_boards" "check_few_boards" GA f fd):Wb P w K mg base (Cg P w) 2 f fd ["board"] (Tb K 1 .P (W1 K) Vy.fn):=by
 have Zby:=Xc P w base T.ZdX Zc0 (fun F=>Zf9 T F);obtain⟨ZlH,AU,Zgq⟩:=E5 T.x_exc (n := "TooMany") (by decide);refine F.okX Zkn rfl rfl (fun Lb A outer s H E hr=>?_);have hu:=hr.units;refine⟨_,_,⟨[.S],[],[],.P⟩,rfl,(Jb (Ld (Zg Yw (pO Zby hr (Ua (pLe K T.z_len (Ua (pv 0) Fa)) (Ua (Lf (Tn (K:=K) rfl) rfl T.z_sum Pn (Ua (pv 0) Fa)) Fa))) (ZK T.c_MOST_BOARDS rfl) (Df _)) (Jb (Py Tw Zgq rfl (T.x_mg _ _ AU) rfl (Ua Mf Fa))) Be)),(Hd (Hc (qA (Tv (qA (Cw (Yd (Yd Ug)) (Pm.calm_fn Zjw) (Ea (qA (Gf (Ea (qS 0) Ma))) (Ea (qA (Xn (Ea (qS 0) Ma))) Ma)))) qI))) (Qw AU (Yd Ug) (by decide) (Ea (qA Kf) Ma)) Qe), ?_⟩;refine Pm.ref Vy (g:=fun xs=>_) ?_;rintro(b:LI0) ⟨⟨h0,h1⟩,h2⟩;simp only[Vy];symm;rw[Zda ⟨⟨by lia,by lia⟩,h2⟩];symm;by_cases c:1000<Ie b.length b.sum
 ·rw[Hb c,show Ik b=(some "TooMany":Option Str) from Da c]
  symm
 ·rw[Fb c,show Ik b=none from Qa c]
  symm
theorem LQ{b:LI0}(h:(1<=b.length/\b.length<=24)/\b.sum<=10^60):Vy.fn [.lst (b.map PV.int)]=Ze (Ik b) .non:=Pm.fn_eq Vy b h fun(a:LI0) e=>by simp only[Vy] at e ⊢;walk_at "in"
noncomputable def Qi(b l:LI0):Option Str:=if We b=true then match Pt b.length l with
 |none=>Ik b
 |some q=>some q
 else some "BadBoard"
noncomputable def Uy:Pm:=⟨LI0×LI0,fun a=>[.lst (a.1.map PV.int),.lst (a.2.map PV.int)],fun a=>a.1.length<=1000/\a.2.length<=1000,fun a=>Ze (Qi a.1 a.2) .non⟩
theorem FT(T:Gc K mg)(F:Xb K "check_play" "check_play" HA f fd):Wb P w K mg base (Cg P w) 6 f fd ["board", "barred"] (Tb K 2 .P (W1 K) Uy.fn):=by
 have N6:=Qk (P:=P) (w:=w) (base:=base) T.ER KP (fun F=>CT T F);have VE:=Qk (P:=P) (w:=w) (base:=base) T.DR IP (fun F=>AT T F);have UE:=Qk (P:=P) (w:=w) (base:=base) T.FR LP (fun F=>ET T F);refine F.okX Zko rfl rfl (fun Lb A outer s H E hr=>?_);have hu:=hr.units;refine⟨_,_,⟨[.S,.S],[],[],.P⟩,rfl,(Xa (Mi (Oj N6 (hr.mono (by decide)) rfl Rm (Ua (pv 0) Fa))) (Xa (Mi (Oj VE (hr.mono (by decide)) rfl Rm (Ua (pv 0) (Ua (pv 1) Fa)))) (Jb (Mi (Oj UE (hr.mono (by decide)) rfl Rm (Ua (pv 0) Fa)))))),(Wa (Zk (qA (Lo (Ea (qS 0) Ma)))) (Wa (Zk (qA (Lo (Ea (qS 0) (Ea (qS 1) Ma))))) (Zk (qA (Lo (Ea (qS 0) Ma)))))), ?_⟩;refine Pm.ref Uy (g:=fun xs=>_) ?_;rintro⟨b,l⟩ ⟨hb,hl⟩;simp only at hb hl;simp only[Uy];symm;rw[JG (by lia)];unfold Qi;by_cases h1:We b=true
 ·rw[Da h1,Da h1]
  simp only[Ze];symm;rw[KQ ⟨by lia,by lia⟩];by_cases h2:Ri b.length l
  ·rw[K1 h2]
   simp only[Ze];have B:=Vr.mp h1;have l1:=B.lo;have l2:=B.hi;have l3:=B.sm;symm;rw[LQ ⟨⟨by lia,by lia⟩,l3⟩];unfold Ik
   split<;>symm
  ·rw[Jr h2]
   symm
 ·rw[Qa h1,Qa h1]
  symm
theorem MQ{b l:LI0}(h:b.length<=1000/\l.length<=1000):Uy.fn [.lst (b.map PV.int),.lst (l.map PV.int)]=Ze (Qi b l) .non:=Pm.fn_eq Uy (b,l) h fun(a:LI0×LI0) e=>by simp only[Uy] at e ⊢;walk_at "in"
noncomputable def Cs:Pm:=⟨LI1,fun ts=>[.lst (ts.map Ya)],fun ts=>(∀t∈ts,t≠[]/\t.length<=1000)/\ts.length<=100000,fun ts=>.ok (.lst ((Ni ts).map Kl))⟩
theorem NT(T:Gc K mg)(F:Xb K "rising_boards" "rising_boards" BB f fd):Wb P w K mg base Fc 1 f fd ["boards"] (Tb K 1 .F W0 Cs.fn):=by
 have S:=KZ;walk_at "ok";refine⟨_,_,⟨[],[],[],.F⟩,rfl,(Jb (Nb (Ho (Lk (K:=K) (Lf (Zd5 (K:=K)) rfl T.z_sorted OF (Ua (pv 0) Fa))) (fun _ _ _ _=>(Ak (T1 (K:=K)) rfl T.z_list Sn (Ua (pv 1) Fa))) KZ.nd rfl))),(Rg (Hk (DI.c (Hm (DE.FZ (ZeK (Ea (qS 0) Ma))))) (U2 (Ea (qS 1) Ma)))), ?_⟩;refine Pm.ref Cs (g:=fun xs=>_) ?_;rintro(ts:LI1) ⟨h1,h2⟩;simp only[Cs];symm;have hl:(Ni ts).length=ts.length:=(Pj ts).length_eq;rw[Zjp ⟨fun t ht=>(h1 t ht).1,by lia⟩,BJ Lp (by lia)];symm;rw[RI (g:=fun x=>match x with|.tup ys=>.lst ys|_=>.non) (fun x hx=>by
  obtain⟨t,ht,rfl⟩:=Nd.mp hx;have:=(h1 t ((Pj ts).mem_iff.mp ht)).2;unfold Ya;show Uq [.tup (t.map PV.int)]=_;simp only[Uq];rw[Xw (by lia)])]
 symm;rw[Sd];rfl
theorem RQ{ts:LI1}(h:(∀t∈ts,t≠[]/\t.length<=1000)/\ts.length<=100000):Cs.fn [.lst (ts.map Ya)]=.ok (.lst ((Ni ts).map Kl)):=Pm.fn_eq Cs ts h (fun(a:LI1) e=>by
 have e':a=ts:=by
  simp only[Cs,List.cons.injEq,PV.lst.injEq,and_true] at e;exact U5 e
 rw[e'])
theorem OX:Cs.calm:=fun a q h=>by (simp only[Cs] at h;cases h)
noncomputable def Yr:Pm:=⟨LI0×LI0,fun a=>[.lst (a.1.map PV.int),.lst (a.2.map PV.int)],fun a=>a.1.length<=1000,fun a=>.ok (.lst ((Ha a.1.length a.2).map PV.int))⟩
theorem M2(T:Gc K mg)(F:Xb K "free_pits" "free_pits" MA f fd):Wb P w K mg base Fc 1 f fd ["board", "barred"] (Tb K 2 .F W0 Yr.fn):=by
 have S:=BL;walk_at "ok";refine⟨_,_,⟨[],[],[],.F⟩,rfl,(Jb (Nb (X3 (Sm rfl T.z_range (Ua (pLe K T.z_len (Ua (pv 0) Fa)) Fa)) (Tr BL.nd) (fun _ _ _ _=>(R3 (fun _ _ h=>h) (Zg (SW (K:=K) hu) (pv 2) (pv 1) rfl))) (fun _ _ _ _=>(pv 2)) Ir BL.nd rfl))),(Rg (Tt (k:=1) (DI.c (Km (Ea (qA (Gf (Ea (qS 0) Ma))) Ma))) Ov (Hc (qA (JS (g:=(!·)) (qS 2) (qS 1)))) (qF (DE.grd (qS 2))))), ?_⟩;refine Pm.ref Yr (g:=fun xs=>_) ?_;rintro⟨b,l⟩ (hb:b.length<=1000);simp only[Yr];symm;rw[DH (p:=fun i=>decide ((i:Int) ∉ l)) (g:=fun(i:Nat)=>.int (i:Int)) (fun i hi=>by
  rw[P5];symm;rw[KJ];symm;by_cases e:(i:Int)∈l
  ·rw[Hb e,Fb (fun z=>z e)]
   symm
  ·rw[Fb e,Hb e]
   symm)]
 symm;unfold Ha;rw[Sd,Kg];rfl
theorem O1{b l:LI0}(h:b.length<=1000):Yr.fn [.lst (b.map PV.int),.lst (l.map PV.int)]=.ok (.lst ((Ha b.length l).map PV.int)):=Pm.fn_eq Yr (b,l) h fun(a:LI0×LI0) e=>by simp only[Yr] at e ⊢;walk_at "in"
theorem NX:Yr.calm:=fun a q h=>by (simp only[Yr] at h;cases h)
noncomputable def Hy:Pm:=⟨LI0×Int,fun a=>[.tup (a.1.map PV.int),.int a.2],fun a=>0<=a.2/\a.2<a.1.length/\a.1.length<=1000,fun a=>.ok (XJ (Yy a))⟩
theorem ZfO(T:Gc K mg)(F:Xb K "sow_pit" "sow_pit" EB f fd):Wb P w K mg base Fc 1 f fd ["board", "pit"] (Tb K 2 .F W0 Hy.fn):=by
 have S:=Hs;walk_at "ok";refine⟨_,_,⟨[],[],[],.F⟩,rfl,(Xa (pS 2 Hs.nd (pLe K T.z_len (Ua (pv 0) Fa))) (Xa (pS 3 Hs.nd (Zb Li (pX K (pv 0) (pv 1)) (pv 2))) (Xa (pS 4 Hs.nd (Zb Ye (pX K (pv 0) (pv 1)) (pv 2))) (Xa (EK (i:=5) Hs.nd rfl (ZjN (K:=K) (pv 0)) (fun _ _ _ _=>(Zb Uh (pv 8) (pv 3))) rfl) (Xa (Cu (pv 3) (Ix (pv 5) (pv 1) Fu)) (Xa (pS 6 Hs.nd (pv 1)) (Xa (Jq (Sm rfl T.z_range (Ua (pv 4) Fa)) (Om 7 Hs.nd) (Xa (pS 6 Hs.nd (Zb Ye (Zb Uh (pv 6) Ka) (pv 2))) (Jb (ZjT (pv 5) (pv 6) (Zgb (K:=K)) Ka OU Fu)))) (Jb (Nb (Ui (Ua (pv 5) (Ua (pv 6) Fa)))))))))))),(Wa (zP 2 (Gf (Ea (qS 0) Ma))) (Wa (zP 3 (Hi (qX (qS 0) (qS 1)) (qP 2))) (Wa (zP 4 (Xe (qX (qS 0) (qS 1)) (qP 2))) (Wa (Aw (i:=5) (Hk (DI.c (ZeT (DE.PZ (DE.grd (qS 0))))) (qF (Zh (qS 8) (qP 3)))) (by decide)) (Wa (Bw (i:=5) rfl (Qr (i:=3) rfl) (qS 1)) (Wa (zP 6 (DE.grd (qS 1))) (Wa (Ip (Γl:=[.S,.S,.P,.P,.P,.O,.P,.U]) (Km (Ea (qP 4) Ma)) rfl (Gq 7) (DS.out (Y:=⟨[.S,.S,.P,.P,.P,.O,.P,.P],[.S,.S,.P,.P,.P,.O,.P,.U],[.S,.S,.P,.P,.P,.O,.P,.U],.F⟩) (Y':=⟨[.S,.S,.P,.P,.P,.O,.P,.U],[.S,.S,.P,.P,.P,.O,.P,.U],[.S,.S,.P,.P,.P,.O,.P,.U],.F⟩) (Wa (zP 6 (Xe (qA (Zh (qP 6) qI)) (qP 2))) (Zfa (i:=5) rfl rfl (qP 6) qI)) rfl rfl rfl rfl)) (Rg (B2 (Xd (qM 5) (Xd (qF (Qr (i:=6) rfl)) Eg))))))))))), ?_⟩;refine Pm.ref Hy (g:=fun xs=>_) ?_;rintro⟨ns,p⟩ ⟨h0,h1,h2⟩;simp only at h0 h1 h2;simp only[Hy];symm
 try rw[Zjc]
 symm
 try rw[P3 h0 h1]
 symm
 try rw[XW (ZR 3 (by lia) (by lia))]
 symm
 try rw[P3 h0 h1]
 symm
 try rw[RJ (show (0:Int)<ns.length by lia)]
 symm
 try rw[ZU]
 symm
 try rw[Zcf]
 symm
 try rw[Sw (by simp;lia)]
 symm;have hc:Xh (fun x=>EJ x (.int (ns.getD p.toNat 0/ns.length))) (ns.map PV.int)=.ok ((ns.map fun z=>z+ns.getD p.toNat 0/ns.length).map PV.int):=by
  rw[RI (g:=fun x=>match x with|.int z=>PV.int (z+ns.getD p.toNat 0/ns.length)|_=>.non)]
  ·simp[Function.comp_def]
  ·intro x hx
   obtain⟨z,_,rfl⟩:=Nd.mp hx;rfl
 rw[hc];symm
 first|rw[TJ h0 (by simp;lia),LL h0 h1]|rw[LL h0 h1]
 symm;have o0:=Oq (ns.getD p.toNat 0) (show (ns.length:Int)≠0 by lia);have o1:=Nq (ns.getD p.toNat 0) (show (0:Int)<ns.length by lia)
 try rw[AX (by lia)]
 symm;generalize hs:ns.getD p.toNat 0/ns.length=rounds;generalize ho:ns.getD p.toNat 0%ns.length=over at o0 o1;generalize hb:(fun(x:PV) (ρ:LI5)=>_)=body;obtain⟨ρ',e1,e2⟩:=OT (b:=body) (xs:=Cj 0 over.toNat) (ρ:=[.tup (ns.map PV.int),.int p,.int ns.length,.int rounds,.int over,.lst ((tab ns.length (Yi ns p 0)).map PV.int),.int p,.non])
  (fun i ρ=>∃v,ρ=[.tup (ns.map PV.int),.int p,.int ns.length,.int rounds,.int over,.lst ((tab ns.length (Yi ns p i)).map PV.int),.int ((p+i)%ns.length),v]) ⟨_,by rw[Int.natCast_zero,Int.add_zero,Pk h0 h1]⟩ (by
  rintro i x ρ hx ⟨v,rfl⟩;obtain⟨hi,rfl⟩:=Fs hx;subst hb;have m1:=G3 h0 h1 (show (0:Int)<=i by lia) (by lia);have m2:=G3 h0 h1 (show (0:Int)<=(i:Int)+1 by lia) (by lia);have e:((p+(i:Int))%ns.length+1)%ns.length=(p+((i:Int)+1))%ns.length:=by
   rw[m1,m2]
   split
   ·rw[show p+(i:Int)+1=p+((i:Int)+1) by lia,m2]
   ·rw[Pk (by lia) (by lia)];split<;>lia
  have b:0<=(p+((i:Int)+1))%ns.length/\(p+((i:Int)+1))%ns.length<ns.length:=by rw[m2];split<;>lia
  symm
  try rw[RJ (by lia)]
  symm
  first|rw[e,MJ b.1 (by rw[Ls];exact b.2)]|rw[e]
  symm;rw[AC (by lia)];have hst:=Zab h0 h1 (i:=i) (by lia);have hset:=TJ (ns:=tab ns.length (Yi ns p i)) (k:=(p+((i:Int)+1))%ns.length) (y:=Yi ns p i ((p+((i:Int)+1))%ns.length).toNat+1) b.1 (by rw[Ls];exact b.2);rw[hst] at hset;rw[hset];symm;exact Wi ⟨_,by rw[show ((i+1:Nat):Int)=(i:Int)+1 by lia]⟩)
 obtain⟨v,rfl⟩:=e2;rw[e1];symm;rw[Sy,Sk o0];show Rr.ok (PV.tup _)=Rr.ok (PV.tup _);unfold Yy Ee YZ;rw[ho]
theorem Zdq{ns:LI0}{p:Int}(h:0<=p/\p<ns.length/\ns.length<=1000):Hy.fn [.tup (ns.map PV.int),.int p]=.ok (XJ (Yy (ns,p))):=
 Pm.fn_eq Hy (ns,p) h fun⟨ns',k'⟩ e=>by
  simp only[Hy,List.cons.injEq,PV.tup.injEq,PV.int.injEq,and_true] at e ⊢;rw[Nj e.1,e.2]
noncomputable def Iy:Pm:=⟨LI0×LI0,fun a=>[Ya a.1,.lst (a.2.map PV.int)],fun a=>(∀p∈a.2,0<=p/\p<a.1.length)/\a.1.length<=1000/\a.2.length<=1000,fun a=>.ok (.lst ((Je a.2 a.1).map Kh))⟩
theorem JU{i:Int}{b:LI0}:grd (.tup [.int i,Ya b])=.ok (.tup [.int i,Ya b]):=by
 unfold grd;simp only[PV.flat,PV.flats,Lp,Bool.and_self,if_true]
theorem IH(T:Gc K mg)(F:Xb K "sowings_of" "sowings_of" FB f fd):Wb P w K mg base Fc 2 f fd ["board", "pits"] (Tb K 2 .F W0 Iy.fn):=by
 have ZbC:=Xc P w base T.Zeq ZcF (fun F=>ZfO T F);have S:=DL;walk_at "ok";refine⟨_,_,⟨[],[],[],.F⟩,rfl,(Jb (Nb (X3 (Lk (K:=K) (pv 1)) (Tr DL.nd) (fun _ _ _ _=>(R3 (fun _ _ h=>h) (Zg Yw (pX K (pv 0) (pv 2)) Ka (Df _)))) (fun _ _ _ _=>(Ui (Ua (pv 2) (Ua (Ak (Lv (K:=K)) rfl T.z_tuple Kv (Ua (pX K (pO ZbC hr (Ua (pv 0) (Ua (pv 2) Fa))) Ka) Fa)) Fa)))) Ir DL.nd rfl))),(Rg (Tt (k:=1) (DI.c (Hm (Xt (i:=1) rfl))) Ov (Hc (qA (Tv (qX (qS 0) (qS 2)) qI))) (qF (DE.grd (Yj (Ea (qS 2) (Ea (Zw (Ea (qX (qA (Nk (Ea (qS 0) (Ea (qS 2) Ma)))) qI) Ma)) Ma))))))), ?_⟩;refine Pm.ref Iy (g:=fun xs=>_) ?_;rintro⟨b,Q⟩ ⟨h0,h1,h2⟩;simp only at h0 h1 h2;simp only[Iy];symm;rw[CH (q:=PV.int) (p:=fun p=>decide (0<b.getD p.toNat 0)) (g:=fun p=>Kh (p,Ee b p)) (fun p hp=>by
  have hp':=h0 p hp;unfold Ya;symm;rw[P3 (by lia) (by lia)];symm;by_cases c:0<b.getD p.toNat 0
  ·rw[Hb c]
   symm;rw[Zdq ⟨by lia,by lia,h1⟩];simp only[XJ,Yy];symm;rw[show Bx [PV.lst ((Ee b p).map PV.int)]=.ok (Ya (Ee b p)) from rfl];symm;rw[JU];symm;rfl
  ·rw[Fb c]
   symm)]
 symm;unfold Je;rw[Sd];rfl
theorem VG{b Q:LI0}(h:(∀p∈Q,0<=p/\p<b.length)/\b.length<=1000/\Q.length<=1000):Iy.fn [Ya b,.lst (Q.map PV.int)]=.ok (.lst ((Je Q b).map Kh)):=Pm.fn_eq Iy (b,Q) h (fun(a:LI0×LI0) e=>by
 have e':a=(b,Q):=by
  simp only[Iy,Ya,List.cons.injEq,PV.tup.injEq,PV.lst.injEq,and_true] at e;exact Prod.ext (Nj e.1) (Nj e.2)
 rw[e'])
theorem Zgd{b:LI0}{i:Int}:grd (.tup [Ya b,.int i])=.ok (.tup [Ya b,.int i]):=by
 unfold grd;simp only[PV.flat,PV.flats,Lp,Bool.and_self,if_true]
theorem Kw{t:LI0}:grd (Ya t)=.ok (Ya t):=ZU
theorem Zaw:∀{a b:LI1},a.map tI=b.map tI->a=b
 |[],[],_=>rfl
 |[],y::b,h=>by simp at h
 |x::a,[],h=>by simp at h
 |x::a,y::b,h=>by
  simp only[Ed,List.cons.injEq] at h;rw[VC h.1,Zaw h.2]
theorem Zz{x:LI0}{bs:LI1}:tI x∈bs.map tI ↔ x∈bs:=by
 constructor
 ·intro h
  obtain⟨y,hy,e⟩:=Nd.mp h;rw[<- VC e];exact hy
 ·exact fun h=>QD h
structure SE(lv:LI1)(Q:LI0)(bs:LI1)(vs:LI5):Prop where
 hl:∀x∈lv,(∀p∈Q,0<=p/\p<x.length)/\x.length<=1000
 hq:Q.length<=1000
 ln:vs.length=bs.length
 sz:bs.length+lv.length*Q.length<=900000
 fl:PV.flats vs=true
theorem Zaa(Q x:LI0):(Je Q x).length<=Q.length:=by
 unfold Je;rw[Pb];exact S5 _ _
structure Oh(n:Nat)(st:NB):Prop where
 ln:st.2.2.length=st.2.1.length
 sz:st.2.1.length<=n
 fz:st.1.length<=n
theorem Oh.step{n:Nat}{st:NB}(h:Oh n st)(x:LI0)(y:Int×LI0):Oh (n+1) (Hg x st y):=by
 have h1:=h.ln;have h2:=h.sz;have h3:=h.fz;unfold Hg
 split
 ·exact⟨h1,by lia,by lia⟩
 ·exact⟨by simp[h1],by simp;lia,by simp;lia⟩
theorem Oh.fold{x:LI0}:∀{L:List (Int×LI0)}{n:Nat}{st:NB},Oh n st->Oh (n+L.length) (L.foldl (Hg x) st)
 |[],n,st,h=>h
 |y::L,n,st,h=>by
  have:=Oh.fold (x:=x) (L:=L) (h.step x y);rw[Ci,show n+(L.length+1)=n+1+L.length by lia];exact this
theorem Oh.up{n m:Nat}{st:NB}(h:Oh n st)(hm:n<=m):Oh m st:=⟨h.ln,Se h.sz hm,Se h.fz hm⟩
theorem Oh.lv{Q:LI0}:∀{lv:LI1}{n:Nat}{st:NB},Oh n st->Oh (n+lv.length*Q.length) (Fg Q lv st)
 |[],n,st,h=>by simpa[Fg] using h
 |x::lv,n,st,h=>by
  have h1:Oh (n+Q.length) (RF Q x st):=(Oh.fold (x:=x) (L:=Je Q x) h).up (by have:=Zaa Q x;lia);have:=Oh.lv (Q:=Q) (lv:=lv) h1;rw[Ci,Nat.add_mul,show n+(lv.length*Q.length+1*Q.length)=n+Q.length+lv.length*Q.length by lia];exact this
noncomputable def Gy:Pm:=⟨LI1×LI0×LI1×LI5,fun a=>[.box none (.dt (a.2.2.1.map tI)) a.2.2.2,.lst (a.1.map Ya),.lst (a.2.1.map PV.int)],fun a=>SE a.1 a.2.1 a.2.2.1 a.2.2.2,fun a=>.ok (.tup [.lst ((Fg a.2.1 a.1 ([],a.2.2)).1.map Ya),.box none (.dt ((Fg a.2.1 a.1 ([],a.2.2)).2.1.map tI)) (Fg a.2.1 a.1 ([],a.2.2)).2.2])⟩
theorem ZfK(T:Gc K mg)(F:Xb K "next_level" "next_level" UB f fd):Wb P w K mg base Fc 3 f fd ["level", "pits", "came_from"] (ML K 2 2 Gy.fnM):=by
 have F0:=Xc P w base T.NG SF (fun F=>IH T F);refine F.okM (n:=2) (j:=2) SB rfl rfl (by decide) (fun Lb A outer s H E hr=>?_);have hu:=hr.units;refine⟨_,_,⟨[.S,.S,.O,.U,.U,.U],[],[],.N⟩,rfl,rfl,(Xa (pS 3 SB.nd (Vi Fa)) (Xa (Jq (Lk (K:=K) (pv 0)) (Om 4 SB.nd) (Jb (Jq (Lk (K:=K) (pO F0 hr (Ua (pv 4) (Ua (pv 1) Fa)))) (Om 5 SB.nd) (Jb (Ld (JY (Zjy (Hl hu) (pX K (pv 5) Ka) (pv 2))) (Xa (ZY (Hl hu) (pv 2) (pX K (pv 5) Ka) (Ui (Ua (pv 4) (Ua (pX K (pv 5) Ka) Fa))) rfl) (Jb (Mi (W3 PySem.F.plainAttrs_list PySem.F.slot_list_append PySem.F.type_list_append UJ (pv 3) (Ua (pX K (pv 5) Ka) Fa))))) Be))))) (Jb (Nb (pv 3))))),(Wa (zF 3 (Ii Eg)) (Wa (Ip (Γl:=[.S,.S,.O,.O,.U,.U]) (Hm (Xt (i:=0) rfl)) rfl (Gq 4) (DS.out (Y:=⟨[.S,.S,.O,.O,.P,.U],[.S,.S,.O,.O,.U,.U],[.S,.S,.O,.O,.U,.U],.N⟩) (Y':=⟨[.S,.S,.O,.O,.U,.U],[.S,.S,.O,.O,.U,.U],[.S,.S,.O,.O,.U,.U],.N⟩) (Ip (Γl:=[.S,.S,.O,.O,.P,.U]) (Hm (DE.FZ (Nk (Ea (qP 4) (Ea (qS 1) Ma))))) rfl (Gq 5) (DS.out (Y:=⟨[.S,.S,.O,.O,.P,.P],[.S,.S,.O,.O,.P,.U],[.S,.S,.O,.O,.P,.U],.N⟩) (Y':=⟨[.S,.S,.O,.O,.P,.U],[.S,.S,.O,.O,.P,.U],[.S,.S,.O,.O,.P,.U],.N⟩) (Hd (Lm (qA (Ze7 (qX (qP 5) qI) (qO 2)))) (Wa (ES (i:=2) rfl (qF (DE.grd (Yj (Ea (qP 4) (Ea (qX (qP 5) qI) Ma))))) (qX (qP 5) qI)) (UH (i:=3) rfl rfl (qF (DE.grd (qX (qP 5) qI))))) Qe) rfl rfl rfl rfl)) rfl rfl rfl rfl)) (Zfb (j:=2) (qM 3) rfl))), ?_⟩;refine Pm.refM2 Gy ?_;rintro⟨lv,Q,bs,vs⟩ (hp:SE lv Q bs vs) a b' xs e;cases e;simp only[Gy];have hq:=hp.hq;have hz:=hp.sz;symm;simp only[ins,AK];symm;generalize hw:Vh _ _ _=W;obtain⟨ρ',rfl,v,w,rfl⟩:=Cr hw (fun i ρ=>∃v w,ρ=[.lst (lv.map Ya),.lst (Q.map PV.int),.box (some a) (.dt ((Fg Q (lv.take i) ([],bs,vs)).2.1.map tI)) (Fg Q (lv.take i) ([],bs,vs)).2.2,.lst ((Fg Q (lv.take i) ([],bs,vs)).1.map Ya),v,w]) ⟨_,_,rfl⟩ (by
  rintro i x ρ hx ⟨v,w,rfl⟩;rw[Dd] at hx;obtain⟨b,hb,rfl⟩:=SN.mp hx;have hi:i<lv.length:=(Cd.mp hb).1;obtain⟨b1,b2⟩:=hp.hl b (Zd hb);have hs:Fg Q (lv.take (i+1)) ([],bs,vs)=(Je Q b).foldl (Hg b) (Fg Q (lv.take i) ([],bs,vs)):=by
   unfold Fg;rw[List.take_succ,hb,List.foldl_append];rfl
  rw[hs];have I0:Oh (bs.length+(lv.take i).length*Q.length) (Fg Q (lv.take i) ([],bs,vs)):=Oh.lv ⟨hp.ln,Db _,Ng _⟩;have hsz:bs.length+(lv.take i).length*Q.length+Q.length<=900000:=by
   have h1:(lv.take i).length=i:=by rw[Ch];lia
   rw[h1];have h2:(i+1)*Q.length<=lv.length*Q.length:=Nat.mul_le_mul_right _ hi;rw[Nat.add_mul] at h2;lia
  generalize Fg Q (lv.take i) ([],bs,vs)=st0 at I0;symm;rw[Kw];symm;rw[VG ⟨b1,b2,hq⟩];symm;have hsl:=Zaa Q b;generalize Je Q b=SL at hsl;generalize hw2:Vh _ _ _=W2;obtain⟨ρ2,rfl,v2,rfl⟩:=Cr hw2 (fun n ρ=>∃v,ρ=[.lst (lv.map Ya),.lst (Q.map PV.int),.box (some a) (.dt (((SL.take n).foldl (Hg b) st0).2.1.map tI)) ((SL.take n).foldl (Hg b) st0).2.2,.lst (((SL.take n).foldl (Hg b) st0).1.map Ya),Ya b,v]) ⟨_,rfl⟩ (by
   rintro n x ρ hx ⟨v,rfl⟩;rw[Dd] at hx;obtain⟨y,hy,rfl⟩:=SN.mp hx;have hn:n<SL.length:=(Cd.mp hy).1;have hs2:(SL.take (n+1)).foldl (Hg b) st0=Hg b ((SL.take n).foldl (Hg b) st0) y:=by
    rw[List.take_succ,hy,List.foldl_append];rfl
   rw[hs2];have I:=Oh.fold (x:=b) (L:=SL.take n) I0;have htl:(SL.take n).length<=Q.length:=by rw[Ch];lia
   generalize (SL.take n).foldl (Hg b) st0=st at I;obtain⟨i1,i2,i3⟩:=I;unfold Kh;rw[JU];symm;rw[TW];symm;unfold Hg;by_cases c:y.2∈st.2.1
   ·obtain⟨z,hz⟩:=IF (ks:=st.2.1.map tI) (xs:=st.2.2) (by rw[Pb];lia) (Zz.mpr c)
    rw[hz,Da c];symm;exact Wi ⟨_,rfl⟩
   ·rw[KF (fun z=>c (Zz.mp z)),Qa c]
    symm;rw[Zgd];symm;rw[WW (by simp only[PV.flat,PV.flats,Lp,Bool.and_self]) (by lia),UY (fun z=>c (Zz.mp z)),QY (fun z=>c (Zz.mp z))];symm;rw[Kw];symm;rw[FJ (by rw[Pb];lia)];symm;refine Wi ⟨.tup [.int y.1,Ya y.2], ?_⟩;rw[Po,Po];rfl)
  symm;refine Wi ⟨Ya b,v2, ?_⟩;rw[Pb,ED])
 symm;rw[Pb,ED];rw[Zke];rfl
theorem Zdm{lv:LI1}{Q:LI0}{bs:LI1}{vs:LI5}(h:SE lv Q bs vs):Gy.fnM (.box none (.dt (bs.map tI)) vs) [.lst (lv.map Ya),.lst (Q.map PV.int)]=.ok (.tup [.lst ((Fg Q lv ([],bs,vs)).1.map Ya),.box none (.dt ((Fg Q lv ([],bs,vs)).2.1.map tI)) (Fg Q lv ([],bs,vs)).2.2]):=Pm.fn_eq Gy (lv,Q,bs,vs) h (fun(a:LI1×LI0×LI1×LI5) e=>by
 have e':a=(lv,Q,bs,vs):=by
  simp only[Gy,List.cons.injEq,PV.lst.injEq,PV.box.injEq,and_true] at e;obtain⟨e1,e2,e3⟩:=e;refine Prod.ext (U5 e2) (Prod.ext (Nj e3) (Prod.ext (Zaw ?_) e1.2.2));have:=e1.2.1;injection this
 rw[e'])
theorem ZiI{b:LI0}:X8 (Ya b) .non=.ok (.box none (.dt [tI b]) [.non]):=by
 rw[FM];unfold X8;simp only[J8]
noncomputable def Es:Pm:=⟨LI0×LI0,fun a=>[.lst (a.1.map PV.int),.lst (a.2.map PV.int)],fun a=>a.1.length<=24/\∃s,Mh a.1.length s (Ha a.1.length a.2) a.1,fun a=>.ok (.box none (.dt ((Od (Ha a.1.length a.2) a.1).map tI)) (wk (Ha a.1.length a.2) a.1 (Tf (Ha a.1.length a.2) a.1)).2.2)⟩
theorem KH(T:Gc K mg)(F:Xb K "walk_from" "walk_from" IB f fd):Wb P w K mg base Fc 4 f fd ["board", "barred"] (Tb K 2 .F W0 Es.fn):=by
 have Yo:=Xc P w base T.Y1 M1 (fun F=>M2 T F);have Zb8:=Xc P w base T.Zek ZcB (fun F=>ZfK T F);have S:=M4;walk_at "ok";refine⟨_,_,⟨[],[],[],.F⟩,rfl,(Xa (pS 2 M4.nd (pO Yo hr (Ua (pv 0) (Ua (pv 1) Fa)))) (Xa (pS 3 M4.nd (ZjB (Hl hu) (Ak (Lv (K:=K)) rfl T.z_tuple Kv (Ua (pv 0) Fa)) I9)) (Xa (pS 4 M4.nd (Vi (Ua (Ak (Lv (K:=K)) rfl T.z_tuple Kv (Ua (pv 0) Fa)) Fa))) (Xa (N9 PassesOwn.never (ZjX (K:=K) (pv 4)) (Jb (pS 4 M4.nd (pO Zb8 hr (Ua (pv 4) (Ua (pv 2) (Ua (pv 3) Fa))))))) (Jb (Nb (pv 3))))))),(Wa (zF 2 (Nk (Ea (qS 0) (Ea (qS 1) Ma)))) (Wa (zF 3 (Ze5 (Zw (Ea (qS 0) Ma)) US)) (Wa (zF 4 (Ii (Xd (qF (DE.grd (Zw (Ea (qS 0) Ma)))) Eg))) (Wa (L7 (Γ:=[.S,.S,.O,.O,.O]) (Zfg (qO 4)) (Zfd (l:=4) (ZeX (i:=3) rfl (Yd (Yd Ug)) (MR (QS (l:=4) (md:=.O) rfl (by decide)) (MR (QS (l:=2) (md:=.O) rfl (by decide)) (Zeu Zev)))) (by decide))) (Rg (qM 3)))))), ?_⟩;refine Pm.ref Es (g:=fun xs=>_) ?_;rintro⟨b,l⟩ ⟨hl,s,F⟩;simp only at hl F;simp only[Es];symm;rw[O1 (by lia)];have hpl:=Gw b.length l;unfold Od;generalize Ha b.length l=Q at F hpl;symm;obtain⟨w1,w2,w3⟩:=F.end;have hT:Bx [PV.lst (b.map PV.int)]=.ok (Ya b):=rfl;rw[hT];symm;rw[ZiI];symm;rw[hT];symm;rw[Kw];symm;generalize hw:Jn _ _ _=W;obtain⟨ρ',rfl,rfl⟩:=HC hw (Tf Q b) (fun i ρ=>ρ=[.lst (b.map PV.int),.lst (l.map PV.int),.lst (Q.map PV.int),.box none (.dt ((wk Q b i).2.1.map tI)) (wk Q b i).2.2,.lst ((wk Q b i).1.map Ya)]) rfl (by
  rintro i ρ hi rfl;have W:=Ek Q b i;have hle:=F.le i;have hsub:(wk Q b i).1.length<=1000:=by
   cases i with
   |zero=>simp[wk]
   |succ i =>
    have:=Uz Q b i;rw[this,Gj] at hle;lia
  constructor
  ·symm
   obtain⟨y,ys,e⟩:=WC (w3 i hi);rw[e];rfl
  ·symm
   rw[Zdu (Zdm (lv:=(wk Q b i).1) (Q:=Q) (bs:=(wk Q b i).2.1) (vs:=(wk Q b i).2.2) ⟨fun x hx=>by
    have B:=(W.re x (W.sub x hx)).bs F.hP F.hb;exact⟨fun p hp=>by have:=F.hP p hp;have:=B.1;lia,by have:=B.1;lia⟩,by lia,W.ln,by
    have:(wk Q b i).1.length*Q.length<=1000*24:=Nat.mul_le_mul hsub (by lia);lia,W.fl⟩)]
   symm;exact Wi rfl) (by
  rintro ρ rfl;rw[w2];symm;rfl)
 symm
theorem UG{b l:LI0}(h:b.length<=24/\∃s,Mh b.length s (Ha b.length l) b):Es.fn [.lst (b.map PV.int),.lst (l.map PV.int)]=.ok (.box none (.dt ((Od (Ha b.length l) b).map tI)) (wk (Ha b.length l) b (Tf (Ha b.length l) b)).2.2):=Pm.fn_eq Es (b,l) h fun(a:LI0×LI0) e=>by simp only[Es] at e ⊢;walk_at "in"
theorem RX:Es.calm:=fun a q h=>by (simp only[Es] at h;cases h)
theorem YX{b l:LI0}(h:Qi b l=none):b.length<=24/\2<=b.length/\Ri b.length l/\Mh b.length b.sum (Ha b.length l) b:=by
 unfold Qi at h
 split at h
 ·rename_i h1
  have B:=Vr.mp h1;by_cases h2:Ri b.length l
  ·rw[K1 h2] at h
   simp only[Ik] at h
   split at h
   ·cases h
   ·rename_i h3
    have l1:=B.lo;exact⟨B.hi,B.lo,h2,⟨by lia,fun p hp=>(Hw.mp hp).1,⟨rfl,B.nn,rfl⟩,by lia⟩⟩
  ·rw[Jr h2] at h
   cases h
 ·cases h
noncomputable def Qy:Pm:=⟨LI0×LI0,fun a=>[.lst (a.1.map PV.int),.lst (a.2.map PV.int)],fun a=>a.1.length<=1000/\a.2.length<=1000,fun a=>Ze (Qi a.1 a.2) (.lst ((Gk (Ha a.1.length a.2) a.1).map Kl))⟩
theorem GT(T:Gc K mg)(F:Xb K "come_to" "come_to" IA f fd):Wb P w K mg base (Cg P w) 7 f fd ["board", "barred"] (Tb K 2 .F (W1 K) Qy.fn):=by
 have QE:=Qk (P:=P) (w:=w) (base:=base) T.GR MP (fun F=>FT T F);have FE:=Xc P w base T.LR RP (fun F=>NT T F);have K0:=Xc P w base T.OG WF (fun F=>KH T F);refine F.okX Zkp rfl rfl (fun Lb A outer s H E hr=>?_);have hu:=hr.units;refine⟨_,_,⟨[],[],[],.F⟩,rfl,(Xa (Mi (Oj QE (hr.mono (by decide)) rfl Rm (Ua (pv 0) (Ua (pv 1) Fa)))) (Jb (Nb (pO FE hr (Ua (Ak (AG rfl) rfl T.z_list Sn (Ua (pO K0 hr (Ua (pv 0) (Ua (pv 1) Fa))) Fa)) Fa))))),(Wa (Zk (qA (Lo (Ea (qS 0) (Ea (qS 1) Ma))))) (Rg (Br (Yd Ug) (Pm.calm_fn OX) (Ea (qA (YG (Ea (qA (Br (Yd (Yd Ug)) (Pm.calm_fn RX) (Ea (qS 0) (Ea (qS 1) Ma)))) Ma))) Ma)))), ?_⟩;refine Pm.ref Qy (g:=fun xs=>_) ?_;rintro⟨b,l⟩ ⟨hb,hl⟩;simp only at hb hl;simp only[Qy];symm;rw[MQ ⟨hb,hl⟩];cases hX:Qi b l with
 |some q =>
  simp only[Ze];symm
 |none =>
  obtain⟨p1,p2,p3,F⟩:=YX hX;simp only[Ze];symm;rw[UG ⟨p1,_,F⟩];symm;have W:=Ek (Ha b.length l) b (Tf (Ha b.length l) b);have hle:=F.le (Tf (Ha b.length l) b);rw[show List.map tI (Od (Ha b.length l) b)=(Od (Ha b.length l) b).map (fun b=>b.map Sum.inl) from rfl,NJ (bs:=Od (Ha b.length l) b) W.ln (by unfold Od;lia)];symm;rw[RQ ⟨fun t ht=>by
   have B:=(F.mem.mp ht).bs F.hP F.hb;exact⟨fun z=>by have:=B.1;rw[z] at this;simp at this;lia,by have:=B.1;lia⟩,by unfold Od;lia⟩]
  symm;rfl
theorem NQ{b l:LI0}(h:b.length<=1000/\l.length<=1000):Qy.fn [.lst (b.map PV.int),.lst (l.map PV.int)]=Ze (Qi b l) (.lst ((Gk (Ha b.length l) b).map Kl)):=Pm.fn_eq Qy (b,l) h fun(a:LI0×LI0) e=>by simp only[Qy] at e ⊢;walk_at "in"
noncomputable def Wm:Pm:=⟨Bool×LI0×LI0,fun a=>[if a.1=true then Ya a.2.1 else .lst (a.2.1.map PV.int),.lst (a.2.2.map PV.int)],fun a=>(∀p∈a.2.2,0<=p/\p<a.2.1.length)/\a.2.2.length<=1000,fun a=>.ok (.int ((a.2.2.map fun p=>a.2.1.getD p.toNat 0).sum))⟩
theorem IT(T:Gc K mg)(F:Xb K "free_seeds" "free_seeds" NA f fd):Wb P w K mg base Fc 1 f fd ["board", "pits"] (Tb K 2 .P W0 Wm.fn):=by
 have S:=GZ;walk_at "ok";refine⟨_,_,⟨[],[],[],.P⟩,rfl,(Jb (Nb (Lf (Tn (K:=K) rfl) rfl T.z_sum Pn (Ua (Ho (Lk (K:=K) (pv 1)) (fun _ _ _ _=>(pX K (pv 0) (pv 2))) GZ.nd rfl) Fa)))),(Qd (Xn (Ea (qA (Hk (DI.c (Hm (Xt (i:=1) rfl))) (qF (DE.grd (qX (qS 0) (qS 2)))))) Ma))), ?_⟩;refine Pm.ref Wm (g:=fun xs=>_) ?_;rintro⟨t,b,Q⟩ ⟨h0,h1⟩;simp only at h0 h1;simp only[Wm];cases t with
 |false =>
  rw[Qa (by simp)];symm;rw[WI (g:=fun p=>b.getD p.toNat 0) (fun p hp=>by
   have:=h0 p hp;symm)]
  symm
 |true =>
  rw[Da rfl];symm;rw[WI (g:=fun p=>b.getD p.toNat 0) (fun p hp=>by
   have:=h0 p hp;unfold Ya;symm;rw[P3 (by lia) (by lia)];symm)]
  symm
theorem OQ{t:Bool}{b Q:LI0}(h:(∀p∈Q,0<=p/\p<b.length)/\Q.length<=1000):Wm.fn (Wm.enc (t,b,Q))=.ok (.int ((Q.map fun p=>b.getD p.toNat 0).sum)):=Pm.fn_eq Wm (t,b,Q) h (fun(a:Bool×LI0×LI0) e=>by
 obtain⟨t',b',Q'⟩:=a;simp only[Wm,List.cons.injEq,PV.lst.injEq,and_true] at e;have e2:=Nj e.2;have e1:b'=b:=by
  have e1:=e.1;unfold Ya at e1;cases t<;>cases t'<;>simp at e1<;>exact Nj e1
 show Rr.ok (PV.int ((Q'.map fun p=>b'.getD p.toNat 0).sum))=_;rw[e1,e2];rfl)
theorem Zdd{b Q:LI0}(h:(∀p∈Q,0<=p/\p<b.length)/\Q.length<=1000):Wm.fn [.lst (b.map PV.int),.lst (Q.map PV.int)]=.ok (.int ((Q.map fun p=>b.getD p.toNat 0).sum)):=OQ (t:=false) h
theorem Zde{b Q:LI0}(h:(∀p∈Q,0<=p/\p<b.length)/\Q.length<=1000):Wm.fn [Ya b,.lst (Q.map PV.int)]=.ok (.int ((Q.map fun p=>b.getD p.toNat 0).sum)):=OQ (t:=true) h
theorem Zjz:Wm.calm:=fun a q h=>by (simp only[Wm] at h;cases h)
theorem RL{x:LI0}(h:∀y∈x,0<=y):∀{Q:LI0},(Q.map fun p=>x.getD p.toNat 0).sum=0 ↔ ∀p∈Q,x.getD p.toNat 0=0
 |[]=>by simp
 |p::Q=>by
  have h1:=R7 h p.toNat;have h2:0<=(Q.map fun p=>x.getD p.toNat 0).sum:=L2.sum_nn fun y hy=>by
   obtain⟨q,_,rfl⟩:=Nd.mp hy;exact R7 h _
  rw[Ed,Jt];constructor
  ·intro e q hq
   rcases Vd.mp hq with rfl|hq
   ·lia
   ·exact(RL h (Q:=Q)).mp (by lia) q hq
  ·intro e
   have e1:=e p (by simp);have e2:=(RL h (Q:=Q)).mpr fun q hq=>e q (by simp[hq]);lia
noncomputable def Cy:Pm:=⟨LI0×LI0,fun a=>[.lst (a.1.map PV.int),.lst (a.2.map PV.int)],fun a=>a.1.length<=1000/\a.2.length<=1000,fun a=>Ze (Qi a.1 a.2) (.lst ((KS (Ha a.1.length a.2) a.1).map Kl))⟩
theorem ZfB(T:Gc K mg)(F:Xb K "ends_of" "ends_of" LA f fd):Wb P w K mg base (Cg P w) 8 f fd ["board", "barred"] (Tb K 2 .F (W1 K) Cy.fn):=by
 have AE:=Qk (P:=P) (w:=w) (base:=base) T.HR NP (fun F=>GT T F);have Yo:=Xc P w base T.Y1 M1 (fun F=>M2 T F);have BE:=Xc P w base T.IR OP (fun F=>IT T F);refine F.okX K4 rfl rfl (fun Lb A outer s H E hr=>?_);have hu:=hr.units;refine⟨_,_,⟨[],[],[],.F⟩,rfl,(Xa (pS 2 K4.nd (Oj AE (hr.mono (by decide)) rfl Rm (Ua (pv 0) (Ua (pv 1) Fa)))) (Xa (pS 3 K4.nd (pO Yo hr (Ua (pv 0) (Ua (pv 1) Fa)))) (Jb (Nb (X3 (Lk (K:=K) (pv 2)) (Tr K4.nd) (fun _ _ _ _=>(R3 (fun _ _ h=>h) (pQ K hu (pO BE hr (Ua (pv 4) (Ua (pv 3) Fa))) Ka))) (fun _ _ _ _=>(pv 4)) Ir K4.nd rfl))))),(Wa (zF 2 (Q4 (Ea (qS 0) (Ea (qS 1) Ma)))) (Wa (zF 3 (Br (Yd (Yd Ug)) (Pm.calm_fn NX) (Ea (qS 0) (Ea (qS 1) Ma)))) (Rg (Ze2 (i:=2) rfl (Hc (qA (Ke (g:=id) (qA (Cw (Yd (Yd Ug)) (Pm.calm_fn Zjz) (Ea (qS 4) (Ea (qO 3) Ma)))) qI))) rfl)))), ?_⟩;refine Pm.ref Cy (g:=fun xs=>_) ?_;rintro⟨b,l⟩ ⟨hb,hl⟩;simp only at hb hl;simp only[Cy];symm;rw[NQ ⟨hb,hl⟩];cases hX:Qi b l with
 |some q =>
  simp only[Ze];symm
 |none =>
  obtain⟨p1,p2,p3,F⟩:=YX hX;simp only[Ze];symm;rw[O1 (by lia)];have hpl:=Gw b.length l;generalize Ha b.length l=Q at F hpl;symm;have hle:(Gk Q b).length<=1000:=by
   unfold Gk;rw[(Pj _).length_eq];exact F.le _
  rw[Sw (by rw[Pb];lia)];symm;rw[CH (q:=Kl) (p:=endB Q) (g:=Kl) (fun x hx=>by
   have B:=(F.com.mp hx).bs F.hP F.hb;have bl:=B.1;rw[show Kl x=.lst (x.map PV.int) from rfl];rw[Zdd ⟨fun p hp=>by have:=F.hP p hp;lia,by lia⟩];symm;have hz:((Q.map fun p=>x.getD p.toNat 0).sum=0) ↔ endB Q x=true:=by
    rw[Zfl];exact RL B.2.1
   by_cases c:endB Q x=true
   ·rw[Hb (hz.mpr c),c]
    symm
   ·rw[Fb (fun z=>c (hz.mp z)),eq_false_of_ne_true c]
    symm)]
  symm;rfl
theorem Zdc{b l:LI0}(h:b.length<=1000/\l.length<=1000):Cy.fn [.lst (b.map PV.int),.lst (l.map PV.int)]=Ze (Qi b l) (.lst ((KS (Ha b.length l) b).map Kl)):=Pm.fn_eq Cy (b,l) h fun(a:LI0×LI0) e=>by simp only[Cy] at e ⊢;walk_at "in"
noncomputable def Ky:Pm:=⟨LI0×LI0×Int,fun a=>[.lst (a.1.map PV.int),.lst (a.2.1.map PV.int),.int a.2.2],fun a=>a.1.length<=24/\(0<=a.2.2/\a.2.2<a.1.length)/\a.2.2 ∉ a.2.1/\∃q∈a.2.1,0<=q/\q<a.1.length,fun a=>.ok (.int (Jh a.1.length a.2.1 a.2.2))⟩
theorem ZfQ(T:Gc K mg)(F:Xb K "steps_to_bar" "steps_to_bar" HB f fd):Wb P w K mg base Fc 1 f fd ["board", "barred", "pit"] (Tb K 3 .P W0 Ky.fn):=by
 have S:=FL;walk_at "ok";refine⟨_,_,⟨[],[],[],.P⟩,rfl,(Xa (pS 3 FL.nd Ka) (Xa (N9 PassesOwn.never (Zg (SW (K:=K) hu) (Zb Ye (Zb Uh (pv 2) (pv 3)) (pLe K T.z_len (Ua (pv 0) Fa))) (pv 1) rfl) (Jb (ZjS (i:=3) FL.nd rfl (by walk_at "lo") Ka OU))) (Jb (Nb (pv 3))))),(Wa (zP 3 Gm) (Wa (L7 (Γ:=[.S,.S,.S,.P]) (Hc (qA (JS (g:=(!·)) (qA (Xe (qA (Zh (qS 2) (qP 3))) (qA (Gf (Ea (qS 0) Ma))))) (qS 1)))) (ZeZ (i:=3) rfl qI)) (Qd (Qr (i:=3) rfl)))), ?_⟩;refine Pm.ref Ky (g:=fun xs=>_) ?_;rintro⟨b,l,p⟩ ⟨hl,⟨p0,p1⟩,hp,hq⟩;simp only at hl p0 p1 hp hq;simp only[Ky];have D:=O7 p0 p1 hp hq;generalize Jh b.length l p=d at D;have d1:=D.d1;have dn:=D.dn;symm;generalize hw:Jn _ _ _=W;obtain⟨ρ',rfl,rfl⟩:=HC hw (d-1) (fun i ρ=>ρ=[.lst (b.map PV.int),.lst (l.map PV.int),.int p,.int ((i:Int)+1)]) rfl (by
  rintro i ρ hi rfl;have m:=D.min (i+1) (by lia) (by lia);constructor
  ·symm
   rw[KJ];symm;rw[show p+((i:Int)+1)=p+((i+1:Nat):Int) by lia,Fb m];symm
  ·symm
   exact Wi (by simp)) (by
  rintro ρ rfl;symm;rw[KJ];symm;rw[show p+(((d-1:Nat):Int)+1)=p+(d:Int) by lia,Hb D.at_];symm)
 symm;rw[show ((d-1:Nat):Int)+1=(d:Int) by lia]
theorem Zds{b l:LI0}{p:Int}(h:b.length<=24/\(0<=p/\p<b.length)/\p ∉ l/\∃q∈l,0<=q/\q<b.length):Ky.fn [.lst (b.map PV.int),.lst (l.map PV.int),.int p]=.ok (.int (Jh b.length l p)):=Pm.fn_eq Ky (b,l,p) h fun(a:LI0×LI0×Int) e=>by simp only[Ky] at e ⊢;walk_at "in"
noncomputable def Aq:Pm:=⟨LI0×LI0×LI0,fun a=>[Ya a.1,.lst (a.2.1.map PV.int),.lst (a.2.2.map PV.int)],fun a=>(∀p∈a.2.1,0<=p/\p<a.1.length)/\a.2.1.length<=1000/\a.2.2.length=a.2.1.length/\(∀x∈a.1,0<=x/\x<=10^60)/\(∀x∈a.2.2,0<=x/\x<=100),
 fun a=>.ok (Ya [(a.2.1.map fun p=>a.1.getD p.toNat 0).sum,((List.range a.2.1.length).map fun i=>a.1.getD (a.2.1.getD i 0).toNat 0*a.2.2.getD i 0).sum])⟩
theorem ZfN(T:Gc K mg)(F:Xb K "seeds_and_steps" "seeds_and_steps" CB f fd):Wb P w K mg base Fc 2 f fd ["board", "pits", "steps"] (Tb K 3 .P W0 Aq.fn):=by
 have BE:=Xc P w base T.IR OP (fun F=>IT T F);have S:=CL;walk_at "ok";refine⟨_,_,⟨[],[],[],.P⟩,rfl,(Jb (Nb (Ui (Ua (pO BE hr (Ua (pv 0) (Ua (pv 1) Fa))) (Ua (Lf (Tn (K:=K) rfl) rfl T.z_sum Pn (Ua (X3 (ZjK (K:=K) rfl T.z_enumerate (Ua (pv 1) Fa)) (Zjv (K:=K) CL.nd rfl) (fun _ _ _ _=>G9) (fun _ _ _ _=>(Zb Wp (pX K (pv 0) (pv 4)) (pX K (pv 2) (pv 3)))) hv2 CL.nd rfl) Fa)) Fa))))),(Qd (DE.grd (Yj (Ea (qA (Bj (Ea (qS 0) (Ea (qS 1) Ma)))) (Ea (qA (Xn (Ea (qA (Tt (k:=2) (DI.c (ZeR (Z2 (Xt (i:=1) rfl) WG))) Zex AH (qF (Ep (qX (qS 0) (qS 4)) (qX (qS 2) (qS 3)))))) Ma))) Ma))))), ?_⟩;refine Pm.ref Aq (g:=fun xs=>_) ?_;rintro⟨b,Q,S⟩ ⟨h0,h1,h2,h3,h4⟩;simp only at h0 h1 h2 h3 h4;simp only[Aq];symm;rw[Zde ⟨h0,by lia⟩];symm;rw[Sw (by rw[Zfm];simp;lia)];symm;rw[Zfp (g:=fun(i:Nat)=>PV.int (b.getD (Q.getD i 0).toNat 0*S.getD i 0)) (fun i hi=>by
  have hq:=h0 (Q.getD i 0) (T2 hi);have e1:=h3 _ (T2 (x:=(Q.getD i 0).toNat) (by lia:(Q.getD i 0).toNat<b.length));have e2:=h4 _ (T2 (by lia:i<S.length));unfold Ya;symm;rw[P3 (by lia) (by lia)];symm;rw[Q9 ⟨Sq (show (b.getD (Q.getD i 0).toNat 0).natAbs<=10^61 by lia) XF,Sq (show (S.getD (i:Int).toNat 0).natAbs<=10^61 by rw[Kg];lia) XF⟩,Kg];symm)]
 symm;rw[show (List.range Q.length).map (fun(i:Nat)=>PV.int (b.getD (Q.getD i 0).toNat 0*S.getD i 0))=((List.range Q.length).map fun(i:Nat)=>b.getD (Q.getD i 0).toNat 0*S.getD i 0).map PV.int by rw[Sd];rfl];symm;rfl
theorem Zdp{b Q S:LI0}(h:(∀p∈Q,0<=p/\p<b.length)/\Q.length<=1000/\S.length=Q.length/\(∀x∈b,0<=x/\x<=10^60)/\(∀x∈S,0<=x/\x<=100)):Aq.fn [Ya b,.lst (Q.map PV.int),.lst (S.map PV.int)]=.ok (Ya [(Q.map fun p=>b.getD p.toNat 0).sum,((List.range Q.length).map fun i=>b.getD (Q.getD i 0).toNat 0*S.getD i 0).sum]):=Pm.fn_eq Aq (b,Q,S) h (fun(a:LI0×LI0×LI0) e=>by
 have e':a=(b,Q,S):=by
  simp only[Aq,Ya,List.cons.injEq,PV.tup.injEq,PV.lst.injEq,and_true] at e;exact Prod.ext (Nj e.1) (Prod.ext (Nj e.2.1) (Nj e.2.2))
 rw[e'])
noncomputable def Ay:Pm:=⟨LI0×LI0,fun a=>[.lst (a.1.map PV.int),.lst (a.2.map PV.int)],fun a=>a.1.length<=24/\∃s,s<=10^60/\Rf a.1.length s a.2 a.1,fun a=>.ok (.lst ((Le a.1.length a.2 a.1).map Ya))⟩
theorem ZfA(T:Gc K mg)(F:Xb K "ends_first" "ends_first" E4 f fd):Wb P w K mg base Fc 6 f fd ["board", "barred"] (Tb K 2 .F W0 Ay.fn):=by
 have Yo:=Xc P w base T.Y1 M1 (fun F=>M2 T F);have ZbE:=Xc P w base T.Zes ZcH (fun F=>ZfQ T F);have K0:=Xc P w base T.OG WF (fun F=>KH T F);have ZbB:=Xc P w base T.Zeo ZcE (fun F=>ZfN T F);refine F.okL RB rfl rfl (fun Lb A outer s H E hcd hr=>?_);obtain⟨c0,P0,hT0,rfl⟩:=Zhi T.l_lam hcd;have hu:=hr.units;refine⟨_,_,⟨[],[],[],.F⟩,rfl,(Xa (pS 2 RB.nd (pO Yo hr (Ua (pv 0) (Ua (pv 1) Fa)))) (Xa (pS 3 RB.nd (Ho (Lk (K:=K) (pv 2)) (fun _ _ _ _=>(pO ZbE hr (Ua (pv 0) (Ua (pv 1) (Ua (pv 4) Fa))))) RB.nd rfl)) (Jb (Nb (ZjG (K:=K) (x := "found") (FN:=["pits", "steps"]) (js:=[2,3]) (k:=3) rfl T.z_sorted OF (Ua (Ak (AG rfl) rfl T.z_list Sn (Ua (pO K0 hr (Ua (pv 0) (Ua (pv 1) Fa))) Fa)) Fa) hT0 rfl rfl (Ht.of (N:=["board", "barred", "pits", "steps"]) (sc:=Mb E4) (by decide +kernel)) (hr.mono (by decide)) (fun f c s H=>SX ZbB (hr.lam (by decide)) rfl (Ua (pv 0) (Ua (pv 1) (Ua (pv 2) Fa))))))))),(Wa (zF 2 (Nk (Ea (qS 0) (Ea (qS 1) Ma)))) (Wa (zF 3 (Hk (ZeS (qO 2)) (qF (Bj (Ea (qS 0) (Ea (qS 1) (Ea (qS 4) Ma))))))) (Rg (ZeJ (m:=Aq.fn) (ja:=2) (jb:=3) (Ea (qA (YG (Ea (qA (Nk (Ea (qS 0) (Ea (qS 1) Ma)))) Ma))) Ma) rfl (by decide) rfl (by decide))))), ?_⟩;refine Pm.ref Ay (g:=fun xs=>_) ?_;rintro⟨b,l⟩ ⟨hl,s,hs,F⟩;simp only at hl F;simp only[Ay];symm;rw[O1 (by lia)];have hpl:=Gw b.length l;symm;rw[WI (g:=fun p=>(Jh b.length l p:Int)) (fun p hp=>by
  obtain⟨q1,q2⟩:=Hw.mp hp;symm;rw[Zds ⟨hl,q1,q2,F.bar⟩];symm)]
 symm;rw[UG ⟨hl,_,F.f⟩];have W:=Ek (Ha b.length l) b (Tf (Ha b.length l) b);have hle:=F.f.le (Tf (Ha b.length l) b);symm;rw[show List.map tI (Od (Ha b.length l) b)=(Od (Ha b.length l) b).map (fun b=>b.map Sum.inl) from rfl,NJ (bs:=Od (Ha b.length l) b) W.ln (by unfold Od;lia)];symm;have hk:∀x∈Od (Ha b.length l) b,Aq.fn [Ya x,.lst ((Ha b.length l).map PV.int),.lst (((Ha b.length l).map fun p=>(Jh b.length l p:Int)).map PV.int)]=.ok (Ya (Uo b.length l x)):=fun x hx=>by
  have B:=(F.f.mem.mp hx).bs F.f.hP F.f.hb;rw[Zdp ⟨fun p hp=>by have:=F.f.hP p hp;have:=B.1;lia,by lia,by simp,fun y hy=>⟨B.2.1 y hy,by have:=FV B.2.1 hy;have:=B.2.2;lia⟩,fun y hy=>by
   obtain⟨p,hp,rfl⟩:=Nd.mp hy;obtain⟨q1,q2⟩:=Hw.mp hp;have:=(O7 q1.1 q1.2 q2 F.bar).dn;lia⟩]
  have hB:((List.range (Ha b.length l).length).map fun i=>x.getD ((Ha b.length l).getD i 0).toNat 0*((Ha b.length l).map fun p=>(Jh b.length l p:Int)).getD i 0)=((Ha b.length l).map fun p=>x.getD p.toNat 0*(Jh b.length l p:Int)):=by
   have:=Ef (List.map fun p=>x.getD p.toNat 0*(Jh b.length l p:Int)) (SI (Ha b.length l) 0);rw[<- this,Sd];refine Xk fun i hi=>?_;have hi:=Dh.mp hi;simp only[Function.comp];congr 1;rw[Cb,Dd,Yc hi,Cb,Yc hi];rfl
  rw[hB];rfl
 rw[Zjo ⟨SY _ _,by unfold Od;lia,fun x hx=>⟨_,_,hk x hx⟩⟩];have hkz:(Od (Ha b.length l) b).map (Qo Aq.fn (.lst ((Ha b.length l).map PV.int)) (.lst (((Ha b.length l).map fun p=>(Jh b.length l p:Int)).map PV.int)))=(Od (Ha b.length l) b).map (Uo b.length l):=Xk fun x hx=>by
  unfold Qo;rw[hk x hx];rfl
 rw[hkz];have hfin:((Qh ((Od (Ha b.length l) b).map (Uo b.length l))).map fun i=>Ya ((Od (Ha b.length l) b).getD i []))=(Le b.length l b).map Ya:=by unfold Le;rw[Sd];rfl
 rw[hfin,BJ Lp (by have:=F.len;lia)];symm
theorem Zdb{b l:LI0}(h:b.length<=24/\∃s,s<=10^60/\Rf b.length s l b):Ay.fn [.lst (b.map PV.int),.lst (l.map PV.int)]=.ok (.lst ((Le b.length l b).map Ya)):=Pm.fn_eq Ay (b,l) h fun(a:LI0×LI0) e=>by simp only[Ay] at e ⊢;walk_at "in"
noncomputable def Qs:Pm:=⟨LI0×LI0,fun a=>[.lst (a.1.map PV.int),.lst (a.2.map PV.int)],fun a=>a.1.length<=24/\∃s,s<=10^60/\Rf a.1.length s a.2 a.1,fun a=>.ok (.box none (.dt ((Le a.1.length a.2 a.1).map tI)) ((Le a.1.length a.2 a.1).map fun x=>.int (Vc (Ha a.1.length a.2) x)))⟩
theorem ZfM(T:Gc K mg)(F:Xb K "ranks_from" "ranks_from" AB f fd):Wb P w K mg base Fc 7 f fd ["board", "barred"] (Tb K 2 .F W0 Qs.fn):=by
 have Yo:=Xc P w base T.Y1 M1 (fun F=>M2 T F);have Zbz:=Xc P w base T.ZdY Zc1 (fun F=>ZfA T F);have F0:=Xc P w base T.NG SF (fun F=>IH T F);have S:=L4;walk_at "ok";refine⟨_,_,⟨[],[],[],.F⟩,rfl,(Xa (pS 2 L4.nd (pO Yo hr (Ua (pv 0) (Ua (pv 1) Fa)))) (Xa (pS 3 L4.nd ZjC) (Xa (Jq (Lk (K:=K) (pO Zbz hr (Ua (pv 0) (Ua (pv 1) Fa)))) (Om 4 L4.nd) (Jb (ZY (Hl hu) (pv 3) (pv 4) (ZjE (K:=K) (i0:=0) rfl rfl T.z_max HP (Ua (Ho (Lk (K:=K) (pO F0 hr (Ua (pv 4) (Ua (pv 2) Fa)))) (fun _ _ _ _=>(Zb Uh (Au (Hl hu) (pv 3) (pX K (pv 5) Ka) (fun _ _=>rfl)) Ka)) L4.nd rfl) Fa) Ka) rfl))) (Jb (Nb (pv 3)))))),(Wa (zF 2 (Nk (Ea (qS 0) (Ea (qS 1) Ma)))) (Wa (zF 3 Ze6) (Wa (Ip (Γl:=[.S,.S,.O,.O,.U]) (Hm (DE.FZ (Nk (Ea (qS 0) (Ea (qS 1) Ma))))) rfl (Gq 4) (DS.out (Y:=⟨[.S,.S,.O,.O,.P],[.S,.S,.O,.O,.U],[.S,.S,.O,.O,.U],.F⟩) (Y':=⟨[.S,.S,.O,.O,.U],[.S,.S,.O,.O,.U],[.S,.S,.O,.O,.U],.F⟩) (ES (i:=3) rfl (qF (ZeD (Ea (qA (Hk (DI.c (Hm (DE.FZ (Nk (Ea (qP 4) (Ea (qO 2) Ma)))))) (qF (Zh (Wt (qO 3) (qX (qS 5) qI)) qI)))) Ma))) (qP 4)) rfl rfl rfl rfl)) (Rg (qM 3))))), ?_⟩;refine Pm.ref Qs (g:=fun xs=>_) ?_;rintro⟨b,l⟩ ⟨hl,s,hs,F⟩;simp only at hl F;simp only[Qs];symm;rw[O1 (by lia)];symm;rw[Zdb ⟨hl,s,hs,F⟩];symm;have Ge:=F.len;have nd:=BH b.length l b;have hpl:=Gw b.length l;generalize hw:Vh _ _ _=W;obtain⟨ρ',rfl,v,rfl⟩:=Cr hw (fun i ρ=>∃v,ρ=[.lst (b.map PV.int),.lst (l.map PV.int),.lst ((Ha b.length l).map PV.int),.box none (.dt (((Le b.length l b).take i).map tI)) (((Le b.length l b).take i).map fun x=>.int (Vc (Ha b.length l) x)),v]) ⟨_,rfl⟩ (by
  rintro i x ρ hx ⟨v,rfl⟩;rw[Dd] at hx;cases hy:(Le b.length l b)[i]? with
  |none=>rw[hy] at hx;cases hx
  |some y =>
   rw[hy] at hx;have hx:x=Ya y:=by simpa using hx.symm
   subst hx;have hi:=(Cd.mp hy).1;have ry:=F.mem.mp (Zd hy);have B:=ry.bs F.f.hP F.f.hb;rw[Kw];symm;rw[VG ⟨fun p hp=>by have:=F.f.hP p hp;have:=B.1;lia,by have:=B.1;lia,by lia⟩];symm;have hsl:(Je (Ha b.length l) y).length<=24:=by
    unfold Je;rw[Pb];exact Se (S5 _ _) (by lia)
   rw[Sw (by rw[Pb];lia)];symm;rw[OI (q:=Kh) (g:=fun z=>.int (Vc (Ha b.length l) z.2+1)) (fun z hz=>by
    obtain⟨z1,z2,z3⟩:=Ks.mp hz;obtain⟨j,hj,ej⟩:=F.ahead hy z1 z2;rw[<- z3] at ej;have k0:=JL (Ha b.length l) z.2;have k1:=ZL (Ha b.length l) z.2;unfold Kh;symm;rw[Sr (GP nd hj ej)];symm)]
   symm;rw[show ((Je (Ha b.length l) y).map fun z=>PV.int (Vc (Ha b.length l) z.2+1))=(((Je (Ha b.length l) y).map fun z=>Vc (Ha b.length l) z.2).map (·+1)).map PV.int by rw[Sd,Sd];rfl,Zjh];symm;have hv:(if ((Je (Ha b.length l) y).map fun z=>Vc (Ha b.length l) z.2).map (·+1)=[] then 0 else Bo (((Je (Ha b.length l) y).map fun z=>Vc (Ha b.length l) z.2).map (·+1)))=Vc (Ha b.length l) y:=by
    rw[(F.go ry).rk];unfold gR;simp only[List.map_eq_nil_iff]
   rw[hv,WW rfl (by rw[Pb,Ch];lia),UY (Zau nd hy),QY (Zau nd hy)];symm;exact Wi ⟨_,by rw[ZaD (f:=tI) hy,ZaD (f:=fun x=>PV.int (Vc (Ha b.length l) x)) hy]⟩)
 symm;rw[Pb,ED]
theorem Zdo{b l:LI0}(h:b.length<=24/\∃s,s<=10^60/\Rf b.length s l b):Qs.fn [.lst (b.map PV.int),.lst (l.map PV.int)]=.ok (.box none (.dt ((Le b.length l b).map tI)) ((Le b.length l b).map fun x=>.int (Vc (Ha b.length l) x))):=Pm.fn_eq Qs (b,l) h fun(a:LI0×LI0) e=>by simp only[Qs] at e ⊢;walk_at "in"
theorem Zj4:Qs.calm:=fun a q h=>by (simp only[Qs] at h;cases h)
noncomputable def Ds:Pm:=⟨LI0×LI0×LI0,fun a=>[Ya a.1,.lst ((Ha a.2.2.length a.2.1).map PV.int),.box none (.dt ((Le a.2.2.length a.2.1 a.2.2).map tI)) ((Le a.2.2.length a.2.1 a.2.2).map fun x=>.int (Vc (Ha a.2.2.length a.2.1) x))],fun a=>a.2.2.length<=24/\(∃s,Rf a.2.2.length s a.2.1 a.2.2)/\Pg (Ha a.2.2.length a.2.1) a.2.2 a.1/\0<Vc (Ha a.2.2.length a.2.1) a.1,fun a=>.ok (Kh (stR (Ha a.2.2.length a.2.1) a.1))⟩
theorem Zft(y:Int×LI0):PV.flat (Kh y)=true:=by
 unfold Kh;simp only[PV.flat,PV.flats,Lp,Bool.and_self]
theorem VU{y:Int×LI0}:grd (Kh y)=.ok (Kh y):=by
 unfold grd;rw[Zft];rfl
theorem E1{E:LI1}{f:LI0->PV}{y:LI0}(nd:E.Nodup)(hy:y∈E):Wc (E.map tI) (E.map f) (tI y)=some (f y):=by
 obtain⟨j,hj⟩:=Ej hy;have:=GP (f:=f) nd (Cd.mp hj).1 hj;rwa [ED] at this
theorem ZfP(T:Gc K mg)(F:Xb K "step_to_rank" "step_to_rank" GB f fd):Wb P w K mg base Fc 3 f fd ["board", "pits", "ranks"] (Tb K 3 .P W0 Ds.fn):=by
 have F0:=Xc P w base T.NG SF (fun F=>IH T F);have S:=EL;walk_at "ok";refine⟨_,_,⟨[],[],[],.P⟩,rfl,(Xa (M9 (i:=3) EL.nd rfl (Lk (K:=K) (pO F0 hr (Ua (pv 0) (Ua (pv 1) Fa)))) (Tr EL.nd) (fun _ _ _ _=>(R3 (fun _ _ h=>h) (pQ K hu (Au (Hl hu) (pv 2) (pX K (pv 4) Ka) (fun _ _=>rfl)) (Zb Yp (Au (Hl hu) (pv 2) (pv 0) (fun _ _=>rfl)) Ka)))) (fun _ _ _ _=>(pv 4)) Ir rfl) (Jb (Nb (pX K (pv 3) Ka)))),(Wa (Aw (i:=3) (Tt (k:=1) (DI.c (Hm (DE.FZ (Nk (Ea (qS 0) (Ea (qS 1) Ma)))))) Ov (Hc (qA (Ke (g:=id) (Wt (qS 2) (qX (qS 4) qI)) (qA (Gp (Wt (qS 2) (qS 0)) qI))))) (qF (DE.grd (qS 4)))) (by decide)) (Qd (DE.grd (qX (qO 3) qI)))), ?_⟩;refine Pm.ref Ds (g:=fun xs=>_) ?_;rintro⟨x,l,b⟩ ⟨hl,⟨s,F⟩,rx,hp⟩;simp only at hl F rx hp;simp only[Ds];have B:=rx.bs F.f.hP F.f.hb;have hpl:=Gw b.length l;have nd:=BH b.length l b;have hx:=F.mem.mpr rx;symm;rw[VG ⟨fun p hp=>by have:=F.f.hP p hp;have:=B.1;lia,by have:=B.1;lia,by lia⟩];symm;have hsl:(Je (Ha b.length l) x).length<=24:=by
  unfold Je;rw[Pb];exact Se (S5 _ _) (by lia)
 rw[Sw (by rw[Pb];lia)];symm;rw[CH (q:=Kh) (p:=fun y=>decide (Vc (Ha b.length l) y.2=Vc (Ha b.length l) x-1)) (g:=Kh) (fun z hz=>by
  obtain⟨z1,z2,z3⟩:=Ks.mp hz;have rz:z.2∈Le b.length l b:=F.mem.mpr (by rw[z3];exact .step rx z1 z2);have k0:=JL (Ha b.length l) x;have k1:=ZL (Ha b.length l) x;rw[VU];unfold Kh;symm;rw[Sr (E1 (f:=fun x=>PV.int (Vc (Ha b.length l) x)) nd rz)];symm;rw[Sr (E1 (f:=fun x=>PV.int (Vc (Ha b.length l) x)) nd hx)];symm;by_cases c:Vc (Ha b.length l) z.2=Vc (Ha b.length l) x-1
  ·rw[Hb c]
   symm
  ·rw[Fb c]
   symm)]
 symm;have hne:=((F.go rx).stR hp).1;unfold stR;cases hf:(Je (Ha b.length l) x).filter fun y=>decide (Vc (Ha b.length l) y.2=Vc (Ha b.length l) x-1) with
 |nil=>exact Eb hf hne
 |cons y ys =>
  rw[Ed,show pIx (PV.lst (Kh y::ys.map Kh)) (.int 0)=.ok (Kh y) by simp[pIx,Dg,Jk]];symm;rw[VU];symm;rfl
theorem Zdr{x l b:LI0}(h:b.length<=24/\(∃s,Rf b.length s l b)/\Pg (Ha b.length l) b x/\0<Vc (Ha b.length l) x):Ds.fn [Ya x,.lst ((Ha b.length l).map PV.int),.box none (.dt ((Le b.length l b).map tI)) ((Le b.length l b).map fun x=>.int (Vc (Ha b.length l) x))]=.ok (Kh (stR (Ha b.length l) x)):=Pm.fn_eq Ds (x,l,b) h (fun(a:LI0×LI0×LI0) e=>by
 obtain⟨x',l',b'⟩:=a;simp only[Ds,Ya,List.cons.injEq,PV.tup.injEq,PV.lst.injEq,and_true] at e;have e1:=Nj e.1;have e2:=Nj e.2.1;show Rr.ok (Kh (stR (Ha b'.length l') x'))=_;rw[e1,e2];rfl)
theorem Zj5:Ds.calm:=fun a q h=>by (simp only[Ds] at h;cases h)
noncomputable def Fy:Pm:=⟨LI0×LI0,fun a=>[.lst (a.1.map PV.int),.lst (a.2.map PV.int)],fun a=>a.1.length<=1000/\a.2.length<=1000,fun a=>Ze (Qi a.1 a.2) (.tup [.lst ((CK (Ha a.1.length a.2) a.1).map Ar),.lst ((Gk (Ha a.1.length a.2) a.1).map (NK (Ha a.1.length a.2)))])⟩
theorem ZjO{b l:LI0}(h:Qi b l=none):b.length<=24/\2<=b.length/\(b.sum<=10^60/\Rf b.length b.sum l b):=by
 unfold Qi at h
 split at h
 ·rename_i h1
  have B:=Vr.mp h1;by_cases h2:Ri b.length l
  ·rw[K1 h2] at h
   simp only[Ik] at h
   split at h
   ·cases h
   ·rename_i h3
    have l1:=B.lo;obtain⟨q,hq⟩:=List.exists_mem_of_ne_nil l (fun z=>h2.2.2.1 (by rw[z];rfl));exact⟨B.hi,B.lo,B.sm,⟨by lia,fun p hp=>(Hw.mp hp).1,⟨rfl,B.nn,rfl⟩,by lia⟩,q,hq,h2.1 q hq⟩
  ·rw[Jr h2] at h
   cases h
 ·cases h
theorem ZfI(T:Gc K mg)(F:Xb K "longest_play" "longest_play" JB f fd):Wb P w K mg base (Cg P w) 8 f fd ["board", "barred"] (Tb K 2 .F (W1 K) Fy.fn):=by
 have QE:=Qk (P:=P) (w:=w) (base:=base) T.GR MP (fun F=>FT T F);have Yo:=Xc P w base T.Y1 M1 (fun F=>M2 T F);have ZbA:=Xc P w base T.Zen ZcD (fun F=>ZfM T F);have ZbD:=Xc P w base T.Zer ZcG (fun F=>ZfP T F);refine F.okX Gs rfl rfl (fun Lb A outer s H E hr=>?_);have hu:=hr.units;refine⟨_,_,⟨[],[],[],.F⟩,rfl,(Xa (Mi (Oj QE (hr.mono (by decide)) rfl Rm (Ua (pv 0) (Ua (pv 1) Fa)))) (Xa (pS 2 Gs.nd (pO Yo hr (Ua (pv 0) (Ua (pv 1) Fa)))) (Xa (pS 3 Gs.nd (pO ZbA hr (Ua (pv 0) (Ua (pv 1) Fa)))) (Xa (pS 4 Gs.nd (Vi Fa)) (Xa (pS 5 Gs.nd (Ak (Lv (K:=K)) rfl T.z_tuple Kv (Ua (pv 0) Fa))) (Xa (PS.nox (N9 PassesOwn.never (Zg Yw (Au (Hl hu) (pv 3) (pv 5) (fun _ _=>rfl)) Ka (Df _)) (Xa (pS 6 Gs.nd (pO ZbD hr (Ua (pv 5) (Ua (pv 2) (Ua (pv 3) Fa))))) (Xa (Mi (W3 PySem.F.plainAttrs_list PySem.F.slot_list_append PySem.F.type_list_append UJ (pv 4) (Ua (Ui (Ua Mf (Ua (pX K (pv 6) Ka) Fa))) Fa))) (Jb (pS 5 Gs.nd (pX K (pv 6) Ka))))))) (Jb (Nb (Ui (Ua (pv 4) (Ua (Ho (Lk (K:=K) (Lf (Zd3 rfl) rfl T.z_sorted OF (Ua (pv 3) Fa))) (fun _ _ _ _=>(Ui (Ua (Ak (T1 (K:=K)) rfl T.z_list Sn (Ua (pv 7) Fa)) (Ua (Au (Hl hu) (pv 3) (pv 7) (fun _ _=>rfl)) Fa)))) Gs.nd rfl) Fa))))))))))),(Wa (Zk (qA (Lo (Ea (qS 0) (Ea (qS 1) Ma))))) (Wa (zF 2 (Br (Yd (Yd Ug)) (Pm.calm_fn NX) (Ea (qS 0) (Ea (qS 1) Ma)))) (Wa (zF 3 (Br (Yd (Yd Ug)) (Pm.calm_fn Zj4) (Ea (qS 0) (Ea (qS 1) Ma)))) (Wa (zF 4 (Ii Eg)) (Wa (zP 5 (DE.grd (Zw (Ea (qS 0) Ma)))) (Wa (L7 (Γ:=[.S,.S,.O,.O,.O,.P,.U]) (Hc (qA (Tv (Wt (qO 3) (qP 5)) qI))) (DS.out (Y:=⟨[.S,.S,.O,.O,.O,.P,.P],[.S,.S,.O,.O,.O,.P,.U],[.S,.S,.O,.O,.O,.P,.U],.F⟩) (Y':=⟨[.S,.S,.O,.O,.O,.P,.U],[.S,.S,.O,.O,.O,.P,.U],[.S,.S,.O,.O,.O,.P,.U],.F⟩) (Wa (zP 6 (Cw (Yd (Yd (Yd Ug))) (Pm.calm_fn Zj5) (Ea (qP 5) (Ea (qO 2) (Ea (qO 3) Ma))))) (Wa (UH (i:=4) rfl rfl (qF (DE.grd (Yj (Ea (qA Kf) (Ea (qX (qP 6) qI) Ma)))))) (zP 5 (DE.grd (qX (qP 6) qI))))) rfl rfl rfl rfl)) (Rg (B2 (Xd (qM 4) (Xd (Hk (DI.c (Hm (DE.FZ (ZeI (Ea (qO 3) Ma))))) (B2 (Xd (U2 (Ea (qS 7) Ma)) (Xd (qF (DE.grd (Wt (qO 3) (qS 7)))) Eg)))) Eg)))))))))), ?_⟩;refine Pm.ref Fy (g:=fun xs=>_) ?_;rintro⟨b,l⟩ ⟨hb,hl⟩;simp only at hb hl;simp only[Fy];symm;rw[MQ ⟨hb,hl⟩];cases hX:Qi b l with
 |some q =>
  simp only[Ze];symm
 |none =>
  obtain⟨p1,p2,hs,F⟩:=ZjO hX;simp only[Ze];symm;rw[O1 (by lia)];symm;rw[Zdo ⟨p1,_,hs,F⟩];symm;have hT:Bx [PV.lst (b.map PV.int)]=.ok (Ya b):=rfl;rw[hT];symm;rw[Kw];symm;have nd:=BH b.length l b;have Ge:=F.len;have hpl:=Gw b.length l;have k0:=JL (Ha b.length l) b;have k1:=ZL (Ha b.length l) b;generalize hw:Jn _ _ _=W;obtain⟨ρ',rfl,v,rfl⟩:=HC hw (Vc (Ha b.length l) b).toNat (fun i ρ=>∃v,ρ=[.lst (b.map PV.int),.lst (l.map PV.int),.lst ((Ha b.length l).map PV.int),.box none (.dt ((Le b.length l b).map tI)) ((Le b.length l b).map fun x=>.int (Vc (Ha b.length l) x)),.lst (((List.range i).map fun j=>(stR (Ha b.length l) (Qq (Ha b.length l) b j)).1).map Ar),Ya (Qq (Ha b.length l) b i),v]) ⟨_,rfl⟩ (by
   rintro i ρ hi ⟨v,rfl⟩;obtain⟨r1,r2⟩:=F.pl i (by lia);have hll:(((List.range i).map fun j=>(stR (Ha b.length l) (Qq (Ha b.length l) b j)).1).map Ar).length=i:=by simp
   constructor
   ·symm
    rw[Sr (E1 (f:=fun x=>PV.int (Vc (Ha b.length l) x)) nd (F.mem.mpr r1))];symm;rw[Hb (by lia)]
   ·symm
    rw[Zdr ⟨p1,⟨_,F⟩,r1,by lia⟩];symm;unfold Kh;symm;rw[FJ (by rw[hll];lia)];symm;rw[Kw];symm;exact Wi ⟨_,by rw[CD,Po,Po];rfl⟩) (by
   rintro ρ ⟨v,rfl⟩;obtain⟨r1,r2⟩:=F.pl (Vc (Ha b.length l) b).toNat (by lia);symm;rw[Sr (E1 (f:=fun x=>PV.int (Vc (Ha b.length l) x)) nd (F.mem.mpr r1))];symm;rw[Fb (by lia)])
  symm;have hle:(Gk (Ha b.length l) b).length<=1000:=by
   unfold Gk;rw[(Pj _).length_eq];exact F.f.le _
  have hcm:Ni (Le b.length l b)=Gk (Ha b.length l) b:=ZkH (N7 _ _ _);rw[show List.map tI (Le b.length l b)=(Le b.length l b).map (fun t=>t.map Sum.inl) from rfl,Zjn (by simp) ⟨fun t ht=>by
   have B:=(F.mem.mp ht).bs F.f.hP F.f.hb;intro z;have:=B.1;rw[z] at this;simp at this;lia,by lia⟩,hcm,BJ Lp (by lia)]
  symm;rw[OI (q:=Ya) (g:=NK (Ha b.length l)) (fun x hx=>by
   have rx:=F.f.com.mp hx;have B:=rx.bs F.f.hP F.f.hb;have hL:Uq [Ya x]=.ok (Kl x):=by
    unfold Ya;show Uq [.tup (x.map PV.int)]=_;simp only[Uq];rw[Xw (by have:=B.1;lia)];rfl
   rw[hL];symm;rw[show (Le b.length l b).map (fun t=>t.map (Sum.inl:Int->Sb))=(Le b.length l b).map tI from rfl,Sr (E1 (f:=fun x=>PV.int (Vc (Ha b.length l) x)) nd (F.mem.mpr rx))];symm;rfl)]
  symm;unfold CK;rfl
theorem Zdk{b l:LI0}(h:b.length<=1000/\l.length<=1000):Fy.fn [.lst (b.map PV.int),.lst (l.map PV.int)]=Ze (Qi b l) (.tup [.lst ((CK (Ha b.length l) b).map Ar),.lst ((Gk (Ha b.length l) b).map (NK (Ha b.length l)))]):=Pm.fn_eq Fy (b,l) h fun(a:LI0×LI0) e=>by simp only[Fy] at e ⊢;walk_at "in"
noncomputable def Vz(b o:LI0):Option Str:=if b.length=o.length/\b.sum=o.sum then none else some "Unlike"
noncomputable def Yx:Pm:=⟨LI0×LI0,fun a=>[.lst (a.1.map PV.int),.lst (a.2.map PV.int)],fun a=>a.1.length<=1000/\a.2.length<=1000,fun a=>Ze (Vz a.1 a.2) .non⟩
theorem Zf8(T:Gc K mg)(F:Xb K "check_alike" "check_alike" DA f fd):Wb P w K mg base (Cg P w) 1 f fd ["board", "other"] (Tb K 2 .P (W1 K) Yx.fn):=by
 obtain⟨ZlI,BU,Zgr⟩:=E5 T.x_exc (n := "Unlike") (by decide);refine F.okX Zkl rfl rfl (fun Lb A outer s H E hr=>?_);have hu:=hr.units;refine⟨_,_,⟨[.S,.S],[],[],.P⟩,rfl,(Jb (Ld (PW.pt (Ko (Zg (Pr (K:=K) hu) (pLe K T.z_len (Ua (pv 0) Fa)) (pLe K T.z_len (Ua (pv 1) Fa)) (Df _)) (Fq (Zg (Pr (K:=K) hu) (Lf (Tn (K:=K) rfl) rfl T.z_sum Pn (Ua (pv 0) Fa)) (Lf (Tn (K:=K) rfl) rfl T.z_sum Pn (Ua (pv 1) Fa)) (Df _))))) (Jb (Py Tw Zgr rfl (T.x_mg _ _ BU) rfl (Ua Mf Fa))) Be)),(Hd (Yn (Hc (qA (Ke (g:=(!·)) (qA (Gf (Ea (qS 0) Ma))) (qA (Gf (Ea (qS 1) Ma)))))) (Hc (qA (Ke (g:=(!·)) (qA (Xn (Ea (qS 0) Ma))) (qA (Xn (Ea (qS 1) Ma))))))) (Qw BU (Yd Ug) (by decide) (Ea (qA Kf) Ma)) Qe), ?_⟩;refine Pm.ref Yx (g:=fun xs=>_) ?_;rintro⟨b,o⟩ ⟨h1,h2⟩;simp only at h1 h2;simp only[Yx];symm;by_cases c:(b.length:Int)=o.length
 ·rw[Hb c]
  symm;by_cases d:b.sum=o.sum
  ·rw[Hb d,show Vz b o=none from Da ⟨by lia,d⟩]
   symm
  ·rw[Fb d,show Vz b o=(some "Unlike":Option Str) from Qa (fun z=>d z.2)]
   symm
 ·rw[Fb c,show Vz b o=(some "Unlike":Option Str) from Qa (fun z=>c (by lia))]
  symm
theorem ZcZ{b o:LI0}(h:b.length<=1000/\o.length<=1000):Yx.fn [.lst (b.map PV.int),.lst (o.map PV.int)]=Ze (Vz b o) .non:=Pm.fn_eq Yx (b,o) h fun(a:LI0×LI0) e=>by simp only[Yx] at e ⊢;walk_at "in"
theorem Zge{b:LI0}{i:Int}:grd (.tup [Ya b,.int i])=.ok (.tup [Ya b,.int i]):=by
 unfold grd;simp only[PV.flat,PV.flats,Lp,Bool.and_self,if_true]
noncomputable def Us:Pm:=⟨LI0×List (List Sb)×LI5,fun a=>[Ya a.1,.box none (.dt a.2.1) a.2.2],fun a=>∃N ys ps,Ct a.2.1 a.2.2 N ys ps/\ys 0=a.1/\N<=a.2.1.length/\N<=100000,fun a=>.ok (.lst ((Qu a.2.1 a.2.2 (a.2.1.length+1) a.1).reverse.map Ar))⟩
theorem ZfL(T:Gc K mg)(F:Xb K "plan_to" "plan_to" QB f fd):Wb P w K mg base Fc 1 f fd ["goal", "came_from"] (Tb K 2 .F W0 Us.fn):=by
 have S:=WB;walk_at "ok";refine⟨_,_,⟨[],[],[],.F⟩,rfl,(Xa (pS 2 WB.nd (Vi Fa)) (Xa (pS 3 WB.nd (Au (Hl hu) (pv 1) (pv 0) (fun _ _=>rfl))) (Xa (N9 PassesOwn.never (Zg Zi6 (pv 3) I9 (Df _)) (Xa (Mi (W3 PySem.F.plainAttrs_list PySem.F.slot_list_append PySem.F.type_list_append UJ (pv 2) (Ua (Ui (Ua Mf (Ua (pX K (pv 3) Ka) Fa))) Fa))) (Jb (pS 3 WB.nd (Au (Hl hu) (pv 1) (pX K (pv 3) Ka) (fun _ _=>rfl)))))) (Xa (Mi (Zj6 PySem.F.plainAttrs_list PySem.F.slot_list_reverse PySem.F.type_list_reverse Zin (pv 2))) (Jb (Nb (pv 2))))))),(Wa (zF 2 (Ii Eg)) (Wa (zP 3 (DE.grd (Wt (qS 1) (qS 0)))) (Wa (L7 (Γ:=[.S,.S,.O,.P]) (Hc (qA (ZeG (qP 3)))) (Wa (UH (i:=2) rfl rfl (qF (DE.grd (Yj (Ea (qA Kf) (Ea (qX (qP 3) qI) Ma)))))) (zP 3 (DE.grd (Wt (qS 1) (qX (qP 3) qI)))))) (Wa (Zfc (i:=2) rfl) (Rg (qM 2)))))), ?_⟩;refine Pm.ref Us (g:=fun xs=>_) ?_;rintro⟨g,ks,xs⟩ ⟨N,ys,ps,C,h0,hN,hN2⟩;simp only at C h0 hN;simp only[Us];have ho:=C.org (ks.length+1) 0 (by lia) (by lia);rw[h0,Nat.sub_zero] at ho;rw[ho];have org:∀t,t<=N->Wc ks xs (tI (ys t))=some (if t=N then .non else .tup [Ya (ys (t+1)),.int (ps t)]):=fun t ht=>by
  by_cases c:t=N
  ·subst c;rw[C.last,Da rfl]
  ·rw[C.up t (by lia),Qa c]
 symm;rw[<- h0,Sr (org 0 (by lia))];have hg:∀t,grd (if t=N then PV.non else .tup [Ya (ys (t+1)),.int (ps t)])=.ok (if t=N then PV.non else .tup [Ya (ys (t+1)),.int (ps t)]):=fun t=>by
  split
  ·rfl
  ·exact Zge
 simp only[Rr.bind_ok];rw[hg 0];symm;generalize hw:Jn _ _ _=W;obtain⟨ρ',rfl,rfl⟩:=HC hw N (fun t ρ=>ρ=[Ya (ys 0),.box none (.dt ks) xs,.lst ((List.range t).map fun k=>Ar (ps k)),if t=N then .non else .tup [Ya (ys (t+1)),.int (ps t)]]) rfl (by
  rintro t ρ ht rfl;rw[Qa (show ¬t=N by lia)];constructor
  ·symm
   rfl
  ·symm
   rw[FJ (by simp;lia)];symm;rw[Sr (org (t+1) (by lia))];symm;rw[hg];symm;refine Wi ?_;rw[CD,Po];rfl) (by
  rintro ρ rfl;rw[Da rfl];symm)
 symm;rw[M8 (by rw[<- BN];exact GH (fun k=>rfl) _) (by simp;lia)];symm;simp only[Jl];rw[<- BN,<- BN,Sd];rfl
theorem Zdn{g:LI0}{ks:List (List Sb)}{xs:LI5}(h:∃N ys ps,Ct ks xs N ys ps/\ys 0=g/\N<=ks.length/\N<=100000):Us.fn [Ya g,.box none (.dt ks) xs]=.ok (.lst ((Qu ks xs (ks.length+1) g).reverse.map Ar)):=Pm.fn_eq Us (g,ks,xs) h (fun(a:LI0×List (List Sb)×LI5) e=>by
 have e':a=(g,ks,xs):=by
  simp only[Us,List.cons.injEq,PV.box.injEq,Ya,PV.tup.injEq,and_true] at e;obtain⟨e1,e2⟩:=e;refine Prod.ext (Nj e1) (Prod.ext ?_ e2.2.2);have:=e2.2.1;injection this
 rw[e'])
theorem Zj3:Us.calm:=fun a q h=>by (simp only[Us] at h;cases h)
theorem ZaR(P b:LI0)(i:Nat):∀m,(wk P b i).2.1.length<=(wk P b (i+m)).2.1.length
 |0=>Db _
 |m+1=>by
  have h1:=ZaR P b i m;rw[show i+(m+1)=i+m+1 by lia,Uz,Gj];lia
theorem Zlw{n:Nat}{s:Int}{P b o:LI0}(F:Mh n s P b)(ho:o∈Od P b):∃ys ps,Ct ((Od P b).map tI) (wk P b (Tf P b)).2.2 (Th P b o) ys ps/\ys 0=o/\VP P b (Th P b o) (((List.range (Th P b o)).map ps).reverse) o/\Th P b o+1<=(Od P b).length/\Th P b o<=1000:=by
 obtain⟨g1,g2,g3,g4,g5⟩:=Zgc F (F.mem.mp ho);have hle:Th P b o<=Tf P b:=by
  apply Classical.byContradiction;intro c;exact g3 (Tf P b) (by lia) ho
 obtain⟨ys,ps,C,c0,pl⟩:=VR (P:=P) (b:=b) (Th P b o) (Tf P b) hle g4;have h1:=SM P b (Th P b o) g5;have h2:=ZaR P b (Th P b o) (Tf P b-Th P b o);rw[show Th P b o+(Tf P b-Th P b o)=Tf P b by lia] at h2;refine⟨ys,ps,C,c0,pl, ?_,g1⟩;unfold Od;lia
structure DF(b o l:LI0):Prop where
 b1:We b=true
 b2:We o=true
 bar:Ri b.length l
 ln:b.length=o.length
 sm:b.sum=o.sum
 few:Ie b.length b.sum<=1000
 ll:l.length<=1000
noncomputable def Zlv(b o l:LI0):LI0:=(Qu ((Od (Ha b.length l) b).map tI) (wk (Ha b.length l) b (Tf (Ha b.length l) b)).2.2 (((Od (Ha b.length l) b).map tI).length+1) o).reverse
noncomputable def IC(b o l:LI0):PV:=if o∈Od (Ha b.length l) b then .tup [.str "way",.lst ((Zlv b o l).map Ar)] else .tup [.str "barred",llQ (Gk (Ha b.length l) b)]
noncomputable def Qz(b o l:LI0):Option Str:=if We b=true then (if We o=true then (if Ri b.length l then (if b.length=o.length/\b.sum=o.sum then Ik b else some "Unlike") else some "BadPits") else some "BadBoard") else some "BadBoard"
noncomputable def Ly:Pm:=⟨LI0×LI0×LI0,fun a=>[.lst (a.1.map PV.int),.lst (a.2.1.map PV.int),.lst (a.2.2.map PV.int)],fun a=>a.1.length<=1000/\a.2.1.length<=1000/\a.2.2.length<=1000,fun a=>Ze (Qz a.1 a.2.1 a.2.2) (IC a.1 a.2.1 a.2.2)⟩
theorem DF.fw{b o l:LI0}(h:DF b o l):Mh b.length b.sum (Ha b.length l) b/\WD b/\WD o:=by
 have B:=Vr.mp h.b1;have O:=Vr.mp h.b2;have l1:=B.lo;have l2:=B.hi;exact⟨⟨by lia,fun p hp=>(Hw.mp hp).1,⟨rfl,B.nn,rfl⟩,h.few⟩,B,O⟩
theorem ZfR(T:Gc K mg)(F:Xb K "way_or_bar" "way_or_bar" KB f fd):Wb P w K mg base (Cg P w) 6 f fd ["board", "other", "barred"] (Tb K 3 .F (W1 K) Ly.fn):=by
 have N6:=Qk (P:=P) (w:=w) (base:=base) T.ER KP (fun F=>CT T F);have VE:=Qk (P:=P) (w:=w) (base:=base) T.DR IP (fun F=>AT T F);have Zbx:=Qk (P:=P) (w:=w) (base:=base) T.ZdW Zcz (fun F=>Zf8 T F);have UE:=Qk (P:=P) (w:=w) (base:=base) T.FR LP (fun F=>ET T F);have K0:=Xc P w base T.OG WF (fun F=>KH T F);have FE:=Xc P w base T.LR RP (fun F=>NT T F);have Zb9:=Xc P w base T.Zem ZcC (fun F=>ZfL T F);refine F.okX LZ rfl rfl (fun Lb A outer s H E hr=>?_);have hu:=hr.units;refine⟨_,_,⟨[],[],[],.F⟩,rfl,(Xa (Mi (Oj N6 (hr.mono (by decide)) rfl Rm (Ua (pv 0) Fa))) (Xa (Mi (Oj N6 (hr.mono (by decide)) rfl Rm (Ua (pv 1) Fa))) (Xa (Mi (Oj VE (hr.mono (by decide)) rfl Rm (Ua (pv 0) (Ua (pv 2) Fa)))) (Xa (Mi (Oj Zbx (hr.mono (by decide)) rfl Rm (Ua (pv 0) (Ua (pv 1) Fa)))) (Xa (Mi (Oj UE (hr.mono (by decide)) rfl Rm (Ua (pv 0) Fa))) (Xa (pS 3 LZ.nd (pO K0 hr (Ua (pv 0) (Ua (pv 2) Fa)))) (Xa (Ld (JY (Zjx (Hl hu) (Ak (Lv (K:=K)) rfl T.z_tuple Kv (Ua (pv 1) Fa)) (pv 3))) (Jb (Nb (Ui (Ua Mf (Ua (pO Zb9 hr (Ua (Ak (Lv (K:=K)) rfl T.z_tuple Kv (Ua (pv 1) Fa)) (Ua (pv 3) Fa))) Fa))))) Be) (Jb (Nb (Ui (Ua Mf (Ua (pO FE hr (Ua (Ak (AG rfl) rfl T.z_list Sn (Ua (pv 3) Fa)) Fa)) Fa)))))))))))),(Wa (Zk (qA (Lo (Ea (qS 0) Ma)))) (Wa (Zk (qA (Lo (Ea (qS 1) Ma)))) (Wa (Zk (qA (Lo (Ea (qS 0) (Ea (qS 2) Ma))))) (Wa (Zk (qA (Lo (Ea (qS 0) (Ea (qS 1) Ma))))) (Wa (Zk (qA (Lo (Ea (qS 0) Ma)))) (Wa (zF 3 (Br (Yd (Yd Ug)) (Pm.calm_fn RX) (Ea (qS 0) (Ea (qS 2) Ma)))) (Wa (Hd (Lm (qA (Ze4 (Zw (Ea (qS 1) Ma)) (qO 3)))) (Rg (B2 (Xd (qF Kf) (Xd (Br (Yd (Yd Ug)) (Pm.calm_fn Zj3) (Ea (Zw (Ea (qS 1) Ma)) (Ea (qO 3) Ma))) Eg)))) Qe) (Rg (B2 (Xd (qF Kf) (Xd (Br (Yd Ug) (Pm.calm_fn OX) (Ea (qA (YG (Ea (qO 3) Ma))) Ma)) Eg))))))))))), ?_⟩;refine Pm.ref Ly (g:=fun xs=>_) ?_;rintro⟨b,o,l⟩ ⟨hb,ho,hl⟩;simp only at hb ho hl;simp only[Ly];symm;rw[JG (by lia)];unfold Qz;by_cases h1:We b=true
 ·rw[Da h1,Da h1]
  simp only[Ze];symm;rw[JG (by lia)];by_cases h2:We o=true
  ·rw[Da h2,Da h2]
   simp only[Ze];symm;rw[KQ ⟨by lia,by lia⟩];by_cases h3:Ri b.length l
   ·rw[K1 h3,Da h3]
    simp only[Ze];symm;rw[ZcZ ⟨by lia,by lia⟩];unfold Vz;by_cases h4:b.length=o.length/\b.sum=o.sum
    ·rw[Da h4,Da h4]
     have B:=Vr.mp h1;have l1:=B.lo;have l2:=B.hi;simp only[Ze];symm;rw[LQ ⟨⟨by lia,by lia⟩,B.sm⟩];unfold Ik;by_cases h5:1000<Ie b.length b.sum
     ·rw[Da h5]
      symm
     ·rw[Qa h5]
      have h:DF b o l:=⟨h1,h2,h3,h4.1,h4.2,by lia,hl⟩
      obtain⟨F,_,O⟩:=h.fw;have e1:=h.ln;simp only[Ze];symm;rw[UG ⟨l2,_,F⟩];symm;have W:=Ek (Ha b.length l) b (Tf (Ha b.length l) b);have hle:=F.le (Tf (Ha b.length l) b);rw[show Bx [PV.lst (o.map PV.int)]=.ok (Ya o) from rfl];symm;rw[TW];symm;unfold IC;by_cases c:o∈Od (Ha b.length l) b
      ·obtain⟨z,hz⟩:=IF (ks:=(Od (Ha b.length l) b).map tI) (xs:=(wk (Ha b.length l) b (Tf (Ha b.length l) b)).2.2) (by rw[Pb];exact W.ln.symm) (Zz.mpr c)
       rw[hz,Da c,show (some z).isSome=true from rfl,Da rfl];obtain⟨ys,ps,C,c0,P,hl,hn⟩:=Zlw F c;rw[Zdn ⟨_,ys,ps,C,c0,by rw[Pb];lia,by lia⟩];symm;rfl
      ·rw[KF (fun z=>c (Zz.mp z)),Qa c,Qa (by decide)]
       symm;rw[show List.map tI (Od (Ha b.length l) b)=(Od (Ha b.length l) b).map (fun b=>b.map Sum.inl) from rfl,NJ (bs:=Od (Ha b.length l) b) W.ln (by unfold Od;lia)];symm;rw[RQ ⟨fun t ht=>by
        have B:=(F.mem.mp ht).bs F.hP F.hb;exact⟨fun z=>by have:=B.1;rw[z] at this;simp at this;lia,by have:=B.1;lia⟩,by unfold Od;lia⟩]
       symm;rfl
    ·rw[Qa h4,Qa h4]
     symm
   ·rw[Jr h3,Qa h3]
    symm
  ·rw[Qa h2,Qa h2]
   symm
 ·rw[Qa h1,Qa h1]
  symm
theorem Zdt{b o l:LI0}(h:b.length<=1000/\o.length<=1000/\l.length<=1000):Ly.fn [.lst (b.map PV.int),.lst (o.map PV.int),.lst (l.map PV.int)]=Ze (Qz b o l) (IC b o l):=Pm.fn_eq Ly (b,o,l) h fun(a:LI0×LI0×LI0) e=>by simp only[Ly] at e ⊢;walk_at "in"
noncomputable def Dm(way:Int)(b o l:LI0):Option Str:=if way=3 then Qz b o l else Qi b l
theorem SS{b:LI0}{q:Str}(h:Ik b=some q):q = "TooMany":=by
 unfold Ik at h
 split at h<;>cases h
 rfl
theorem DP{way:Int}{b o l:LI0}{q:Str}(h:Dm way b o l=some q):q = "BadBoard"\/q = "BadPits"\/q = "Unlike"\/q = "TooMany":=by
 unfold Dm Qz Qi Pt at h
 split at h
 ·split at h
  ·split at h
   ·split at h
    ·split at h
     ·exact .inr (.inr (.inr (SS h)))
     ·cases h;exact .inr (.inr (.inl rfl))
    ·cases h;exact .inr (.inl rfl)
   ·cases h;exact .inl rfl
  ·cases h;exact .inl rfl
 ·split at h
  ·by_cases c:Ri b.length l
   ·rw[Da c] at h;exact .inr (.inr (.inr (SS h)))
   ·rw[Qa c] at h;cases h;exact .inr (.inl rfl)
  ·cases h;exact .inl rfl
noncomputable def Xx:Pm:=⟨Int×LI0×LI0×LI0,fun a=>[.int a.1,.lst (a.2.1.map PV.int),.lst (a.2.2.1.map PV.int),.lst (a.2.2.2.map PV.int)],fun a=>(0<=a.1/\a.1<=3)/\a.2.1.length<=1000/\a.2.2.1.length<=1000/\a.2.2.2.length<=1000,fun a=>.ok (.str ((Dm a.1 a.2.1 a.2.2.1 a.2.2.2).getD "none"))⟩
theorem DJ{o:Option Str}{x:PV}{ρ:LI5}:((Ze o x).thenS fun _=>RS.next ρ)=(Ze o .non).thenS fun _=>RS.next ρ:=by cases o<;>rfl
theorem Zf7(T:Gc K mg)(F:Xb K "_law_word" "_law_word" CA f fd):Wb P w K mg base Fc 9 f fd ["way", "board", "other", "bars"] (Tb K 4 .P W0 Xx.fn):=by
 have AE:=Qk (P:=P) (w:=w) (base:=base) T.HR NP (fun F=>GT T F);have Zb0:=Qk (P:=P) (w:=w) (base:=base) T.ZdZ Zc2 (fun F=>ZfB T F);have Zb6:=Qk (P:=P) (w:=w) (base:=base) T.Zei Zc9 (fun F=>ZfI T F);have ZbF:=Qk (P:=P) (w:=w) (base:=base) T.Zet ZcI (fun F=>ZfR T F);obtain⟨ZlG,QU,ZlO⟩:=E5 T.x_exc (n := "SowError") (by decide);obtain⟨ZbG,Zgl,Zgs⟩:=MC T.x_tab (c := "BadBoard") (L:=U1) (by decide) (by decide);obtain⟨ZbH,Zgm,Zgt⟩:=MC T.x_tab (c := "BadPits") (L:=Q1) (by decide) (by decide);obtain⟨ZbJ,Zgo,Zgv⟩:=MC T.x_tab (c := "Unlike") (L:=C1) (by decide) (by decide);obtain⟨ZbI,Zgn,Zgu⟩:=MC T.x_tab (c := "TooMany") (L:=B1) (by decide) (by decide);have hT_V:=ZlB T.x_tab (L:=ZbQ) (by decide);have S:=Eu;walk_at "ok";refine⟨_,_,⟨[],[],[],.P⟩,rfl,(Xa (pS 4 Eu.nd I9) (Xa (ZjW (fun xe pn E hx=>(Jb (Ld (pQ K hu (pv 0) Ka) (Jb (Mi (Oj AE (hr.mono (by decide)) rfl hx (Ua (pv 1) (Ua (pv 3) Fa))))) (Jb (Ld (pQ K hu (pv 0) Ka) (Jb (Mi (Oj Zb0 (hr.mono (by decide)) rfl hx (Ua (pv 1) (Ua (pv 3) Fa))))) (Jb (Ld (pQ K hu (pv 0) Ka) (Jb (Mi (Oj Zb6 (hr.mono (by decide)) rfl hx (Ua (pv 1) (Ua (pv 3) Fa))))) (Jb (Mi (Oj ZbF (hr.mono (by decide)) rfl hx (Ua (pv 1) (Ua (pv 2) (Ua (pv 3) Fa))))))))))))) (fun A=>(Jb (pS 4 Eu.nd (pv 5)))) Eu.nd rfl rfl rfl (T.x_mg _ _ QU) rfl rfl rfl) (Xa (Ld (Zg Zi5 (pv 4) I9 (Df _)) (Jb (Nb Mf)) Be) (Xa (pS 6 Eu.nd (Vi (Ua (Lf (R1 (K:=K) Zgs) rfl T.z_isinstance Vp (Ua (pv 4) (Ua (Y3 (v:=.ref ZbG) rfl (T.x_mg _ _ Zgl) rfl) Fa))) (Ua (Lf (R1 (K:=K) Zgt) rfl T.z_isinstance Vp (Ua (pv 4) (Ua (Y3 (v:=.ref ZbH) rfl (T.x_mg _ _ Zgm) rfl) Fa))) Fa)))) (Xa (pS 6 Eu.nd (Zb (Co (K:=K)) (pv 6) (Vi (Ua (Lf (R1 (K:=K) Zgv) rfl T.z_isinstance Vp (Ua (pv 4) (Ua (Y3 (v:=.ref ZbJ) rfl (T.x_mg _ _ Zgo) rfl) Fa))) (Ua (Lf (R1 (K:=K) Zgu) rfl T.z_isinstance Vp (Ua (pv 4) (Ua (Y3 (v:=.ref ZbI) rfl (T.x_mg _ _ Zgn) rfl) Fa))) Fa))))) (Xa (Ld (PW.pt (Ko (Zg (Pr (K:=K) hu) (W3 PySem.F.plainAttrs_list PySem.F.slot_list_count PySem.F.type_list_count (Zil (K:=K)) (pv 6) (Ua Wr Fa)) Ka (Df _)) (Fq (Bq (Cq (Lf (R1 (K:=K) hT_V) rfl T.z_isinstance Vp (Ua (pv 4) (Ua (T3 (v:=.ty "ValueError") rfl T.z_ValueError ZcO rfl) Fa)))))))) (Jb (Nb Mf)) Be) (Xa (pS 7 Eu.nd (pX K (Vi (Ua Mf (Ua Mf (Ua Mf (Ua Mf Fa))))) (W3 PySem.F.plainAttrs_list PySem.F.slot_list_index PySem.F.type_list_index (Zim (K:=K)) (pv 6) (Ua Wr Fa)))) (Xa (Ld (Zg (Pr (K:=K) hu) (ZjA (k:=1) (L:=XN) (Zik T) (hr.mono (by decide)) (pv 4)) (pv 7) (Df _)) (Jb (Nb Mf)) Be) (Jb (Nb (pv 7))))))))))),(Wa (zP 4 US) (Wa (Zff (i:=5) (Γs:=[.S,.S,.S,.S,.P,.U,.U,.U]) (Y:=⟨[.S,.S,.S,.S,.P,.U,.U,.U],[],[],.P⟩) (Yh:=⟨[.S,.S,.S,.S,.P,.P,.U,.U],[],[],.P⟩) (L:=["SowError", "BadBoard", "BadPits", "Unlike", "TooMany"]) (ZlA T.x_tab QU (by decide)) (fun E=>(Hd (Hc (qA (Ke (g:=id) (qS 0) qI))) (Zk (qA (Q4 (Ea (qS 1) (Ea (qS 3) Ma))))) (Hd (Hc (qA (Ke (g:=id) (qS 0) qI))) (Zk (qA (Q4 (Ea (qS 1) (Ea (qS 3) Ma))))) (Hd (Hc (qA (Ke (g:=id) (qS 0) qI))) (Zk (qA (Q4 (Ea (qS 1) (Ea (qS 3) Ma))))) (Zk (qA (Q4 (Ea (qS 1) (Ea (qS 2) (Ea (qS 3) Ma)))))))))) (fun E D σ H h=>h) (show DS K _ [.S,.S,.S,.S,.P,.P,.U,.U] _ _ _ from (zP 4 (Qr (i:=5) rfl))) rfl rfl (by decide) rfl rfl rfl rfl) (Wa (Hd (Hc (qA (Ze9 (qP 4)))) (Qd Kf) Qe) (Wa (zF 6 (Ii (Xd (qF (V2 (qP 4))) (Xd (qF (V2 (qP 4))) Eg)))) (Wa (zF 6 (Wn (qO 6) (qA (Ii (Xd (qF (V2 (qP 4))) (Xd (qF (V2 (qP 4))) Eg)))))) (Wa (Hd (Yn (Hc (qA (Ke (g:=(!·)) (qA (Ze3 (qO 6) (Ea (qA Ur) Ma))) qI))) (Kp (Lm (qA (V2 (qP 4)))))) (Qd Kf) Qe) (Wa (zP 7 (DE.grd (qX (qA (Ii (Xd (qF Kf) (Xd (qF Kf) (Xd (qF Kf) (Xd (qF Kf) Eg)))))) (qA (Ze8 (qO 6) (Ea (qA Ur) Ma)))))) (Wa (Hd (Hc (qA (Ke (g:=(!·)) (qA (Ze1 (qP 4))) (qP 7)))) (Qd Kf) Qe) (Qd (Qr (i:=7) rfl)))))))))), ?_⟩;refine Pm.ref Xx (g:=fun xs=>_) ?_;rintro⟨way,b,o,l⟩ ⟨⟨w0,w1⟩,hb,ho,hl⟩;simp only at w0 w1 hb ho hl;simp only[Xx];symm;rw[NQ ⟨hb,hl⟩,Zdc ⟨hb,hl⟩,Zdk ⟨hb,hl⟩,Zdt ⟨hb,ho,hl⟩];simp only[DJ (x:=PV.lst _),DJ (x:=PV.tup _),DJ (x:=IC _ _ _)];generalize hT:Mu _ _ _ _ _=T;have hT2:T=Mu ["SowError", "BadBoard", "BadPits", "Unlike", "TooMany"] 5 (fun ρ=>RS.next (ρ.set 4 (gv 5 ρ))) [.int way,.lst (b.map PV.int),.lst (o.map PV.int),.lst (l.map PV.int),.non,.non,.non,.non] ((Ze (Dm way b o l) .non).thenS fun _=>RS.next [.int way,.lst (b.map PV.int),.lst (o.map PV.int),.lst (l.map PV.int),.non,.non,.non,.non]):=by
  rw[<- hT];congr 1;unfold Dm;by_cases h0:way=0
  ·rw[Hb h0,Da rfl,Qa (by lia)]
  ·rw[Fb h0,Qa (by decide)]
   by_cases h1:way=1
   ·rw[Hb h1,Da rfl,Qa (by lia)]
   ·rw[Fb h1,Qa (by decide)]
    by_cases h2:way=2
    ·rw[Hb h2,Da rfl,Qa (by lia)]
    ·rw[Fb h2,Qa (by decide),Da (by lia)]
 rw[hT2];have hI0:∀x0 x1 x2 x3:PV,pIx (.lst [x0,x1,x2,x3]) (.int 0)=.ok x0:=fun _ _ _ _=>rfl;have hI1:∀x0 x1 x2 x3:PV,pIx (.lst [x0,x1,x2,x3]) (.int 1)=.ok x1:=fun _ _ _ _=>rfl;have hI2:∀x0 x1 x2 x3:PV,pIx (.lst [x0,x1,x2,x3]) (.int 2)=.ok x2:=fun _ _ _ _=>rfl;have hI3:∀x0 x1 x2 x3:PV,pIx (.lst [x0,x1,x2,x3]) (.int 3)=.ok x3:=fun _ _ _ _=>rfl;cases hx:Dm way b o l with
 |none =>
  simp only[Ze];symm
  all_goals rfl
 |some q =>
  rcases DP hx with rfl|rfl|rfl|rfl
  all_goals simp only[Ze]
  all_goals symm
  all_goals rw[M8 rfl (by decide)]
  all_goals symm
  all_goals rw[show ((List.count true _:Nat):Int)=1 from rfl]
  all_goals symm
  ·rw[show Ux [.bl true,.bl false,.bl false,.bl false] [.bl true]=.ok (.int 0) from rfl]
   symm;rw[hI0];symm
   all_goals rfl
  ·rw[show Ux [.bl false,.bl true,.bl false,.bl false] [.bl true]=.ok (.int 1) from rfl]
   symm;rw[hI1];symm
   all_goals rfl
  ·rw[show Ux [.bl false,.bl false,.bl true,.bl false] [.bl true]=.ok (.int 2) from rfl]
   symm;rw[hI2];symm
   all_goals rfl
  ·rw[show Ux [.bl false,.bl false,.bl false,.bl true] [.bl true]=.ok (.int 3) from rfl]
   symm;rw[hI3];symm
   all_goals rfl
theorem ZcY{way:Int}{b o l:LI0}(h:(0<=way/\way<=3)/\b.length<=1000/\o.length<=1000/\l.length<=1000):Xx.fn [.int way,.lst (b.map PV.int),.lst (o.map PV.int),.lst (l.map PV.int)]=.ok (.str ((Dm way b o l).getD "none")):=Pm.fn_eq Xx (way,b,o,l) h fun(a:Int×LI0×LI0×LI0) e=>by simp only[Xx] at e ⊢;walk_at "in"
theorem OW{n:Nat}{l:LI0}:(∀i<l.length,M3 n l i) ↔ (∀p∈l,0<=p/\p<n)/\Du l=true:=by
 unfold Du;rw[Ah];constructor
 ·intro h
  refine⟨fun p hp=>?_,fun i hi=>?_⟩
  ·obtain⟨i,hi,rfl⟩:=List.mem_iff_getElem.mp hp
   have:=(h i hi).1;rw[Cb,Yc hi] at this;exact this
  ·have hi:=Dh.mp hi
   have:=(h (i+1) (by lia)).2;rw[show i+1-1=i by lia] at this;exact Hb (by lia)
 ·intro ⟨h1,h2⟩ i hi
  refine⟨?_, ?_⟩
  ·have:=h1 l[i] (Iz hi)
   rw[Cb,Yc hi];exact this
  ·by_cases h0:i=0
   ·exact .inl h0
   ·have:=Ei (h2 (i-1) (Dh.mpr (by lia)))
    rw[show i-1+1=i by lia] at this;exact .inr this
theorem Zcj{n:Nat}{l:LI0}:Xj n l=true ↔ Ri n l:=by
 rw[MF];constructor
 ·intro ⟨h,h1,h2⟩
  obtain⟨a,b⟩:=OW.mp h;exact⟨a,b,by lia,by lia⟩
 ·intro ⟨a,b,h1,h2⟩
  have h:=OW.mpr ⟨a,b⟩;have:=Zi0 h;exact⟨h,by lia,by lia⟩
theorem Zfh{way:Int}{b o l:LI0}:Vg way b o l (Xj b.length l)=(Dm way b o l).getD "none":=by
 have hg:Xj b.length l=decide (Ri b.length l):=by
  rw[Bool.eq_iff_iff,Zcj,decide_eq_true_eq]
 rw[hg];unfold Vg Dm Qz Qi Pt Ik;by_cases h4:b.length=o.length/\b.sum=o.sum
 ·by_cases h0:way=3<;>by_cases h1:We b=true<;>by_cases h2:We o=true<;>by_cases h3:Ri b.length l<;>by_cases h5:1000<Ie b.length b.sum<;>simp[h0,h1,h2,h3,eq_true h4,h5]
 ·by_cases h0:way=3<;>by_cases h1:We b=true<;>by_cases h2:We o=true<;>by_cases h3:Ri b.length l<;>by_cases h5:1000<Ie b.length b.sum<;>simp[h0,h1,h2,h3,eq_false h4,h5]
theorem ZX{g:Bool->Bool}{n:Nat}{x:PV}(h:Vl n x)(hn:n<=64:=by decide):Ji g x x=.ok (.bl (g true)):=by
 unfold Ji;rw[h.ok hn,Bool.and_self,Da rfl,PySem.SeqAt.eqv_refl _ h.can]
theorem Zcg(way:Int)(b o l:LI0):Vl 0 (.str ((Dm way b o l).getD "none")):=by
 cases h:Dm way b o l with
 |none=>exact OR (by rw[PyData.canLay0];decide +kernel)
 |some q=>rcases DP h with rfl|rfl|rfl|rfl<;>exact OR (by rw[PyData.canLay0];decide +kernel)
noncomputable def V4:Pm:=⟨LI0,fun ns=>[.lst (ns.map PV.int)],fun ns=>ns.length<=63,fun _=>.ok (.bl true)⟩
theorem ZfH(T:Gc K mg)(F:Xb K "law" "law" ZB f fd):Wb P w K mg base Fc 10 f fd ["script"] (Tb K 1 .P W0 V4.fn):=by
 have Zbv:=Xc P w base T.ZdU Zcx (fun F=>Zf6 T F);have Zbt:=Xc P w base T.ZdS Zcv (fun F=>Zf4 T F);have EO:=Xc P w base T.ZdP Zcs (fun F=>Zf1 T F);have GO:=Xc P w base T.ZdR Zcu (fun F=>Zf3 T F);have Zbo:=Xc P w base T.ZdK Zcn (fun F=>Zfw T F);have Zbu:=Xc P w base T.ZdT Zcw (fun F=>Zf5 T F);have Zbs:=Xc P w base T.ZdO Zcr (fun F=>Zf0 T F);have Zbq:=Xc P w base T.ZdM Zcp (fun F=>Zfy T F);have Zbw:=Xc P w base T.ZdV Zcy (fun F=>Zf7 T F);have S:=Bk;walk_at "ok";refine⟨_,_,⟨[],[],[],.P⟩,rfl,(Xa (pS 1 Bk.nd (pO Zbv hr (Ua (pv 0) (Ua Ka (Ua Ka Fa))))) (Xa (EK (i:=2) Bk.nd rfl (Sm rfl T.z_range (Ua Ka Fa)) (fun _ _ _ _=>(pO Zbu hr (Ua (pX K (pv 1) (pv 12)) (Ua (Zb Wp Ka (pv 12)) Fa)))) rfl) (Xa (Cu (pO Zbt hr (Ua (pX K (pv 2) Ka) Fa)) (WX rfl (K9 (Om 3 Bk.nd) (K9 (Om 4 Bk.nd) XX)))) (Xa (pS 5 Bk.nd (pO EO hr (Ua (pO GO hr (Ua (pv 3) (Ua (pv 4) (Ua (pX K (pv 2) Ka) Fa)))) (Ua (pX K (pv 2) Ka) Fa)))) (Xa (pS 6 Bk.nd (pO GO hr (Ua (pv 3) (Ua (pv 4) (Ua (pX K (pv 2) Ka) Fa))))) (Xa (Ld (pQ K hu (Zb Ye (Zb Li (pX K (pv 2) Ka) Ka) Ka) Ka) (Jb (Cu (Zb Uh (pX K (pv 6) Ka) Ka) (Ix (pv 6) Ka Fu))) Be) (Xa (Ld (pQ K hu (Zb Ye (Zb Li (pX K (pv 2) Ka) Ka) Ka) Ka) (Jb (pS 6 Bk.nd (Zb (Co (K:=K)) (Vi (Ua Ka Fa)) (pv 6)))) Be) (Xa (Ld (pQ K hu (Zb Ye (Zb Li (pX K (pv 2) Ka) Ka) Ka) Ka) (Jb (pS 6 Bk.nd (pO EO hr (Ua (pv 6) (Ua (Zb Uh Ka (Zb Ye (Zb Li (pX K (pv 2) Ka) Ka) Ka)) Fa))))) Be) (Xa (pS 7 Bk.nd (Zb Wp (Zb Ye (pO Zbq hr (Ua (pv 0) (Ua Ka Fa))) (Zb Xp Ka Ka)) (Zb Ye (Zb Li (pX K (pv 2) Ka) Ka) Ka))) (Xa (pS 8 Bk.nd (pO Zbo hr (Ua (Lf (Zd0 rfl) rfl T.z_max HP (Ua Ka (Ua (pLe K T.z_len (Ua (pv 5) Fa)) Fa))) (Ua (pX K (pv 2) Ka) (Ua (pv 7) Fa))))) (Xa (Jq (Sm rfl T.z_range (Ua Ka Fa)) (Om 9 Bk.nd) (Xa (pS 10 Bk.nd (Vi (Ua (Ak (T1 (K:=K)) rfl T.z_list Sn (Ua (pv 5) Fa)) (Ua (Ak (T1 (K:=K)) rfl T.z_list Sn (Ua (pv 6) Fa)) (Ua (Ak (T1 (K:=K)) rfl T.z_list Sn (Ua (pv 8) Fa)) Fa))))) (Xa (pS 11 Bk.nd (pO Zbs hr (Ua (pv 9) (Ua (pv 5) (Ua (pv 6) (Ua (pv 8) Fa)))))) (Xa (Ld (Zg (Pr (K:=K) hu) (pO Zbw hr (Ua (pv 9) (Ua (pX K (pv 10) Ka) (Ua (pX K (pv 10) Ka) (Ua (pX K (pv 10) Ka) Fa))))) (pv 11) (Df _)) (Jb (Nb Wr)) Be) (Jb (Ld (Zg (Pr (K:=K) hu) (pv 10) (Vi (Ua (pv 5) (Ua (pv 6) (Ua (pv 8) Fa)))) (Df _)) (Jb (Nb Wr)) Be)))))) (Jb (Nb Wr))))))))))))),(Wa (zF 1 (Nk (Ea (qS 0) (Ea qI (Ea qI Ma))))) (Wa (Aw (i:=2) (Hk (DI.c (Km (Ea qI Ma))) (qF (Bj (Ea (qX (qO 1) (qS 12)) (Ea (qA (Ep qI (qS 12))) Ma))))) (by decide)) (Wa (ZeY (qF (Bj (Ea (qX (qO 2) qI) Ma))) (ZeP (n:=2) (BS (AS (i:=3) (by decide)) (BS (AS (i:=4) (by decide)) ZeQ)))) (Wa (GS (i:=5) (TR (Yd (Yd Ug)) (Z2 (DE.FZ (Nk (Ea (qP 3) (Ea (qP 4) (Ea (qX (qO 2) qI) Ma))))) (Z2 (DE.PZ (DE.grd (qX (qO 2) qI))) WG))) (by decide)) (Wa (zF 6 (Nk (Ea (qP 3) (Ea (qP 4) (Ea (qX (qO 2) qI) Ma))))) (Wa (Hd (Hc (qA (Ke (g:=id) (qA (Xe (qA (Hi (qX (qO 2) qI) qI)) qI)) qI))) (Bw (i:=6) rfl (Zh (qX (qO 6) qI) qI) qI) Qe) (Wa (Hd (Hc (qA (Ke (g:=id) (qA (Xe (qA (Hi (qX (qO 2) qI) qI)) qI)) qI))) (zF 6 (Wn (qA (Ii (Xd (qF Gm) Eg))) (qO 6))) Qe) (Wa (Hd (Hc (qA (Ke (g:=id) (qA (Xe (qA (Hi (qX (qO 2) qI) qI)) qI)) qI))) (GS (i:=6) (TR (Yd (Yd Ug)) (Z2 (ZeN (i:=6) (m:=.O) rfl (by decide)) (Z2 (DE.PZ (Zh qI (qA (Xe (qA (Hi (qX (qO 2) qI) qI)) qI)))) WG))) (by decide)) (DS.out (Y:=⟨[.S,.O,.O,.P,.P,.S,.O,.U,.U,.U,.U,.U],[],[],.P⟩) (Y':=⟨[.S,.O,.O,.P,.P,.S,.S,.U,.U,.U,.U,.U],[],[],.P⟩) Qe rfl rfl rfl rfl)) (Wa (zP 7 (Ep (qA (Xe (qA (Bj (Ea (qS 0) (Ea qI Ma)))) (qA (Fp qI qI)))) (qA (Xe (qA (Hi (qX (qO 2) qI) qI)) qI)))) (Wa (zF 8 (Nk (Ea (qA (ZeC (Ea qI (Ea (qA (Gf (Ea (qS 5) Ma))) Ma)))) (Ea (qX (qO 2) qI) (Ea (qP 7) Ma))))) (Wa (Ip (Γl:=[.S,.O,.O,.P,.P,.S,.S,.P,.O,.U,.U,.U]) (Km (Ea qI Ma)) rfl (Gq 9) (DS.out (Y:=⟨[.S,.O,.O,.P,.P,.S,.S,.P,.O,.P,.O,.P],[.S,.O,.O,.P,.P,.S,.S,.P,.O,.U,.U,.U],[.S,.O,.O,.P,.P,.S,.S,.P,.O,.U,.U,.U],.P⟩) (Y':=⟨[.S,.O,.O,.P,.P,.S,.S,.P,.O,.U,.U,.U],[.S,.O,.O,.P,.P,.S,.S,.P,.O,.U,.U,.U],[.S,.O,.O,.P,.P,.S,.S,.P,.O,.U,.U,.U],.P⟩) (Wa (zF 10 (Ii (Xd (U2 (Ea (qS 5) Ma)) (Xd (U2 (Ea (qS 6) Ma)) (Xd (U2 (Ea (qO 8) Ma)) Eg))))) (Wa (zP 11 (Bj (Ea (qP 9) (Ea (qS 5) (Ea (qS 6) (Ea (qO 8) Ma)))))) (Wa (Hd (Hc (qA (Ke (g:=(!·)) (qA (Bj (Ea (qP 9) (Ea (qX (qO 10) qI) (Ea (qX (qO 10) qI) (Ea (qX (qO 10) qI) Ma)))))) (qP 11)))) (Qd Ur) Qe) (Hd (Hc (qA (Ke (g:=(!·)) (qO 10) (ZeB (Ea (qS 5) (Ea (qS 6) (Ea (qO 8) Ma))))))) (Qd Ur) Qe)))) rfl rfl rfl rfl)) (Qd Ur)))))))))))), ?_⟩;refine Pm.ref V4 (g:=fun xs=>_) ?_;rintro(ns:LI0) (hn:ns.length<=63);simp only[V4];symm;rw[ZcX ⟨by lia,⟨by lia,by lia⟩,by lia,by lia⟩];symm;have hL:(Lq ns 0 5).length=5:=ZkN ..;rw[E8 (g:=fun i=>stir ((Lq ns 0 5).getD i 0) (31*(i:Int))) (fun i hi=>by
  symm;rw[ZcW ⟨by lia,by lia⟩];symm;rw[show (0+(i:Int)).toNat=i by lia,P5])]
 have hC:((List.range 5).map fun i=>stir ((Lq ns 0 5).getD i 0) (31*(i:Int))).length=5:=rfl;generalize (List.range 5).map (fun i=>stir ((Lq ns 0 5).getD i 0) (31*(i:Int)))=C at hC;generalize Lq ns 0 5=S at hL;symm;rw[ZcV];symm;obtain⟨⟨p0,p1⟩,s0,s1⟩:=ZkO (C.getD 0 0);generalize (Pl (C.getD 0 0)).1=m at p0 p1;generalize (Pl (C.getD 0 0)).2=s at s0 s1;obtain⟨n,rfl⟩:∃n:Nat,m=n:=⟨m.toNat,by lia⟩
 symm;rw[IQ ⟨by lia,by lia⟩];symm;rw[Kg];have h1:=(EV (n:=n) (s:=s) (c:=C.getD 1 0) (by lia) s0).1;have h3:=(EV (n:=n) (s:=s) (c:=C.getD 3 0) (by lia) s0).1;rw[GQ ⟨by lia,by lia⟩];symm;have hb:=OS (b:=Ao n s (C.getD 1 0)) (c:=C.getD 2 0) ⟨by lia,by lia⟩;generalize Zu (Ao n s (C.getD 1 0)) (C.getD 2 0)=b at hb;rw[IQ ⟨by lia,by lia⟩];symm;rw[Kg];generalize Ao n s (C.getD 3 0)=o at h3;generalize hT:(fun(ρ:LI5)=>RS.seq (Rr.thenS (Rr.bind (Rr.bind (Bu.fn [gv 0 ρ,PV.int 0]) _) _) _) _)=TAIL;have tail:∀o:LI0,o.length<=1000->TAIL [.lst (ns.map PV.int),.lst (S.map PV.int),.lst (C.map PV.int),.int n,.int s,.lst (b.map PV.int),.lst (o.map PV.int),.non,.non,.non,.non,.non]=.ret (.bl true):=by
  intro o ho;subst hT;clear h3;symm;rw[ZcT (by lia)];symm;rw[show (if (b.length:Int)>1 then (b.length:Int) else 1)=b.length by split<;>lia,ZcS ⟨by lia,by lia⟩];symm;rw[Kg];generalize A7 ns 0%10^59*(C.getD 4 0/16%2)=fr;have hl:=Zck (n:=b.length) (c:=C.getD 4 0) (f:=fr) (by lia) (by lia);generalize Iv b.length (C.getD 4 0) fr=l at hl;generalize hw:Vh _ _ _=W;obtain⟨ρ',rfl,v1,v2,v3,rfl⟩:=Cr hw (fun i ρ=>∃v1 v2 v3,ρ=[.lst (ns.map PV.int),.lst (S.map PV.int),.lst (C.map PV.int),.int n,.int s,.lst (b.map PV.int),.lst (o.map PV.int),.int fr,.lst (l.map PV.int),v1,v2,v3]) ⟨_,_,_,rfl⟩ (by
   rintro i x ρ hx ⟨v1,v2,v3,rfl⟩;obtain⟨hi,rfl⟩:=Fs hx;have hj0:∀x y z:PV,pIx (.lst [x,y,z]) (.int 0)=.ok x:=fun _ _ _=>rfl;have hj1:∀x y z:PV,pIx (.lst [x,y,z]) (.int 1)=.ok y:=fun _ _ _=>rfl;have hj2:∀x y z:PV,pIx (.lst [x,y,z]) (.int 2)=.ok z:=fun _ _ _=>rfl;symm;rw[ZcU ⟨by lia,by lia,by lia⟩];symm;rw[hj0,hj1,hj2];symm;rw[ZcY ⟨⟨by lia,by lia⟩,by lia,by lia,by lia⟩,Zfh];symm;rw[ZX (Zcg ..)];symm;rw[ZX (n:=2) (NR fun a ha=>by
    simp only[Vd,List.not_mem_nil,or_false] at ha;rcases ha with rfl|rfl|rfl<;>exact Zew _)]
   symm;exact Wi ⟨_,_,_,rfl⟩)
  rfl
 symm;by_cases g1:C.getD 3 0/32%8=1
 ·rw[Hb g1]
  symm;rw[Fb (show ¬(C.getD 3 0/32%8=2) by lia)];symm;rw[Fb (show ¬(C.getD 3 0/32%8=3) by lia)];symm;rw[tail _ (by rw[Tu];lia)];rfl
 rw[Fb g1];symm;by_cases g2:C.getD 3 0/32%8=2
 ·rw[Hb g2]
  symm;rw[Fb (show ¬(C.getD 3 0/32%8=3) by lia)];symm;rw[show PV.int 0::o.map PV.int=((0:Int)::o).map PV.int from rfl,tail _ (by rw[Ci];lia)];rfl
 rw[Fb g2];symm;by_cases g3:C.getD 3 0/32%8=3
 ·rw[Hb g3]
  symm;rw[GQ ⟨by lia,by lia⟩];symm;rw[tail _ (by have:=OS (b:=o) (c:=5+C.getD 3 0/512%4) ⟨by lia,by lia⟩;lia)];rfl
 rw[Fb g3];symm;rw[tail _ (by lia)];rfl
noncomputable def NL(K:ZlR):Sp:=Tb K 1 .P W0 V4.fn
theorem Zho{l:PySem.W.OpenLaw}(T:Gc K mg){fa:Ja}(hmg:mg "law"=some (.ref fa)):∃fd:Fk,(∀(s:Ga) (u:Va),BindsTo s fd ⟨[u],[]⟩ [("script",u)]) /\
  ∀base:Heap,K.In base->base.Ns Tg mg->Wb l.prog w K mg base Fc 10 fa fd ["script"] (NL K):=by
 obtain⟨f,fd,F,hm⟩:=T.Zeh;rw[hmg] at hm;cases hm;refine⟨fd,fun s u=>?_,fun base _ _=>ZfH T F⟩;obtain⟨oc,od,kV,doc,pm,an,Lb,ct,osl,rfl,lk,hcd⟩:=F.ex;exact .of_eq (Zc8 kV doc pm an Lb ct [u] rfl)
theorem Zhp{H:Hp}{a:Ja}{ns:LI0}(hl:ns.length<=63)(hS:Yb K H a (ns.map V.int)):NL K [.ref a] H (fun v _=>v=.bl true) fun _ _ _=>False:=
 Zhq (Pm.fn_eq V4 ns hl fun _ _=>rfl) hS
end
theorem Jd{K:ZlR}{h:Heap}{mg:Str->Option Va}{x:Str}{st:Kb}{f:Ja}{od an:Option Ja}{sl:Array (Option Va)}{oc kV dc pm cd ct:Va}(X:K.In h)(G:h.Ns Tg mg)(a:PySem.W.nsIn K Tg x=some (some (.ref f)))(l:K.lookup f=some ⟨oc,od,.func (PySem.W.fnOf x x (Yt st) (Dl st) (Mb st) .none kV dc pm an cd ct),sl⟩)(c:PySem.W.codeIn K cd x=true)(k:PySem.W.keepIn K (.ref f)=true):Oc K mg x st:=⟨_,_,RT (st:=st) l c k,PySem.W.mg_of X G a⟩
theorem KG{K:ZlR}{h:Heap}{mg:Str->Option Va}{x:Str}{v:Tok->Va}{t:Tok}(X:K.In h)(G:h.Ns Tg mg)(a:PySem.W.nsIn K Tg x=some (some (v t))):∃t,mg x=some (v t):=⟨t,PySem.W.mg_of X G a⟩
theorem C3{K:ZlR}{x m q:Str}{st:Kb}{C f:Ja}{od an:Option Ja}{sl:Array (Option Va)}{oc kV dc pm cd ct:Va}(a:PySem.W.nsIn K Tg x=some (some (.ref C)))(b:PySem.W.findIn K (.ref C) m=some (some (.ref f)))(t:PySem.W.typeIn K (.ref f)=some (.type "function"))(l:K.lookup f=some ⟨oc,od,.func (PySem.W.fnOf m q (Yt st) (Dl st) (Mb st) .none kV dc pm an cd ct),sl⟩)(c:PySem.W.codeIn K cd q=true)(k:PySem.W.keepIn K (.ref f)=true):Dv K x m q st:=⟨_,_,_,a,b,t,RT (st:=st) l c k⟩
end My
namespace PySem.W.Fast
def tw4237600224887961664:=()
def tw14480994866654702784:=()
def tw4601649917513751776:=()
def tw11690778525963341312:=()
def tw3820878651294259936:=()
def tw16493199150687007488:=()
def tw6154258721902904128:=()
def tw17674926255121259360:=()
def tw14062500728276824000:=()
def tw16293875622624864257:=()
def tw9044550781283488801:=()
def tw8775861218555316321:=()
def tw14146752187685482689:=()
def tw15045686014461715873:=()
def tw4429395737628891617:=()
def tw5459206050383819329:=()
def tw3828556933337104993:=()
def tw600740018668363521:=()
def tw3105609188189731938:=()
def tw15088576550338224258:=()
def tw18323261251897068738:=()
def tw9097715638189697314:=()
def tw5980434419838324130:=()
def tw5914717564826256866:=()
def tw9202222233136531970:=()
def tw16821555867095511778:=()
def tw7022413233706036259:=()
def tw1843421555225574691:=()
def tw12695928126075855171:=()
def tw7487755972774746787:=()
def tw9367731258690355011:=()
def tw223180043859319651:=()
def tw1911802688979179524:=()
def tw7039487023896162308:=()
def tw17534380971383005252:=()
def tw9281633061440770116:=()
def tw11082118587149407364:=()
def tw18133890607452401956:=()
def tw7437806769134171812:=()
def tw15316526736696851140:=()
def tw5436814162462848804:=()
def tw4270959108871871557:=()
def tw6158196286419350629:=()
def tw16236847040561718629:=()
def tw17314619913032794629:=()
def tw17143087888843560485:=()
def tw1963352453788939845:=()
def tw1871719911695341317:=()
def tw13166713552877893702:=()
def tw8867800790619841638:=()
def tw18393903884782543110:=()
def tw13127020268673696070:=()
def tw2936062034624104998:=()
def tw4354317712373857958:=()
def tw3561448767249247942:=()
def tw12237046291359854342:=()
def tw11900562195094875942:=()
def tw12173652804207474534:=()
def tw9285184529500604358:=()
def tw11160366247306055751:=()
def tw12798660913616528711:=()
def tw11762086852122104295:=()
def tw14121184341138624584:=()
def tw603315952006673576:=()
def tw15416649995792028840:=()
def tw9099770157102211368:=()
def tw7722421075902542216:=()
def tw12688162342208856488:=()
def tw1152923536113015240:=()
def tw1477581477577170408:=()
def tw9205898158793344488:=()
def tw6445448565751711240:=()
def tw17711954991159515656:=()
def tw18331453743074010632:=()
def tw8880383995634385480:=()
def tw4779377761291655784:=()
def tw17883575715695826664:=()
def tw6931505398514491176:=()
def tw14609654182297811752:=()
def tw17003830818547613512:=()
def tw8663412827913646920:=()
def tw9822771078501966792:=()
def tw16265334027637591016:=()
def tw18119592917638376553:=()
def tw13355362044417664329:=()
def tw9917602665031857513:=()
def tw12475361039555359145:=()
def tw7633066617380216329:=()
def tw7693187920354800201:=()
def tw10538498000401118857:=()
def tw8843110146829001385:=()
def tw14106200871464807113:=()
def tw17131870328890355529:=()
def tw920226584324751209:=()
def tw17179062159010073642:=()
def tw2473137783375562954:=()
def tw10624655032613209290:=()
def tw11001997587737606346:=()
def tw9176132052586675562:=()
def tw16288079082767315690:=()
def tw8729657283184252746:=()
def tw4612448106681971562:=()
def tw17675684441316515786:=()
def tw9761920492782108779:=()
def tw16464656231382211723:=()
def tw14001372463469686987:=()
def tw1922383120891594187:=()
def tw10354876524072302059:=()
def tw12182654510456220267:=()
def tw3567191319714939691:=()
def tw6691379256349442124:=()
def tw5879739470020122924:=()
def tw16650629807054951148:=()
def tw14732382451091876588:=()
def tw7058407860462729068:=()
def tw3606377406837288973:=()
def tw4088003411955643405:=()
def tw1425753060033468941:=()
def tw4088022319464296045:=()
def tw17015974535746594445:=()
def tw11124447611733250733:=()
def tw13834383299251693357:=()
def tw8252397483090287469:=()
def tw15016207245644867501:=()
def tw1881031830432043981:=()
def tw4240149026089802766:=()
def tw10086344479885059150:=()
def tw18131739108760519854:=()
def tw16382079304076841134:=()
def tw4367137347257373006:=()
def tw13636196890820869486:=()
def tw6268554679993104846:=()
def tw4985939846103147182:=()
def tw6591725977477317454:=()
def tw9905163043276866414:=()
def tw3153465052329194350:=()
def tw4464832861033394158:=()
def tw7705556421343717423:=()
def tw10847374764415313167:=()
def tw13299102709201496527:=()
def tw18002902544992512495:=()
def tw12899102241576798735:=()
def tw9918141639080737551:=()
def tw9938319723317755759:=()
def tw10648898991267509135:=()
def tw1193146563703832527:=()
def tw14840208860430601232:=()
def tw6213210392958064752:=()
def tw1234516062992586960:=()
def tw12073844977032594672:=()
def tw598774099555732720:=()
def tw1063162633372141872:=()
def tw5973589050396139824:=()
def tw6800839524654130512:=()
def tw14193346245737733520:=()
def tw14489267647004325296:=()
def tw8250617238092290544:=()
def tw421058985616638480:=()
def tw14836221773178514416:=()
def tw316540827241863185:=()
def tw10965687067810733137:=()
def tw18081886461338448145:=()
def tw17409429580710561073:=()
def tw9002385627140463953:=()
def tw6239725489500560977:=()
def tw7255289169749529329:=()
def tw3861396465298622225:=()
def tw9317700692651664177:=()
def tw5481962905937769297:=()
def tw7036882194561668017:=()
def tw5250912196649691154:=()
def tw8096724744541072498:=()
def tw2220919515616932690:=()
def tw8586543607778380786:=()
def tw10931806079917459635:=()
def tw13201657761966422355:=()
def tw123367319974096435:=()
def tw1296584120946816627:=()
def tw5362393037490238195:=()
def tw13289572339948718995:=()
def tw16795666176568381331:=()
def tw6678872588472057012:=()
def tw4327747848820057300:=()
def tw10409536413400400244:=()
def tw287342114670927348:=()
def tw7439690522555262964:=()
def tw2951897016388491349:=()
def tw6001292715638677909:=()
def tw1935514877725786517:=()
def tw10795341670341291637:=()
def tw8648125877721786101:=()
def tw2046860558638181109:=()
def tw17505202689532266389:=()
def tw2685588309552666581:=()
def tw7890317627703514101:=()
def tw759492766922605622:=()
def tw1101644100124905686:=()
def tw7708638903937306902:=()
def tw5289214896358638870:=()
def tw8638098664529188246:=()
def tw13774610657472556470:=()
def tw10736088709289713110:=()
def tw6411238705804116566:=()
def tw16784716411610813142:=()
def tw14147521432410783510:=()
def tw11136830827219084086:=()
def tw2763914040329320278:=()
def tw2923151939761858390:=()
def tw6375476805170218966:=()
def tw5488512026579809399:=()
def tw5631365884756167799:=()
def tw11364361723865895191:=()
def tw9394698252306153815:=()
def tw15369362232492297591:=()
def tw14830896007542943287:=()
def tw13688442636205688503:=()
def tw13092526645090755415:=()
def tw5832853362084726743:=()
def tw5371226566749231288:=()
def tw11814753295621884152:=()
def tw3378784905517929752:=()
def tw1080452704024476056:=()
def tw6345944685266283000:=()
def tw1980032378635948792:=()
def tw16575299968460304312:=()
def tw14306895469247950009:=()
def tw13558428556900494681:=()
def tw15615833617695489465:=()
def tw2250265968693789113:=()
def tw8977730298737499641:=()
def tw9526891411199885849:=()
def tw9272766918442580537:=()
def tw1174509023588704857:=()
def tw12341963008322892441:=()
def tw12770918557296831417:=()
def tw7028774638631784474:=()
def tw1427402853217682650:=()
def tw5821437735736243450:=()
def tw3064430754844625146:=()
def tw9255431472125986202:=()
def tw9653450686753773370:=()
def tw7535211425901882170:=()
def tw1959853242166751066:=()
def tw1251451281621761882:=()
def tw17940064608306135994:=()
def tw1328753035855751130:=()
def tw11829146886392073243:=()
def tw17153169826541108347:=()
def tw13919746464051485883:=()
def tw1813461115540807995:=()
def tw3548547160148710907:=()
def tw3229235149513735707:=()
def tw7675371846278575643:=()
def tw2287722622256857691:=()
def tw8571579624475573883:=()
def tw3170626586776275611:=()
def tw10057977944140860123:=()
def tw16212422790524886939:=()
def tw15078188046270144475:=()
def tw11357025259509095419:=()
def tw8893203445894447132:=()
def tw4145984008391573660:=()
def tw16739975378685885660:=()
def tw13698030683474842044:=()
def tw13026983506167669212:=()
def tw4719818643424327164:=()
def tw359333689859862076:=()
def tw3443323390429708892:=()
def tw11370960718921945692:=()
def tw16195659065085951580:=()
def tw14957025818766368732:=()
def tw2970494945580706780:=()
def tw17809896017833274364:=()
def tw4488831966676741181:=()
def tw7866841691902729437:=()
def tw16167122216044056957:=()
def tw2253527575696491901:=()
def tw5608746463524013597:=()
def tw9081388419147963997:=()
def tw11038242861569108637:=()
def tw16315326545532560157:=()
def tw5513394901248494397:=()
def tw3540328175132730269:=()
def tw5352371732086731773:=()
def tw7642442860535061534:=()
def tw11337240535764675934:=()
def tw8769787727396278718:=()
def tw7144252905675466302:=()
def tw8344821014677339391:=()
def tw11327701951719085471:=()
def tw121596921450843647:=()
def tw14896202775381209919:=()
def tw16647385717542688639:=()
def tw12077919710260835327:=()
def tw7185143359188294619:=()
def tw5529420366720596124:=()
def tw18323619437384687497:=()
def tw16232587911141094422:=()
def tw16032009696737950280:=()
def tw5080591769510597270:=()
def tw11709503952754810893:=()
def tw14758201444495914016:=()
def tw13967855145716628120:=()
def tw16200287926134224969:=()
def tw16527532223906517214:=()
def tw15210949349446132568:=()
def tw1596351440269361132:=()
def tw7329535081528366840:=()
def tw16716670584914880777:=()
def tw17626573519380331229:=()
def tw826445175105312246:=()
def tw4787931152974338357:=()
def tw4399282100619012244:=()
def tw17448640166327686911:=()
def tw13036124770483798481:=()
def tw15078217255710744924:=()
def tw11195997817635795633:=()
def tw17604500531202390561:=()
def tw6705477046143122495:=()
def tw12698538811868668625:=()
def tw14507454893166578320:=()
def tw11342203859048204601:=()
def tw15728113648930242049:=()
def tw17682925325161815423:=()
def tw16919690149298767586:=()
def tw333998322629474618:=()
def tw1944317381393622537:=()
def tw8623860016071964059:=()
def tw12728949641896399591:=()
def tw8694775089058620240:=()
def tw17287795644484650347:=()
end PySem.W.Fast
open PySem PySem.W PyProof.Rows
set_option maxRecDepth 100000 in
set_option maxHeartbeats 0 in
theorem PySem.Challenge.cw_sowring_k28_barred_refused_holds : PySem.Challenge.rw_sowring_k28_barred_refused.Holds := by
 w_on;o_law;k_head;(case hw=>w_witness2)
 k_fill
 refine L2.Zlr (l:=PySem.Challenge.rw_sowring_k28_barred_refused) (n:=63) (k:=10) (x := "script") (CX:=L2.Fc) (sp:=My.NL) rfl (by decide) rfl ⟨rfl,by decide,by decide⟩ (fun w h Y=>⟨PySem.W.km_in_of Y,L2.Zhh (by kernel_rfl) (PySem.W.km_tabs_of Y)⟩) ?F ?S ?C
 case F =>
  intro w mg fa h KX G hmg
  have T:My.Gc (L2.MO KX) mg:=by
   dsimp only[L2.MO]
   refine' ⟨My.Jd KX G ?_ ?_ ?_ ?_,My.Jd KX G ?_ ?_ ?_ ?_,My.Jd KX G ?_ ?_ ?_ ?_,My.Jd KX G ?_ ?_ ?_ ?_,My.Jd KX G ?_ ?_ ?_ ?_,My.Jd KX G ?_ ?_ ?_ ?_,My.Jd KX G ?_ ?_ ?_ ?_,My.Jd KX G ?_ ?_ ?_ ?_,My.Jd KX G ?_ ?_ ?_ ?_,My.Jd KX G ?_ ?_ ?_ ?_,My.Jd KX G ?_ ?_ ?_ ?_,My.Jd KX G ?_ ?_ ?_ ?_,My.Jd KX G ?_ ?_ ?_ ?_,My.Jd KX G ?_ ?_ ?_ ?_,My.Jd KX G ?_ ?_ ?_ ?_,My.Jd KX G ?_ ?_ ?_ ?_,My.Jd KX G ?_ ?_ ?_ ?_,My.Jd KX G ?_ ?_ ?_ ?_,My.Jd KX G ?_ ?_ ?_ ?_,My.Jd KX G ?_ ?_ ?_ ?_,My.Jd KX G ?_ ?_ ?_ ?_,My.Jd KX G ?_ ?_ ?_ ?_,My.Jd KX G ?_ ?_ ?_ ?_,My.Jd KX G ?_ ?_ ?_ ?_,My.Jd KX G ?_ ?_ ?_ ?_,My.Jd KX G ?_ ?_ ?_ ?_,My.Jd KX G ?_ ?_ ?_ ?_,My.Jd KX G ?_ ?_ ?_ ?_,My.Jd KX G ?_ ?_ ?_ ?_,My.Jd KX G ?_ ?_ ?_ ?_,My.Jd KX G ?_ ?_ ?_ ?_,My.Jd KX G ?_ ?_ ?_ ?_,My.Jd KX G ?_ ?_ ?_ ?_,My.Jd KX G ?_ ?_ ?_ ?_,My.Jd KX G ?_ ?_ ?_ ?_,My.Jd KX G ?_ ?_ ?_ ?_,My.Jd KX G ?_ ?_ ?_ ?_,My.Jd KX G ?_ ?_ ?_ ?_,My.Jd KX G ?_ ?_ ?_ ?_,My.Jd KX G ?_ ?_ ?_ ?_,My.Jd KX G ?_ ?_ ?_ ?_,My.Jd KX G ?_ ?_ ?_ ?_,My.Jd KX G ?_ ?_ ?_ ?_,My.KG KX G ?_,My.KG KX G ?_,My.KG KX G ?_,PySem.W.mg_none_of KX G ?_,PySem.W.mg_none_of KX G ?_,PySem.W.mg_none_of KX G ?_,PySem.W.mg_none_of KX G ?_,PySem.W.mg_none_of KX G ?_,PySem.W.mg_none_of KX G ?_,PySem.W.mg_none_of KX G ?_,PySem.W.mg_none_of KX G ?_,PySem.W.mg_none_of KX G ?_,PySem.W.mg_none_of KX G ?_,PySem.W.mg_none_of KX G ?_,PySem.W.mg_none_of KX G ?_,PySem.W.mg_none_of KX G ?_,PySem.W.mg_none_of KX G ?_, ?_, ?_,fun n C e=>PySem.W.mg_of KX G e,My.C3 ?_ ?_ ?_ ?_ ?_ ?_,My.C3 ?_ ?_ ?_ ?_ ?_ ?_,My.C3 ?_ ?_ ?_ ?_ ?_ ?_,My.C3 ?_ ?_ ?_ ?_ ?_ ?_,My.C3 ?_ ?_ ?_ ?_ ?_ ?_, ?_⟩
   all_goals try first|k_is|kernel_rfl
  exact My.Zho T hmg
 case S=>exact fun K H a ns hl hS=>My.Zhp hl hS
 case C=>exact fun _ _ _ _ z=>z
