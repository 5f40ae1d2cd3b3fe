import PyProof.Rows.All
import Wide.All
import OpenK.AllK
import Wide.FinOn
import Lean
import PyProof.EqAt
import PyProof.EqKinds
import PyProof.TupleCall
import KE.KTryMore
import PyProof.NsDelKeeps
import PyProof.EnumStmt
import KE.KRevIter
import PyProof.ListNew
import KE.KIntText
import PyProof.ListRange
import PyProof.Rows.Range3
import PyProof.Rows.TupDisplay
import KE.KSortTup
import PyProof.Rows.SortRuns
import KE.KSortKey
import KE.KLam
import PyProof.DictWalks
import PyProof.DictTruth
import PyProof.StrBlock2
import PyProof.ExcInit
import PyProof.ExcClass2
import PySem.Challenge.RW_sowring_k32_hands_refuse
set_option linter.all false
set_option linter.defProp false
open List renaming getD_eq_getElem?_getD->Bb,length_map->Lb,mem_cons->Lc,getElem?_eq_getElem->Rc,mem_of_getElem?->Tc,mem_append->Ud,getElem?_map->Cd,map_cons->Dd,size_toArray->Ld,getElem?_eq_some_iff->Pd,mem_map->Ze,mem_append_right->Fe,map_map->Me,mem_append_left->Bf,append_assoc->Hf,length_take->Ug,mem_range->Qg,all_eq_true->Hg,getElem?_eq_none->Ch,length_cons->Dh,pairwise_append->Eh,length_append->Nh,getElem?_append_right->Ei,mem_cons_of_mem->Fi,mem_singleton->Gi,getElem?_append_left->Pi,take_append_drop->Ri,getElem?_set_self->Fj,getElem?_drop->Tj,getElem?_of_mem->Wj,getElem?_take->Xj,getElem?_set_ne->Il,mem_cons_self->Tl,mem_filter->Wl,map_congr_left->Om,ext_getElem?->Qo,length_drop->Ao,lookup_cons->Bo,mem_of_mem_drop->Co,mem_of_mem_take->Eo,take_of_length_le->Ho,pairwise_map->Rp,any_cons->Gr,drop_eq_getElem_cons->Hr,getElem?_range->Ir,map_append->Kr,nodup_cons->Lr,append_nil->Dt,contains_iff_mem->Et,extract_eq_take_drop->Ht,getElem?_eq_none_iff->Kt,getElem_mem->Mt,length_set->Nt,nil_append->Ot,not_mem_nil->Pt,replicate_succ->Rt,drop_zero->Tv,getElem?_zip_eq_some->Wv,length_filter_le->Xv,length_zip->Yv,map_nil->Zw,sum_cons->Jw,find?_cons->Oz,flatten_cons->Pz,length_nil->Rz,map_inj_right->Sz,nodup_iff_pairwise_ne->Tz,pairwise_cons->Wz,perm_append_comm->Xz,range_succ->Yz,cons_append->Q6,length_range->A6,pairwise_iff_getElem->B6,drop_of_length_le->IE,exists_cons_of_ne_nil->KE,find?_eq_none->ME,getElem?_cons_zero->NE,getElem?_take_of_lt->OE,getLastD_concat->RE,map_id->SE,mem_map_of_mem->WE,singleton_append->XE,take_length->YE,zip_cons_cons->ZF,drop_eq_nil_of_le->FO,filterMap_cons->GO,foldl_append->KO,foldl_cons->LO,getElem?_cons_succ->MO,getElem?_mapIdx->OO,getElem?_replicate->RO,length_replicate->SO,mem_filterMap->WO,mem_or_eq_of_mem_set->XO,mem_reverse->YO,of_mem_zip->ZP,pairwise_singleton->JP,set_append_right->VP,take_sublist->UP,eq_nil_of_length_eq_zero->ZbM,getElem?_replicate_of_lt->ZbN
open Nat renaming le_refl->Cb,le_trans->Oe,ne_of_lt->Vf,lt_of_lt_of_le->Ng,zero_le->Og,lt_irrefl->Io,zero_add->Tp,le_of_lt->Tt,le_succ->Wt,lt_of_le_of_lt->Xt,ne_of_gt->Z0,not_lt->J0,le_of_eq->C6,lt_succ_of_lt->JF,lt_succ_self->VF,min_le_left->UF,min_self->QF,pow_le_pow_left->QP,pow_le_pow_right->BP,pow_lt_pow_right->CP
open Int renaming emod_lt_of_pos->Qf,emod_nonneg->Af,toNat_natCast->El,toNat_of_nonneg->Hl,emod_eq_of_lt->Sl,zero_add->Er,le_refl->Nz,add_emod_right->FE,mul_nonneg->GE,natCast_zero->HE
open Array renaming length_toList->Gf,getElem?_toList->Ah,toList_map->Mz,toList_append->J6,toList_extract->V6,toList_inj->U6,getElem?_eq_getElem->AE,getElem?_eq_none->BE,toList_push->EE,append_assoc->CO,perm_iff_toList_perm->EO,toList_setIfInBounds->ZbL
open Option renaming getD_some->Vw,map_some->D6,bind_some->AF,map_eq_some_iff->BF,toList->CF,isSome_iff_exists->DP
open PySem renaming Addr->Ja,Value->Va,Shared->Ha,wpAny_bind->Ka,model->La,wpAny->Sa,Stmt->Fb,wpAny_pure->Mb,sizeLine->Rb,World->Xb,Program->Qc,starEach->Ed,Around->Qe,wpAny_mono->Cf,mainGlobals->Pg,bootBuiltins->Fh,backTo->Ti,sysModules->Yj,FuncData->Dl,compareOp->Xl,wpAny_holding->Yl,relabel->Ko,binaryOp->Wp,wpAny_rule->Yp,codeAmong->Yt,wpAny_truthy_bool->Zu,sliceBounds->Uw,wpAny_passesOwn->Qw,assignEach->U0,call_meets->Q0,closureFor->F0,foldedSetIterable->K0,lookup_relabel_local->Y0,wpAny_Call_Name_kw->Z1,wpAny_attempt->J1,wpAny_newList->U1,behindInMarks->E6,wpAny_call_entry->G6,wpAny_execs_nil->K6,letOwnedTupleGo->DF,wpAny_fieldsOf->EF,wpAny_newObj_type->FF,wpAny_typeNameOfWhole_keyiter->GF,wpAny_typeNameOf_keyiter->HF,tupleKind_room_in1->FP,wpAny_assign_Name->GP,wpAny_dictEntries->HP,wpAny_isOneOf_keyiter->IP,wpAny_pyIter_list->KP,wpAny_binaryOp_repeat_ref->ZbO
open PyProof.Rows renaming Keyed->Ua,arrOf->Ma,SortSt->Xa,wpS_bind->Vb,wpS_pure->Eb,pendingOf->Ac,kindOf->Hc,seqObj->Sd,setArr->Kf,elem'->Xg,wpS_forRange->Hi,SortKind->Si,failedOf->Gj,wpS_mono->Lk,wpS_get->Sm,setPending->Xp,wpS_modify->Zq,listUpdate_at->T0,reverseSlice'->Z6
open PySem.W renaming Frag->ZmM
def Aa:=@if_neg
def Ba:=@if_pos
def Gb:=@absurd
def Hb:=@decide_eq_true
def Tb:=@decide_eq_false
def Wf:=@congrArg
def Wi:=@of_decide_eq_true
def Rm:=@dif_pos
def F6:=@of_decide_eq_false
abbrev LI0:=List Int
abbrev LI4:=Array Ua
abbrev LI3:=List Va
abbrev LI2:=List Ja
abbrev LI1:=List LI0
set_option Elab.async false
set_option genSizeOf false
set_option genSizeOfSpec false
set_option maxRecDepth 100000
noncomputable section
namespace L2
open PySem PySem.Spec PyProof.Rows
abbrev Sb:=Sum Int Str
noncomputable def Nx:Sb->Va->Bool
 |.inl k,v=>Value.isInt k v
 |.inr x,v=>Value.isStrOf x v
noncomputable def ZhT(w:Xb):Sb->Int
 |.inl k=>hashInt k
 |.inr x=>hashStr w x
theorem Mq:∀{k:Sb}{v:Va},Nx k v=true->(∃i t,k=Sum.inl i/\v=Value.int i t)\/(∃x t,k=Sum.inr x/\v=Value.str x t)
 |.inl i,v,h=>by
  obtain⟨t,e⟩:=Value.isInt_shape (k:=i) (v:=v) h;exact .inl ⟨i,t,rfl,e⟩
 |.inr x,v,h=>by
  obtain⟨t,e⟩:=Value.isStrOf_shape (x:=x) (v:=v) h;exact .inr ⟨x,t,rfl,e⟩
theorem ZhU(i:Int)(t:Tok):Nx (.inl i) (.int i t)=true:=by simp[Nx,Value.isInt]
theorem ZhV(x:Str)(t:Tok):Nx (.inr x) (.str x t)=true:=by simp[Nx,Value.isStrOf]
theorem ZhX(a b:Int):decide ((Sum.inl a:Sb)=Sum.inl b)=(a==b):=by
 by_cases e:a=b
 ·subst e;simp
 ·have h:¬(Sum.inl a:Sb)=Sum.inl b:=fun q=>e (Sum.inl.inj q)
  rw[Tb h];exact(beq_eq_false_iff_ne.mpr e).symm
theorem Zib(a b:Str):decide ((Sum.inr a:Sb)=Sum.inr b)=decide (a=b):=by
 by_cases e:a=b
 ·subst e;simp
 ·have h:¬(Sum.inr a:Sb)=Sum.inr b:=fun q=>e (Sum.inr.inj q)
  rw[Tb h,Tb e]
theorem ZhY(a:Int)(b:Str):decide ((Sum.inl a:Sb)=Sum.inr b)=false:=Tb (fun q=>nomatch q)
theorem Zia(a:Str)(b:Int):decide ((Sum.inr a:Sb)=Sum.inl b)=false:=Tb (fun q=>nomatch q)
noncomputable def Sk(prog:Qc)(w:Xb):PySem.KeyKind prog w Sb where
 is:=Nx
 hash:=ZhT w
 inj:=fun v a b ha hb=>by
  rcases Mq ha with ⟨i,t,rfl,rfl⟩|⟨x,t,rfl,rfl⟩
  ·rcases Mq hb with ⟨j,u,rfl,e⟩|⟨y,u,rfl,e⟩
   ·injection e with e1 _;rw[e1]
   ·exact nomatch e
  ·rcases Mq hb with ⟨j,u,rfl,e⟩|⟨y,u,rfl,e⟩
   ·exact nomatch e
   ·injection e with e1 _;rw[e1]
 byValue:=fun k v h=>by
  rcases Mq h with ⟨i,t,rfl,rfl⟩|⟨x,t,rfl,rfl⟩<;>rfl
 pyHash:=fun hv h=>by
  rcases Mq hv with ⟨i,t,rfl,rfl⟩|⟨x,t,rfl,rfl⟩
  ·exact wpAny_pyHash_int h
  ·exact wpAny_pyHash_str h
 eqBool:=fun hu hv h=>by
  rcases Mq hu with ⟨i,t,rfl,rfl⟩|⟨x,t,rfl,rfl⟩
  ·rcases Mq hv with ⟨j,u,rfl,rfl⟩|⟨y,u,rfl,rfl⟩
   ·rw[ZhX] at h;exact wpAny_eqBool_int h
   ·rw[ZhY] at h;exact SeqAt.EqAt.int_str i t y u _ _ _ _ h
  ·rcases Mq hv with ⟨j,u,rfl,rfl⟩|⟨y,u,rfl,rfl⟩
   ·rw[Zia] at h;exact SeqAt.EqAt.str_int x t j u _ _ _ _ h
   ·rw[Zib] at h;exact wpAny_eqBool_str h
 «strs»:=fun k x t v h=>by
  rcases Mq h with ⟨i,u,rfl,e⟩|⟨y,u,rfl,e⟩
  ·exact nomatch e
  ·injection e with e1 _
   subst e1;cases v<;>rfl
theorem ZiY(prog:Qc)(w:Xb)(i:Int)(t:Tok):(Sk prog w).is (.inl i) (.int i t)=true:=ZhU i t
theorem ZiZ(prog:Qc)(w:Xb)(x:Str)(t:Tok):(Sk prog w).is (.inr x) (.str x t)=true:=ZhV x t
inductive V where
 |non|bl (b:Bool)|int (i:Int)|str (x:Str)|byt (b:Array UInt8)|flt (b:UInt64)|ref (a:Ja)|ty (n:String)
 deriving DecidableEq
def Nb:V->Va->Prop
 |.non,u=>u=Value.none
 |.bl b,u=>u=Value.bool b
 |.int i,u=>∃t,u=Value.int i t
 |.str x,u=>∃t,u=Value.str x t
 |.byt b,u=>∃t,u=Value.bytes b t
 |.flt b,u=>∃t,u=Value.float b t
 |.ref a,u=>u=Value.ref a
 |.ty n,u=>u=Value.type n
abbrev Ub:List V->LI3->Prop:=Paired Nb
theorem Ub.length(r:Ub xs us): xs.length=us.length:=Paired.length r
theorem Ub.get:∀{xs:List V}{us:LI3}{i:Nat}{x:V},Ub xs us->xs[i]?=some x->∃u,us[i]?=some u/\Nb x u
 |_,_,_,_,.nil,e=>by simp at e
 |_,_,0,_,.cons r _,e=>by simp at e;subst e;exact⟨_,rfl,r⟩
 |_,_,i+1,x,.cons _ t,e=>by
  obtain⟨u,h1,h2⟩:=Ub.get (i:=i) (x:=x) t (by simpa using e);exact⟨u,by simpa using h1,h2⟩
theorem Ub.set(r:Nb x u): ∀{xs:List V}{us:LI3} (i:Nat),Ub xs us->Ub (xs.set i x) (us.set i u)
 |_,_,_,.nil=>.nil
 |_,_,0,.cons _ t=>.cons r t
 |_,_,i+1,.cons q t=>.cons q (Ub.set r i t)
theorem Ub.append:∀{xs ys:List V}{us ws:LI3},Ub xs us->Ub ys ws->Ub (xs++ys) (us++ws)
 |_,_,_,_,.nil,s=>s
 |_,_,_,_,.cons r t,s=>.cons r (Ub.append t s)
theorem Ub.take:∀{xs:List V}{us:LI3} (n:Nat),Ub xs us->Ub (xs.take n) (us.take n)
 |_,_,0,_=>.nil
 |_,_,_+1,.nil=>.nil
 |_,_,n+1,.cons r t=>.cons r (Ub.take n t)
theorem Ub.drop:∀{xs:List V}{us:LI3} (n:Nat),Ub xs us->Ub (xs.drop n) (us.drop n)
 |_,_,0,r=>r
 |_,_,_+1,.nil=>.nil
 |_,_,n+1,.cons _ t=>Ub.drop n t
def Po:Option V->Option Va->Prop
 |some v,some u=>Nb v u
 |none,none=>True
 |_,_=>False
def KV{κ:Type}:List (κ×V)->List (κ×Va)->Prop:=Paired fun(p:κ×V) (q:κ×Va)=>p.1=q.1/\Nb p.2 q.2
noncomputable def kV:Sb->V
 |.inl i=>.int i
 |.inr x=>.str x
inductive HO where
  |lst (xs:List V)
  |tup (xs:List V)
  |dK (Ra:List (Sb×V))|dT (Ra:List (List Sb×V))
  |set (S:Int->Bool) (n:Nat)
  |ins (C dx:Ja) (fs:List (Str×V))
  |own (x:Ja)
  |xd (fs:List (Str×V))
  |met (f x:Ja)
  |rng (lo hi:Int)
  |frz (o:Obj) (u:HO)
  |tbl (ps:Array Va) (q:Str)
  |ext (φ:Heap->Prop)
abbrev Hp:=Ja->Option HO
def VR:HO->Prop
 |.tup _=>True
 |.frz _ (.own _)=>True
 |_=>False
abbrev TF:={ u:HO // VR u }
def KF(q:Str)(o:Obj):Prop:=∃vs t,o.data=.fields vs/\vs[1]?=some (.str q t)
noncomputable def upd(H:Hp)(a:Ja)(o:HO):Hp:=fun b=>if b=a then some o else H b
theorem Hd: upd H a o a=some o:=by unfold upd;rw[Ba rfl]
theorem Ab(h:b≠a): upd H a o b=H b:=by unfold upd;rw[Aa h]
theorem IK{H:Hp}{a b:Ja}{o u:HO}(h:H a=some o)(h':H b=some u)(d:o≠u):a≠b:=by
 intro e;subst e;rw[h] at h';exact d (Option.some.inj h')
theorem Gg{H:Hp}{a b:Ja}{o:HO}(h:H a=some o)(h':H b=none):a≠b:=by
 intro e;subst e;rw[h] at h';cases h'
section
variable (P:Qc) (w:Xb)
def Df(H:Hp)(h:Heap)(a:Ja):HO->Prop
 |.lst xs=>xs.length<=Rb/\∃(its:LI3) (n:Nat),Ub xs its/\h.get? a=some { cls:=.type "list",data:=.seq its.toArray n }
 |.tup xs=>xs.length<=Rb/\∃its:LI3,Ub xs its/\IsTup h a its.toArray
 |.dK Ra=>Ra.length<=Rb/\(a==Yj)=false/\∃vs,KV Ra vs/\h.DictOf (Sk P w) a vs
 |.dT Ra=>Ra.length<=Rb/\(a==Yj)=false/\∃xs:List (List Sb×Ja×Va),
   Paired (fun(p:List Sb×V) (q:List Sb×Ja×Va)=>p.1=q.1/\H q.2.1=some (.tup (p.1.map kV))/\Nb p.2 q.2.2) Ra xs /\
   ∃o es ep,h.get? a=some o/\o.ExactDict/\o.data=.dict es ep/\es.toList=xs.map (entryOfKey (tupleKind (Sk P w)))/\(xs.map (·.1)).Nodup
 |.set S n=>h.SetOf (intKind P w) a S n
 |.ins C dx fs=>H dx=some (.own a)/\fs.length<=1000/\dx≠a/\h.get? a=some (PySem.W.instObj C dx) /\
   ∃mA,h.Ns1 dx mA/\(∀f,Po (fs.lookup f) (mA f))/\PySem.Within mA (fs.map (·.1))
 |.own _=>∃o,h.get? a=some o
 |.xd fs=>∃mA,h.Ns1 a mA/\∀f,Po (fs.lookup f) (mA f)
 |.rng lo hi=>∃t u v,h.get? a=some { cls:=.type "range",data:=.fields #[.int lo t,.int hi u,.int 1 v] }
 |.frz o u=>h.get? a=some o/\Df H h a u
 |.tbl ps q=>∃more:Array Va,h.get? a=some { cls:=.none,data:=.fields (ps++more) }/\TriplesOk (ps++more).toList/\∀pos c',Yt pos (ps++more).toList=some c'->∃c o,c'=.ref c/\H c=some (.frz o (.own c))/\KF q o
 |.met f x=>h.get? a=some (PySem.W.methodObj (.ref f) (.ref x))
 |.ext φ=>φ h/\(∃o,h.get? a=some o)/\∀h1 h2:Heap,φ h1->(∀o,h1.get? a=some o->h2.get? a=some o)->φ h2
def Pe(H:Hp)(h:Heap):Prop:=∀a o,H a=some o->Df P w H h a o
end
section
variable {P:Qc}{w:Xb}{H H':Hp}{h h':Heap}{a:Ja}{o:HO}
theorem Df.lt(x:Df P w H h a o):a<h.objs.size:=by
 cases o with
 |lst xs=>obtain⟨_,_,_,_,e⟩:=x;exact Heap.lt_size e
 |tup xs=>obtain⟨_,_,_,p⟩:=x;exact p.lt
 |dK Ra=>obtain⟨_,_,_,_,o,_,_,e,_⟩:=x;exact Heap.lt_size e
 |dT Ra=>obtain⟨_,_,_,_,o,_,_,e,_⟩:=x;exact Heap.lt_size e
 |set S n=>obtain⟨o,_,_,_,e,_⟩:=x;exact Heap.lt_size e
 |ins C dx fs=>obtain⟨_,_,_,e,_⟩:=x;exact Heap.lt_size e
 |own y=>obtain⟨_,e⟩:=x;exact Heap.lt_size e
 |xd fs=>obtain⟨_,⟨_,_,_,e,_⟩,_⟩:=x;exact Heap.lt_size e
 |rng lo hi=>obtain⟨_,_,_,e⟩:=x;exact Heap.lt_size e
 |frz ob u=>obtain⟨e,_⟩:=x;exact Heap.lt_size e
 |tbl ps q=>obtain⟨_,e,_⟩:=x;exact Heap.lt_size e
 |met f y=>exact Heap.lt_size (show h.get? a=some _ from x)
 |ext φ=>obtain⟨_,⟨_,e⟩,_⟩:=x;exact Heap.lt_size e
theorem Paired.mapP: ∀{l₁:List α}{l₂:List β},Paired F l₁ l₂->(∀a b,F a b->G a b)->Paired G l₁ l₂
 |_,_,.nil,_=>.nil
 |_,_,.cons r t,f=>.cons (f _ _ r) (Paired.mapP t f)
theorem Df.stay(x:Df P w H h a o)(k:∀b u,(b=a\/H b=some (.own a))->h.get? b=some u->h'.get? b=some u)(ho:∀b,H b=some (.own a)->H' b=some (.own a))(ht:∀b (xs:TF),H b=some xs.1->H' b=some xs.1):Df P w H' h' a o:=by
 induction o with
 |lst xs=>obtain⟨z,its,n,r,e⟩:=x;exact⟨z,its,n,r,k _ _ (.inl rfl) e⟩
 |tup xs=>obtain⟨z,its,r,ob,e,c⟩:=x;exact⟨z,its,r,ob,k _ _ (.inl rfl) e,c⟩
 |dK Ra=>obtain⟨z,y,vs,r,ob,es,ep,e,c⟩:=x;exact⟨z,y,vs,r,ob,es,ep,k _ _ (.inl rfl) e,c⟩
 |dT Ra =>
  obtain⟨z,y,xs,r,ob,es,ep,e,c⟩:=x;exact⟨z,y,xs,Paired.mapP r fun p q z=>⟨z.1,ht _ ⟨.tup _,trivial⟩ z.2.1,z.2.2⟩,ob,es,ep,k _ _ (.inl rfl) e,c⟩
 |set S n=>obtain⟨ob,es,ep,t,e,c⟩:=x;exact⟨ob,es,ep,t,k _ _ (.inl rfl) e,c⟩
 |ins C dx fs =>
  obtain⟨d,z,ne,e,mA,⟨od,es,ep,e2,c⟩,r⟩:=x;exact⟨ho _ d,z,ne,k _ _ (.inl rfl) e,mA,⟨od,es,ep,k _ _ (.inr d) e2,c⟩,r⟩
 |own y=>obtain⟨ob,e⟩:=x;exact⟨ob,k _ _ (.inl rfl) e⟩
 |xd fs=>obtain⟨mA,⟨od,es,ep,e,c⟩,r⟩:=x;exact⟨mA,⟨od,es,ep,k _ _ (.inl rfl) e,c⟩,r⟩
 |rng lo hi=>obtain⟨t,u,v,e⟩:=x;exact⟨t,u,v,k _ _ (.inl rfl) e⟩
 |frz ob u ih=>obtain⟨e,q⟩:=x;exact⟨k _ _ (.inl rfl) e,ih q⟩
 |tbl ps q =>
  obtain⟨more,e,t,cs⟩:=x;refine⟨more,k a _ (.inl rfl) e,t,fun pos c' h1=>?_⟩;obtain⟨c,o2,e1,e2,e3⟩:=cs pos c' h1;exact⟨c,o2,e1,ht _ ⟨.frz _ (.own _),trivial⟩ e2,e3⟩
 |met f y =>
  have e:h.get? a=some (PySem.W.methodObj (.ref f) (.ref y)):=x;show h'.get? a=some (PySem.W.methodObj (.ref f) (.ref y));exact k a _ (.inl rfl) e
 |ext φ=>obtain⟨p,⟨o,e⟩,st⟩:=x;exact⟨st _ _ p fun o q=>k _ _ (.inl rfl) q,⟨o,k _ _ (.inl rfl) e⟩,st⟩
theorem Pe.lt(x:Pe P w H h)(e:H a=some o):a<h.objs.size:=(x a o e).lt
theorem Pe.fresh(x:Pe P w H h)(e:h.objs.size<=a):H a=none:=by
 cases q:H a with
 |none=>rfl
 |some u=>exact Gb (Ng (x.lt q) e) (Io _)
theorem Pe.kept(x:Pe P w H h)(k:∀b u,h.get? b=some u->h'.get? b=some u):Pe P w H h':=fun a o e =>
 (x a o e).stay (fun b u _ q=>k b u q) (fun _ q=>q) fun _ _ q=>q
theorem Pe.laid(x:Pe P w H h)(k:∀b u,h.get? b=some u->h'.get? b=some u)(hp:h.objs.size<=a)(new:Df P w (upd H a o) h' a o):Pe P w (upd H a o) h':=fun b u e=>by
 have hn:=x.fresh hp;by_cases hb:b=a
 ·subst hb;rw[Hd] at e;cases e;exact new
 ·rw[Ab hb] at e
  exact(x b u e).stay (fun c v _ q=>k c v q) (fun c q=>by rw[Ab (Gg q hn)];exact q) fun c xs q=>by rw[Ab (Gg q hn)];exact q
end
def Rd(H:Hp)(a:Ja)(u:HO):Prop:=H a=some u\/∃o,H a=some (.frz o u)
theorem Rd.ok(r:Rd H a u)(x:Pe P w H h): Df P w H h a u:=by
 rcases r with r|⟨o,r⟩
 ·exact x a u r
 ·obtain⟨_,q⟩:=x a _ r
  exact q
def X1:Option HO->Prop
 |some (.lst _)=>True
 |some (.dK _)=>True
 |some (.dT _)=>True
 |some (.set _ _)=>True
 |some (.ins _ _ _)=>True
 |some (.ext _)=>True
 |_=>False
section
variable {P:Qc}{w:Xb}{H:Hp}{h h':Heap}{x e:Ja}{o':HO}
theorem Pe.write(ok:Pe P w H h)(mu:X1 (H x))(he:e=x\/H e=some (.own x))(k:∀b u,b≠e->h.get? b=some u->h'.get? b=some u)(heo:∃u,h'.get? e=some u)(new:Df P w (upd H x o') h' x o'):Pe P w (upd H x o') h':=fun b u q=>by
 have nown:∀c y,H c=some (.own y)->c≠x:=fun c y r z=>by subst z;rw[r] at mu;exact mu
 have ntup:∀c (xs:TF),H c=some xs.1->c≠x:=fun c xs r z=>by
  subst z;rw[r] at mu;obtain⟨u,hu⟩:=xs;cases u<;>first|exact mu.elim|exact hu.elim
 by_cases hb:b=x
 ·subst hb;rw[Hd] at q;cases q;exact new
 ·rw[Ab hb] at q
  by_cases hbe:b=e
  ·have q':H b=some (.own x):=by
    rcases he with z|z
    ·exact Gb (hbe.trans z) hb
    ·rw[hbe];exact z
   rw[q] at q';cases q';obtain⟨v,hv⟩:=heo;exact⟨v,by rw[hbe];exact hv⟩
  ·refine(ok b u q).stay (fun c v hc r=>k c v ?_ r) (fun c r=>by rw[Ab (nown c b r)];exact r) fun c xs r=>by rw[Ab (ntup c xs r)];exact r
   rcases hc with rfl|hc
   ·exact hbe
   ·rintro rfl
    rcases he with z|z
    ·exact nown c b hc z
    ·rw[hc] at z;cases z;exact hb rfl
end
structure Un(fs ex:LI2)(H H':Hp)(h h':Heap):Prop where
 keep:∀b o,h.get? b=some o->H b=none->b ∉ fs->b ∉ ex->h'.get? b=some o
 slot:∀b o,h.get? b=some o->H b=none->b∈fs->b ∉ ex->∃sl,h'.get? b=some { o with slots:=sl }
 free:∀b o,h.get? b=some o->H b=none->b ∉ ex->H' b=none
 there:∀b o,h.get? b=some o->b ∉ ex->∃o',h'.get? b=some o'
 tups:∀b xs,H b=some (.tup xs)->H' b=some (.tup xs)
 frzs:∀b o u,H b=some (.frz o u)->H' b=some (.frz o u)
 tbls:∀b ps q,H b=some (.tbl ps q)->H' b=some (.tbl ps q)
section
variable {fs ex:LI2}{H H1:Hp}{h h1 h':Heap}{a x e:Ja}{o:HO}
theorem Un.any(u:Un fs ex H H1 h h1)(q:h.get? b=some ob)(n:H b=none)(hx:b ∉ ex): ∃sl,h1.get? b=some { ob with slots:=sl }:=by
 by_cases hb:b∈fs
 ·exact u.slot b ob q n hb hx
 ·exact⟨ob.slots,u.keep b ob q n hb hx⟩
theorem Un.kept(k:∀b u,h.get? b=some u->h'.get? b=some u):Un fs ex H H h h':=
 ⟨fun b ob q _ _ _=>k b ob q,fun b ob q _ _ _=>⟨ob.slots,k b ob q⟩,fun _ _ _ n _=>n,fun b ob q _=>⟨ob,k b ob q⟩,fun _ _ q=>q,fun _ _ _ q=>q,fun _ _ _ q=>q⟩
theorem Un.refl:Un fs ex H H h h:=Un.kept fun _ _ q=>q
theorem Un.laid(k:∀b u,h.get? b=some u->h'.get? b=some u)(hp:h.objs.size<=a)(hn:H a=none):Un fs ex H (upd H a o) h h' where
 keep:=fun b u q _ _ _=>k b u q
 slot:=fun b u q _ _ _=>⟨u.slots,k b u q⟩
 free:=fun b u q n _=>by rw[Ab (Vf (Ng (Heap.lt_size q) hp))];exact n
 there:=fun b u q _=>⟨u,k b u q⟩
 tups:=fun b xs q=>by rw[Ab (Gg q hn)];exact q
 frzs:=fun b u xs q=>by rw[Ab (Gg q hn)];exact q
 tbls:=fun b ps u q=>by rw[Ab (Gg q hn)];exact q
theorem Un.write(mu:X1 (H x))(he:e=x\/H e=some (.own x))(k:∀b u,b≠e->h.get? b=some u->h'.get? b=some u)(heo:∃u,h'.get? e=some u):Un fs ex H (upd H x o) h h':=by
 have hx:∀b,H b=none->b≠x:=fun b n z=>by subst z;rw[n] at mu;exact mu
 have hb:∀b,H b=none->b≠e:=fun b n z=>by
  subst z;rcases he with r|r
  ·exact hx b n r
  ·rw[n] at r;cases r
 have hm:∀b u,H b=some u->¬X1 (some u)->b≠x:=fun b u q nm z=>by subst z;rw[q] at mu;exact nm mu
 refine⟨fun b u q n _ _=>k b u (hb b n) q,fun b u q n _ _=>⟨u.slots,k b u (hb b n) q⟩,fun b u q n _=>by rw[Ab (hx b n)];exact n,fun b u q _=>?_,
  fun b xs q=>by rw[Ab (hm b _ q fun z=>z)];exact q,fun b u xs q=>by rw[Ab (hm b _ q fun z=>z)];exact q,fun b ps u q=>by rw[Ab (hm b _ q fun z=>z)];exact q⟩
 by_cases hbe:b=e
 ·subst hbe;exact heo
 ·exact⟨u,k b u hbe q⟩
end
def Iz(h:Heap)(H:Hp):LI2:=(List.range h.objs.size).filter fun a=>(H a).isSome
def Iq(h:Heap)(H:Hp):Heap:=PySem.W.hideAll h (Iz h H)
theorem Zhz(h:Heap)(H:Hp):(Iq h H).objs.size=h.objs.size:=PySem.W.hideAll_size _ _
theorem Zhy(e:h.get? b=some o)(n:H b=none): (Iq h H).get? b=some o:=
 PySem.W.hideAll_get _ e fun hm=>by
  have q:(H b).isSome=true:=(Wl.mp hm).2;rw[n] at q;simp at q
theorem Zjs(e:(Iq h H).get? b=some o): h.get? b=some o/\H b=none:=by
 have e':h.get? b=some o:=PySem.W.of_hideAll (Iz h H) e;refine⟨e', ?_⟩;cases q:H b with
 |none=>rfl
 |some x =>
  have hm:b∈Iz h H:=Wl.mpr ⟨Qg.mpr (Heap.lt_size e'),by simp[q]⟩;have z:(Iq h H).get? b=none:=PySem.W.hideAll_none (Iz h H) hm;rw[z] at e;cases e
noncomputable def ZcH(g h:Heap)(L:Ja):List (Ja×Obj):=(List.range h.objs.size).filterMap fun a=>if a=L\/(g.get? a).isSome=true then none else (h.get? a).map fun o=>(a,o)
def Gp(g h:Heap)(L d:Ja):List (Ja×Obj):=(ZcH g h L).filter fun p=>decide (p.1≠d)
def IF(mg:Str->Option Va)(h:Heap):Prop:=∃bm o,mg "__builtins__"=some (.ref bm)/\bm≠builtinsNs/\h.get? bm=some o/\o.cls=.type "module"/\o.dict=some builtinsNs/\o.data=.plain
structure Mod(K:ZmM)(mg:Str->Option Va)(base:Heap):Prop where
 kin:K.In base
 glob:base.Ns Pg mg
 blt:∃mb,base.Ns builtinsNs mb/\∀x:Str,x ≠ "__name__"->mb x=Fh x
 nolimit:base.NoLimit
 bmod:IF mg base
structure Cx where
 prog:Qc
 w:Xb
 K:ZmM
 mg:Str->Option Va
 base:Heap
 A:Qe
 N:List Str
 s₀:Ha
 H₀:Hp
 env:Env
 outer:List Env
 stack:List Env
 ex:LI2
 fn:Str->Bool
 calm:Bool
 pn:List (Ja×Obj)
 xe:Va->Ha->Prop
noncomputable def Te(l:List Env):LI2:=l.filterMap (·.frame)
abbrev Cx.fs(X:Cx):LI2:=Te X.outer
def U2(sc:Scope)(x:Str):Prop:=sc.names.lookup x=some .local\/sc.names.lookup x=some .cell\/sc.names.lookup x=some .free
def Du(sc:Scope)(x:Str):Prop:=sc.names.lookup x=some .local\/sc.names.lookup x=some .cell
def SQ(env:Env)(h:Heap)(m:Str->Option Va)(x:Str)(u:Va):Prop:=
 (env.kindOf x=some .local/\m x=some u)\/((env.kindOf x=some .cell\/env.kindOf x=some .free)/\∃c,env.cells.lookup x=some c/\h.IsCell c (some u))
noncomputable def Mj(K:ZmM)(f:Ja):Option (Ja×Ja):=match K.lookup f with
 |some ⟨_,_,.func fd,_⟩=>if fd.name = "ends_first" then (match fd.code with
   |.ref c=>(match K.lookup c with
    |some ⟨_,_,.fields vs,_⟩=>(match (vs[11]?:Option Va) with
     |some (.ref P)=>if PySem.W.codeHdIn K c P=true then some (c,P) else none
     |_=>none)
    |_=>none)
   |_=>none) else none
 |_=>none
def UR(K:ZmM)(H:Hp):Prop:=∀f c P,Mj K f=some (c,P)->H P=some (.tbl #[] "ends_first.<locals>.<lambda>")
structure Cx.Ok(X:Cx):Prop where
 mod:Mod X.K X.mg X.base
 kind:X.env.scope.kind=.function
 glob:X.env.globals=Pg
 blt:X.env.builtins=builtinsNs
 above:X.s₀.heap.objs.size<=X.env.locals
 inj:∀x y c,X.env.cells.lookup x=some c->X.env.cells.lookup y=some c->x=y
 has:∀x,(X.env.kindOf x=some .cell\/X.env.kindOf x=some .free)->∃c,X.env.cells.lookup x=some c
 cab:∀x c,X.fn x=true->X.env.cells.lookup x=some c->X.s₀.heap.objs.size<=c
 hd:X.calm=true->X.A.handled=none
 frames:X.A.frames=some X.stack
 stk:X.stack=X.outer\/(X.stack=X.env::X.outer/\X.env.frame=some X.env.locals)
 exf:∀b∈X.ex,b≠X.env.locals/\∀x c,X.env.cells.lookup x=some c->c≠b
 bs:∀b o,X.base.get? b=some o->X.s₀.heap.get? b=some o/\X.H₀ b=none
 bsz:X.base.objs.size<=X.s₀.heap.objs.size
 noex:∀b o,X.base.get? b=some o->b ∉ X.ex
 exfs:∀b∈X.ex,b ∉ X.fs
 funs:X.s₀.heap.FunFrames X.base X.outer
 frf:∀b∈X.fs,X.H₀ b=none
 tab:UR X.K X.H₀
structure Da(X:Cx)(Za:List (Ja×Obj))(σ:List (Option V))(H:Hp)(s:Ha):Prop where
 ok:X.Ok
 os:s.os=X.s₀.os
 bare:AllBare s.gens
 base:Un X.fs X.ex X.H₀ H X.s₀.heap s.heap
 loc:∃m,s.heap.Ns X.env.locals m/\∀(i:Nat) (x:Str) (v:V),X.N[i]?=some x->σ[i]?=some (some v)->U2 X.env.scope x->∃u,Nb v u/\SQ X.env s.heap m x u
 cell:∀x c,X.env.cells.lookup x=some c->∃v,s.heap.IsCell c v
 free:H X.env.locals=none
 freeC:∀x c,X.env.cells.lookup x=some c->H c=none
 pin:∀p∈X.pn++Za,s.heap.get? p.1=some p.2/\H p.1=none/\p.1≠X.env.locals/\p.1 ∉ X.fs/\∀v,p.2.data≠.cell v
 hok:Pe X.prog X.w H s.heap
 len:σ.length=X.N.length
section
variable {X:Cx}{Za:List (Ja×Obj)}{σ:List (Option V)}{H H':Hp}{s:Ha}{h':Heap}
theorem Cx.Ok.nofr(ok:X.Ok)(e:X.base.get? b=some o): b ∉ X.fs:=fun hb=>by
 have:=(ok.funs.mem hb).1;rw[e] at this;cases this
theorem Da.bs(I:Da X Za σ H s):∀b o,X.base.get? b=some o->s.heap.get? b=some o/\H b=none:=fun b o e =>
 ⟨I.base.keep b o (I.ok.bs b o e).1 (I.ok.bs b o e).2 (I.ok.nofr e) (I.ok.noex b o e),I.base.free b o (I.ok.bs b o e).1 (I.ok.bs b o e).2 (I.ok.noex b o e)⟩
theorem Da.bk(I:Da X Za σ H s):∀b o,X.base.get? b=some o->s.heap.get? b=some o:=fun b o e=>(I.bs b o e).1
theorem Da.mod(I:Da X Za σ H s):Mod X.K X.mg X.base:=I.ok.mod
theorem Da.kIn(I:Da X Za σ H s):X.K.In s.heap:=I.ok.mod.kin.keeps I.bk
theorem Da.nolimit(I:Da X Za σ H s):s.heap.NoLimit:=I.ok.mod.nolimit.keeps I.bk
theorem Da.lt(I:Da X Za σ H s):X.env.locals<s.heap.objs.size:=let ⟨_,hn,_⟩:=I.loc;hn.lt
theorem Da.sz(I:Da X Za σ H s):X.s₀.heap.objs.size<=s.heap.objs.size:=Oe I.ok.above (Tt I.lt)
theorem Da.nofs(I:Da X Za σ H s)(h:s.heap.objs.size<=a): a ∉ X.fs:=fun hb=>by
 obtain⟨_,o,ho,_⟩:=I.ok.funs.mem hb;exact Gb (Ng (Heap.lt_size ho) (Oe I.sz h)) (Io _)
theorem Da.cne(I:Da X Za σ H s):∀x c,X.env.cells.lookup x=some c->c≠X.env.locals:=fun x c e z=>by
 obtain⟨v,o,ho,hd⟩:=I.cell x c e;obtain⟨m,⟨o',es,ep,ho',hd',_⟩,_⟩:=I.loc;rw[z,ho'] at ho;cases ho;rw[hd'] at hd;cases hd
theorem Da.funs(I:Da X Za σ H s):s.heap.FunFrames X.base X.outer:=by
 have all:∀(l:List Env),(∀b∈Te l,b∈X.fs)->X.s₀.heap.FunFrames X.base l->s.heap.FunFrames X.base l:=by
  intro l
  induction l with
  |nil=>intro _ _;trivial
  |cons env r ih =>
   intro hs hl;obtain⟨hk,⟨L,o,hf,hn,ho,hd⟩,hr⟩:=hl;have hL:L∈X.fs:=hs L (by unfold Te;rw[GO,hf];exact Tl);obtain⟨sl,e⟩:=I.base.slot L o ho (I.ok.frf L hL) hL fun z=>I.ok.exfs L z hL;exact⟨hk,⟨L,_,hf,hn,e,hd⟩,ih (fun b hb=>hs b (by unfold Te;rw[GO,hf];exact Fi _ hb)) hr⟩
 exact all X.outer (fun _ hb=>hb) I.ok.funs
theorem Da.stack(I:Da X Za σ H s):s.heap.FunFrames X.base X.stack:=by
 rcases I.ok.stk with e|⟨e,hf⟩
 ·rw[e];exact I.funs
 ·rw[e]
  obtain⟨m,hn,_⟩:=I.loc;refine .cons (by rw[I.ok.kind];decide) hf hn ?_ I.funs;exact Heap.get?_none_of_le (Oe I.ok.bsz I.ok.above)
theorem Da.stkSub(I:Da X Za σ H s):∀b∈Te X.stack,b∈X.env.locals::X.fs:=fun b hb=>by
 rcases I.ok.stk with e|⟨e,hf⟩
 ·rw[e] at hb;exact Fi _ hb
 ·rw[e] at hb
  unfold Te at hb;rw[GO,hf] at hb;exact hb
theorem Da.stkFree(I:Da X Za σ H s):∀b∈Te X.stack,H b=none:=fun b hb=>by
 rcases Lc.mp (I.stkSub b hb) with e|hb
 ·rw[e];exact I.free
 ·obtain⟨_,o,ho,_⟩:=I.ok.funs.mem hb
  exact I.base.free b o ho (I.ok.frf b hb) fun z=>I.ok.exfs b z hb
theorem Da.step{g':Array GenState}{t':Nat}{d':Drawn}{ch:LI2}(I:Da X Za σ H s)(hch:∀b∈ch,(b∈X.ex\/X.s₀.heap.objs.size<=b)/\b≠X.env.locals/\(∀x c,X.env.cells.lookup x=some c->c≠b)/\∀p∈X.pn++Za,p.1≠b)(keep:∀b o,b≠X.env.locals->b ∉ X.fs->b ∉ ch->s.heap.get? b=some o->H b=none->h'.get? b=some o)(slot:∀b o,b≠X.env.locals->b∈X.fs->b ∉ ch->s.heap.get? b=some o->H b=none->∃sl,h'.get? b=some { o with slots:=sl })(free:∀b o,b ∉ ch->s.heap.get? b=some o->H b=none->H' b=none)(there:∀b o,b ∉ ch->s.heap.get? b=some o->∃o',h'.get? b=some o')(tups:∀b xs,H b=some (.tup xs)->H' b=some (.tup xs))(frzs:∀b o u,H b=some (.frz o u)->H' b=some (.frz o u))(tbls:∀b ps q,H b=some (.tbl ps q)->H' b=some (.tbl ps q))(ns:∀m,s.heap.Ns X.env.locals m->h'.Ns X.env.locals m)(hok:Pe X.prog X.w H' h')(hg:AllBare g') :
  Da X Za σ H' { s with heap:=h',gens:=g',drawn:=d',toks:=t' }:=by
 have neL:∀b o,X.s₀.heap.get? b=some o->b≠X.env.locals:=fun b o e=>Vf (Ng (Heap.lt_size e) I.ok.above);have neC:∀b o,X.s₀.heap.get? b=some o->b ∉ X.ex->b ∉ ch:=fun b o e hx hb=>by
  rcases (hch b hb).1 with z|z
  ·exact hx z
  ·exact Gb (Ng (Heap.lt_size e) z) (Io _)
 have cellK:∀x c,X.env.cells.lookup x=some c->∀v,s.heap.IsCell c v->h'.IsCell c v:=fun x c e v ⟨o,ho,hd⟩=>by
  have nch:c ∉ ch:=fun z=>(hch c z).2.2.1 x c e rfl;by_cases hc:c∈X.fs
  ·obtain⟨sl,q⟩:=slot c o (I.cne x c e) hc nch ho (I.freeC x c e)
   exact⟨_,q,hd⟩
  ·exact⟨o,keep c o (I.cne x c e) hc nch ho (I.freeC x c e),hd⟩
 refine⟨I.ok,I.os,hg,⟨fun b o e n hb hx=>?_,fun b o e n hb hx=>?_,fun b o e n hx=>?_,fun b o e hx=>?_,fun b xs e=>tups b xs (I.base.tups b xs e),fun b o xs e=>frzs b o xs (I.base.frzs b o xs e),fun b ps u e=>tbls b ps u (I.base.tbls b ps u e)⟩, ?_,fun x c e=>?_, ?_,fun x c e=>?_,fun p hp=>?_,hok,I.len⟩
 ·exact keep b o (neL b o e) hb (neC b o e hx) (I.base.keep b o e n hb hx) (I.base.free b o e n hx)
 ·obtain⟨sl,e1⟩:=I.base.slot b o e n hb hx
  obtain⟨sl',e2⟩:=slot b _ (neL b o e) hb (neC b o e hx) e1 (I.base.free b o e n hx);exact⟨sl',e2⟩
 ·obtain⟨o',e1⟩:=I.base.there b o e hx
  exact free b o' (neC b o e hx) e1 (I.base.free b o e n hx)
 ·obtain⟨o',e1⟩:=I.base.there b o e hx
  exact there b o' (neC b o e hx) e1
 ·obtain⟨m,hn,hl⟩:=I.loc
  refine⟨m,ns m hn,fun i x v e1 e2 e3=>?_⟩;obtain⟨u,r,l⟩:=hl i x v e1 e2 e3;refine⟨u,r, ?_⟩;rcases l with l|⟨k,c,e,z⟩
  ·exact .inl l
  ·exact .inr ⟨k,c,e,cellK x c e _ z⟩
 ·obtain⟨v,z⟩:=I.cell x c e
  exact⟨v,cellK x c e v z⟩
 ·obtain⟨m,⟨o,_,_,ho,_⟩,_⟩:=I.loc
  exact free _ o (fun z=>(hch _ z).2.1 rfl) ho I.free
 ·obtain⟨v,o,ho,hd⟩:=I.cell x c e
  exact free c o (fun z=>(hch c z).2.2.1 x c e rfl) ho (I.freeC x c e)
 ·obtain⟨e,n,ne,nf,d⟩:=I.pin p hp
  have nch:p.1 ∉ ch:=fun z=>(hch p.1 z).2.2.2 p hp rfl;exact⟨keep p.1 p.2 ne nf nch e n,free p.1 p.2 nch e n,ne,nf,d⟩
theorem Da.un{t':Nat}(I:Da X Za σ H s)(u:Un X.fs [] H H' s.heap h')(hok:Pe X.prog X.w H' h'):Da X Za σ H' { s with heap:=h',toks:=t' }:=by
 obtain⟨m,⟨o,es,ep,ho,r⟩,_⟩:=id I.loc;obtain⟨sl,hL⟩:=u.any ho I.free (by simp);exact I.step (g':=s.gens) (d':=s.drawn) (ch:=[]) (fun _ z=>nomatch z) (fun b o _ hb _ e n=>u.keep b o e n hb (by simp)) (fun b o _ hb _ e n=>u.slot b o e n hb (by simp)) (fun b o _ e n=>u.free b o e n (by simp)) (fun b o _ e=>u.there b o e (by simp)) u.tups u.frzs u.tbls (fun m' hm=>by
  obtain⟨o',es',ep',ho',r'⟩:=hm;rw[ho] at ho';cases ho';exact⟨_,es',ep',hL,r'⟩) hok I.bare
theorem Da.call{g':Array GenState}{t':Nat}{d':Drawn}{ch:LI2}(I:Da X Za σ H s)(u:Un (Te X.stack) ch H H' s.heap h')(hok:Pe X.prog X.w H' h')(hg:AllBare g')(hch:∀b∈ch,(b∈X.ex\/X.s₀.heap.objs.size<=b)/\b≠X.env.locals/\(∀x c,X.env.cells.lookup x=some c->c≠b)/\∀p∈X.pn++Za,p.1≠b) :
  Da X Za σ H' { s with heap:=h',gens:=g',drawn:=d',toks:=t' }:=by
 obtain⟨m,⟨o,es,ep,ho,r⟩,_⟩:=id I.loc;obtain⟨sl,hL⟩:=u.any ho I.free fun z=>(hch _ z).2.1 rfl;exact I.step (ch:=ch) hch (fun b o hL hb hc e n=>u.keep b o e n (fun z=>(Lc.mp (I.stkSub b z)).elim hL hb) hc) (fun b o _ _ hc e n=>u.any e n hc) (fun b o hc e n=>u.free b o e n hc) (fun b o hc e=>u.there b o e hc) u.tups u.frzs u.tbls (fun m' hm=>by
  obtain⟨o',es',ep',ho',r'⟩:=hm;rw[ho] at ho';cases ho';exact⟨_,es',ep',hL,r'⟩) hok hg
theorem Da.turned{t':Nat}{it:Ja}(I:Da X Za σ H s)(k:∀b o,b≠it->s.heap.get? b=some o->h'.get? b=some o)(hn:H it=none)(hL:it≠X.env.locals)(h1:it∈X.ex\/X.s₀.heap.objs.size<=it)(h2:∀x c,X.env.cells.lookup x=some c->c≠it)(h3:∀p∈X.pn++Za,p.1≠it):Da X Za σ H { s with heap:=h',toks:=t' }:=by
 have nit:∀b u,H b=some u->b≠it:=fun b u e z=>by rw[z,hn] at e;cases e
 refine I.step (g':=s.gens) (d':=s.drawn) (ch:=[it]) (fun b hb=>?_) (fun b o _ _ hc e _=>k b o (fun z=>hc (by simp[z])) e) (fun b o _ _ hc e _=>⟨o.slots,k b o (fun z=>hc (by simp[z])) e⟩) (fun _ _ _ _ n=>n)
  (fun b o hc e=>⟨o,k b o (fun z=>hc (by simp[z])) e⟩) (fun _ _ e=>e) (fun _ _ _ e=>e) (fun b ps u e=>e) (fun m hm=>?_) (fun b u e=>?_) I.bare
 ·have e:b=it:=by simpa using hb
  subst e;exact⟨h1,hL,h2,h3⟩
 ·obtain⟨o,es,ep,ho,r⟩:=hm
  exact⟨o,es,ep,k _ o (Ne.symm hL) ho,r⟩
 ·refine(I.hok b u e).stay (fun c v hc q=>k c v ?_ q) (fun _ q=>q) fun _ _ q=>q
  rcases hc with z|z
  ·rw[z];exact nit b u e
  ·exact nit c _ z
theorem Da.tok(I:Da X Za σ H s)(t:Nat):Da X Za σ H { s with toks:=t }:=I.un (h':=s.heap) (t':=t) Un.refl I.hok
theorem Da.kept(I:Da X Za σ H s)(k:∀b u,s.heap.get? b=some u->h'.get? b=some u): Da X Za σ H { s with heap:=h',toks:=t' }:=I.un (Un.kept k) (I.hok.kept k)
theorem Da.laid(I:Da X Za σ H s)(k:∀b u,s.heap.get? b=some u->h'.get? b=some u)(hp:s.heap.objs.size<=a)(new:Df X.prog X.w (upd H a o) h' a o):
  Da X Za σ (upd H a o) { s with heap:=h',toks:=t' }:=I.un (Un.laid k hp (I.hok.fresh hp)) (I.hok.laid k hp new)
theorem Da.write(I:Da X Za σ H s)(mu:X1 (H x))(he:e=x\/H e=some (.own x))(k:∀b u,b≠e->s.heap.get? b=some u->h'.get? b=some u)(heo:∃u,h'.get? e=some u)(new:Df X.prog X.w (upd H x o) h' x o): Da X Za σ (upd H x o) { s with heap:=h',toks:=t' }:=I.un (Un.write mu he k heo) (I.hok.write mu he k heo new)
theorem Da.pins_of(I:Da X Za σ H s)(h:∀p∈pins',s.heap.get? p.1=some p.2/\H p.1=none/\p.1≠X.env.locals/\p.1 ∉ X.fs/\∀v,p.2.data≠.cell v): Da X pins' σ H s:=
 ⟨I.ok,I.os,I.bare,I.base,I.loc,I.cell,I.free,I.freeC,fun p hp=>(Ud.mp hp).elim (fun z=>I.pin p (Bf _ z)) (h p),I.hok,I.len⟩
theorem OK{N:List Str}(hN:N.Nodup){i j:Nat}{x:Str}(a:N[i]?=some x)(b:N[j]?=some x):i=j:=by
 obtain⟨h1,e1⟩:=Pd.mp a;obtain⟨h2,e2⟩:=Pd.mp b;exact(List.getElem_inj hN).mp (e1.trans e2.symm)
theorem ZaE{M:Model}{A:Qe}{E:Va->Ha->Prop}{i:Nat}{x:Str}{v:V}{u:Va}{Q:Unit->Ha->Prop}(I:Da X Za σ H s)(hN:X.N.Nodup)(hi:X.N[i]?=some x)(hx:Du X.env.scope x)(r:Nb v u)(h:∀s',Da X Za (σ.set i (some v)) H s'->(∃a,Heap.SameBut a s.heap s'.heap/\(a=X.env.locals\/X.env.cells.lookup x=some a))->Q () s')(hf:X.fn x=true\/X.env.scope.names.lookup x=some .local):Sa M A (storeName X.env x u) Q E s:=by
 obtain⟨m,hn,hl⟩:=id I.loc;have hcls:(X.env.scope.kind==.class || (X.env.scope.kind==.module&&X.env.locals != X.env.globals))=false:=by rw[I.ok.kind];rfl
 have hiσ:i<σ.length:=by rw[I.len];exact(Pd.mp hi).1
 have cne:=I.cne;have tracked:∀{a:Ja}{h':Heap},(∃o,s.heap.get? a=some o/\H a=none)->Heap.SameBut a s.heap h'->Pe X.prog X.w H h':=fun {a h'} ha hs b ob e=>by
  obtain⟨_,_,hfree⟩:=ha;refine(I.hok b ob e).stay (fun c w' hc q=>(hs.2 c ?_).trans q) (fun _ q=>q) fun _ _ q=>q;rintro rfl;rcases hc with rfl|hc
  ·rw[hfree] at e;cases e
  ·rw[hfree] at hc;cases hc
 rcases hx with hk|hk
 ·refine wpAny_storeName_local hk hn (fun h' hn' hs=>?_) hcls
  obtain⟨oL,_,_,hoL,_⟩:=id hn;refine h _ ⟨I.ok,I.os,I.bare,⟨fun b o e n hb hx=>?_,fun b o e n hb hx=>?_,I.base.free,fun b o e hx=>?_,I.base.tups,I.base.frzs,I.base.tbls⟩,⟨_,hn',fun j y v' e1 e2 e3=>?_⟩,fun y c e=>?_,I.free,I.freeC,fun p hp=>?_,tracked ⟨oL,hoL,I.free⟩ hs,by simpa using I.len⟩ ⟨_,hs,.inl rfl⟩
  ·exact(hs.2 b (Vf (Ng (Heap.lt_size e) I.ok.above))).trans (I.base.keep b o e n hb hx)
  ·obtain⟨sl,e1⟩:=I.base.slot b o e n hb hx
   exact⟨sl,(hs.2 b (Vf (Ng (Heap.lt_size e) I.ok.above))).trans e1⟩
  ·obtain⟨o',e1⟩:=I.base.there b o e hx
   exact⟨o',(hs.2 b (Vf (Ng (Heap.lt_size e) I.ok.above))).trans e1⟩
  ·by_cases hj:j=i
   ·subst hj
    rw[hi] at e1;cases e1;rw[Fj hiσ] at e2;cases e2;exact⟨u,r,.inl ⟨hk,by simp⟩⟩
   ·rw[Il (Ne.symm hj)] at e2
    obtain⟨u',r',q⟩:=hl j y v' e1 e2 e3;refine⟨u',r', ?_⟩;rcases q with ⟨k,e⟩|⟨k,c,e,z⟩
    ·refine .inl ⟨k, ?_⟩
     have:y≠x:=fun e=>hj (OK hN e1 (e▸hi));simp[this,e]
    ·exact .inr ⟨k,c,e,z.sameBut hs (cne y c e)⟩
  ·obtain⟨w',z⟩:=I.cell y c e
   exact⟨w',z.sameBut hs (cne y c e)⟩
  ·obtain⟨e,n,ne,nf,d⟩:=I.pin p hp
   exact⟨(hs.2 p.1 ne).trans e,n,ne,nf,d⟩
 ·have hfn:X.fn x=true:=by
   rcases hf with z|z
   ·exact z
   ·rw[z] at hk;cases hk
  obtain⟨c,hc⟩:=I.ok.has x (.inl hk);obtain⟨w',z⟩:=I.cell x c hc;refine wpAny_storeName_cell I.ok.kind hk hc z (fun h' hc' hs=>?_);obtain⟨oc,hoc,hocd⟩:=id z;refine h { s with heap:=h' } ⟨I.ok,I.os,I.bare,⟨fun b o e n hb hx=>?_,fun b o e n hb hx=>?_,I.base.free,fun b o e hx=>?_,I.base.tups,I.base.frzs,I.base.tbls⟩,⟨m,hn.sameBut hs (Ne.symm (cne x c hc)),fun j y v' e1 e2 e3=>?_⟩,fun y c' e=>?_,I.free,I.freeC,fun p hp=>?_,tracked ⟨oc,hoc,I.freeC x c hc⟩ hs,by simpa using I.len⟩ ⟨c,hs,.inr hc⟩
  ·exact(hs.2 b (Vf (Ng (Heap.lt_size e) (I.ok.cab x c hfn hc)))).trans (I.base.keep b o e n hb hx)
  ·obtain⟨sl,e1⟩:=I.base.slot b o e n hb hx
   exact⟨sl,(hs.2 b (Vf (Ng (Heap.lt_size e) (I.ok.cab x c hfn hc)))).trans e1⟩
  ·obtain⟨o',e1⟩:=I.base.there b o e hx
   exact⟨o',(hs.2 b (Vf (Ng (Heap.lt_size e) (I.ok.cab x c hfn hc)))).trans e1⟩
  ·by_cases hj:j=i
   ·subst hj
    rw[hi] at e1;cases e1;rw[Fj hiσ] at e2;cases e2;exact⟨u,r,.inr ⟨.inl hk,c,hc,hc'⟩⟩
   ·rw[Il (Ne.symm hj)] at e2
    obtain⟨u',r',q⟩:=hl j y v' e1 e2 e3;refine⟨u',r', ?_⟩;rcases q with q|⟨k,c',e,z'⟩
    ·exact .inl q
    ·refine .inr ⟨k,c',e,z'.sameBut hs ?_⟩
     rintro rfl;exact hj (OK hN e1 (I.ok.inj _ _ _ e hc▸hi))
  ·by_cases hcc:c'=c
   ·subst hcc;exact⟨_,hc'⟩
   ·obtain⟨w2,z2⟩:=I.cell y c' e
    exact⟨w2,z2.sameBut hs hcc⟩
  ·obtain⟨e,n,ne,nf,d⟩:=I.pin p hp
   refine⟨(hs.2 p.1 ?_).trans e,n,ne,nf,d⟩;intro q;rw[q,hoc] at e;have q':oc=p.2:=Option.some.inj e;exact d w' (by rw[<- q'];exact hocd)
theorem C5(I:Da X Za σ H s)(hN:X.N.Nodup)(hi:X.N[i]?=some x)(hx:Du X.env.scope x)(r:Nb v u)(h:∀s',Da X Za (σ.set i (some v)) H s'->Q () s')(hf:X.fn x=true\/X.env.scope.names.lookup x=some .local): Sa M A (storeName X.env x u) Q E s:=
 ZaE I hN hi hx r (fun s' I' _=>h s' I') hf
theorem Da.call'(I:Da X Za σ H s)(ho:s'.os=s.os)(u:Un (Te X.stack) ch H H' s.heap s'.heap)(hok:Pe X.prog X.w H' s'.heap)(hg:AllBare s'.gens)(hch:∀b∈ch,(b∈X.ex\/X.s₀.heap.objs.size<=b)/\b≠X.env.locals/\(∀x c,X.env.cells.lookup x=some c->c≠b)/\∀p∈X.pn++Za,p.1≠b): Da X Za σ H' s':=by
 obtain⟨h',g',d',t',o'⟩:=s';have e:o'=s.os:=ho;subst e;exact I.call (g':=g') (t':=t') (d':=d') u hok hg hch
end
abbrev XK:=Va->Option Ja->Hp->Prop
abbrev St:=List (Option V)
abbrev VK:=V->Hp->Prop
abbrev TE:=St->Hp->VK->Prop
abbrev TT:=St->Hp->(Bool->Hp->Prop)->Prop
abbrev TA:=St->Hp->(List V->Hp->Prop)->Prop
structure Xm where
 nx:St->Hp->Prop
 rt:VK
 bk:St->Hp->Prop:=fun _ _=>False
 ct:St->Hp->Prop:=fun _ _=>False
abbrev TS:=Xm->St->Hp->Prop
def EP(X:Cx)(Za:List (Ja×Obj))(σ:St)(Q:VK)(u:Va)(s':Ha):Prop:=∃v H',Da X Za σ H' s'/\Nb v u/\Q v H'
def TP(X:Cx)(Za:List (Ja×Obj))(σ:St)(Q:Bool->Hp->Prop)(b:Bool)(s':Ha):Prop:=∃H',Da X Za σ H' s'/\Q b H'
def AP(X:Cx)(Za:List (Ja×Obj))(σ:St)(Q:List V->Hp->Prop)(us:LI3)(s':Ha):Prop:=∃vs H',Da X Za σ H' s'/\Ub vs us/\Q vs H'
def SP(X:Cx)(Za:List (Ja×Obj))(D:Xm)(f:Flow)(s':Ha):Prop:=
 match f with
 |.next=>∃σ' H',Da X Za σ' H' s'/\D.nx σ' H'
 |.brk=>∃σ' H',Da X Za σ' H' s'/\D.bk σ' H'
 |.cont=>∃σ' H',Da X Za σ' H' s'/\D.ct σ' H'
 |.ret u=>∃v σ' H',Da X Za σ' H' s'/\Nb v u/\D.rt v H'
def PE(X:Cx)(e:Expr)(t:TE):Prop:=
 ∀(Za:List (Ja×Obj)) (s:Ha) (σ:St) (H:Hp) (Q:VK),Da X Za σ H s->t σ H Q->Sa (La X.prog X.w) X.A (eval e X.env) (EP X Za σ Q) X.xe s
def PT(X:Cx)(e:Expr)(t:TT):Prop:=
 ∀(Za:List (Ja×Obj)) (s:Ha) (σ:St) (H:Hp) (Q:Bool->Hp->Prop),Da X Za σ H s->t σ H Q->Sa (La X.prog X.w) X.A (isTrue e X.env (eval e X.env)) (TP X Za σ Q) X.xe s
def PW(X:Cx)(e:Expr)(t:TT):Prop:=
 ∀(whole:Sem Va) (Za:List (Ja×Obj)) (s:Ha) (σ:St) (H:Hp) (Q:Bool->Hp->Prop),Da X Za σ H s->t σ H Q->Sa (La X.prog X.w) X.A (isTrue e X.env whole) (TP X Za σ Q) X.xe s
theorem PW.pt(h:PW X e t): PT X e t:=h _
def PA(X:Cx)(es:List Expr)(t:TA):Prop:=
 ∀(pos:Pos) (Za:List (Ja×Obj)) (s:Ha) (σ:St) (H:Hp) (Q:List V->Hp->Prop),Da X Za σ H s->t σ H Q->Sa (La X.prog X.w) X.A (spliced (Ti pos (Ed es X.env))) (AP X Za σ Q) X.xe s
def PS(X:Cx)(st:Fb)(t:TS):Prop:=
 ∀(Za:List (Ja×Obj)) (s:Ha) (σ:St) (H:Hp) (D:Xm),Da X Za σ H s->t D σ H->Sa (La X.prog X.w) X.A (exec st X.env) (SP X Za D) X.xe s
def Yg(X:Cx)(st:List Fb)(t:TS):Prop:=
 ∀(Za:List (Ja×Obj)) (s:Ha) (σ:St) (H:Hp) (D:Xm),Da X Za σ H s->t D σ H->Sa (La X.prog X.w) X.A (execs st X.env) (SP X Za D) X.xe s
theorem Db(h:Sa M A t Q E s)(hQ:∀a s,Q a s->Q' a s): Sa M A t Q' E s:=Cf h hQ fun _ _ x=>x
section
variable {X:Cx}
def Wg(i:Nat):TE:=fun σ H Q=>∃v,σ[i]?=some (some v)/\Q v H
def tC(v:V):TE:=fun _ H Q=>Q v H
theorem ZkB(hN:X.N[i]?=some x)(hv:U2 X.env.scope x)(hd:(x==("__debug__":Str))=false:=by decide)(hcd:(x==("__classdict__":Str))=false:=by decide): PE X (.Name x pos) (Wg i):=by
 intro Za s σ H Q I h;obtain⟨v,e,h⟩:=h;obtain⟨m,hn,hl⟩:=I.loc;obtain⟨u,r,l⟩:=hl i x v hN e hv;have fin:EP X Za σ Q u s:=⟨v,H,I,r,h⟩
 rcases l with ⟨hk,hm⟩|⟨hk,c,hc,hcell⟩
 ·exact wpAny_Name (wpAny_loadName_local I.ok.kind hk hn hm fin) hd
 ·rcases hk with hk|hk
  ·exact wpAny_Name (wpAny_loadName_cell I.ok.kind hk hc hcell fin) hd
  ·exact wpAny_Name (wpAny_loadName_free I.ok.kind hk hc hcell fin hcd) hd
theorem Ea{i j pos}:PE X (.Constant (.int i) j pos) (tC (.int i)):=fun _ _ _ H _ I h=>wpAny_Constant_int ⟨.int i,H,I.tok _,⟨_,rfl⟩,h⟩
theorem Fv{b j pos}:PE X (.Constant (.bool b) j pos) (tC (.bl b)):=fun _ _ _ H _ I h=>Constant_bool ⟨.bl b,H,I,rfl,h⟩
theorem E4{j pos}:PE X (.Constant .none j pos) (tC .non):=fun _ _ _ H _ I h=>Constant_none ⟨.non,H,I,rfl,h⟩
theorem Jg{x j pos}:PE X (.Constant (.str x) j pos) (tC (.str x)):=fun _ _ _ H _ I h=>Calls.Constant_str ⟨.str x,H,I.tok _,⟨_,rfl⟩,h⟩
def Gl(X:Cx)(x:Str):Prop:=X.env.kindOf x=some .globalImplicit
theorem Rx(I:Da X Za σ H s)(hg:Gl X x)(hm:X.mg x=some u)(h:Q u s)(hd:(x==("__debug__":Str))=false:=by decide): Sa (La X.prog X.w) X.A (eval (.Name x pos) X.env) Q E s:=
 Calls.Name_function_global I.ok.kind hg (Calls.loadGlobal_global (by rw[I.ok.glob];exact I.mod.glob.keeps I.bk) hm h) hd
theorem Yu(I:Da X Za σ H s)(hg:Gl X x)(hm:X.mg x=none)(hv:Fh x=some u)(h:Q u s)(hn:x ≠ "__name__":=by decide)(hd:(x==("__debug__":Str))=false:=by decide): Sa (La X.prog X.w) X.A (eval (.Name x pos) X.env) Q E s:=by
 obtain⟨mb,h1,h2⟩:=I.mod.blt;exact Calls.Name_function_global I.ok.kind hg (Calls.loadGlobal_builtin (by rw[I.ok.glob];exact I.mod.glob.keeps I.bk) hm (by rw[I.ok.blt];exact h1.keeps I.bk) ((h2 x hn).trans hv) h) hd
theorem Hk(hg:Gl X x)(hm:X.mg x=some u)(r:Nb v u)(hd:(x==("__debug__":Str))=false:=by decide): PE X (.Name x pos) (tC v):=
 fun _ _ _ H _ I h=>Rx I hg hm ⟨v,H,I,r,h⟩ hd
theorem D4(hg:Gl X x)(hm:X.mg x=none)(hv:Fh x=some u)(r:Nb v u)(hn:x ≠ "__name__":=by decide)(hd:(x==("__debug__":Str))=false:=by decide): PE X (.Name x pos) (tC v):=
 fun _ _ _ H _ I h=>Yu I hg hm hv ⟨v,H,I,r,h⟩ hn hd
variable {a b:Expr}{ta tb:TE}{pos:Pos}
def PC(X:Cx)(op:CmpOp)(a b:Expr)(t:TE):Prop:=
 ∀(Za:List (Ja×Obj)) (s:Ha) (σ:St) (H:Hp) (Q:VK),Da X Za σ H s->t σ H Q ->
  Sa (La X.prog X.w) X.A (eval a X.env) (fun v s₁=>Sa (La X.prog X.w) X.A (eval b X.env) (fun u s₂=>Sa (La X.prog X.w) X.A (Xl op v u) (EP X Za σ Q) X.xe s₂) X.xe s₁) X.xe s
def tB(t:TE):TT:=fun σ H Q=>t σ H fun x H1=>∃c,x=.bl c/\Q c H1
theorem ZkR(h:PC X op a b t)(h1:E6 op b=false:=by rfl): PT X (.Compare a [op] [b] pos) (tB t):=by
 intro Za s σ H Q I hw;refine wpAny_isTrue_Compare1 (Db (h Za s σ H _ I hw) fun v s1 h1=>Db h1 fun u s2 h2=>Db h2 fun c s3 ⟨x,H1,I1,r1,q1⟩=>?_) h1;obtain⟨d,rfl,q⟩:=q1;cases r1;exact Zu ⟨H1,I1,q⟩
theorem Wq(h:PE X e t)(he:∀whole,isTrue e X.env whole=(do let v <- whole;standAt e.pos;holding [v] (truthy v)):=by exact fun _=>rfl): PT X e (tB t):=by
 intro Za s σ H Q I hw;refine isTrue_plain (Db (h Za s σ H _ I hw) fun v s1 ⟨x,H1,I1,r1,q1⟩=>?_) (he _);obtain⟨d,rfl,q⟩:=q1;cases r1;exact Zu ⟨H1,I1,q⟩
variable {tA tB':TT}{Gp:List Expr}
def ZaI(t u:TT):TT:=fun σ H Q=>t σ H fun c H1=>if c=true then u σ H1 Q else Q false H1
def tOr(t u:TT):TT:=fun σ H Q=>t σ H fun c H1=>if c=true then Q true H1 else u σ H1 Q
def Zba(t:TT):TT:=fun σ H Q=>t σ H fun c H1=>Q (!c) H1
theorem ZkV(ha:PT X a tA):PW X (.BoolOp .And [a] pos) tA:=by
 intro wh Za s σ H Q I h;refine isTrue_and (Db (ha Za s σ H Q I h) fun c s1 e=>?_);cases c with
 |true=>exact isTrue_and_nil e
 |false=>exact e
theorem AB(ha:PT X a tA):PW X (.BoolOp .Or [a] pos) tA:=by
 intro wh Za s σ H Q I h;refine isTrue_or (Db (ha Za s σ H Q I h) fun c s1 e=>?_);cases c with
 |false=>exact isTrue_or_nil e
 |true=>exact e
theorem ZkU(ha:PT X a tA)(hb:PW X (.BoolOp .And (b::Gp) pos) tB'):PW X (.BoolOp .And (a::b::Gp) pos) (ZaI tA tB'):=by
 intro wh Za s σ H Q I h;refine isTrue_and (Db (ha Za s σ H _ I h) fun c s1 ⟨H1,I1,q1⟩=>?_);cases c with
 |true=>exact hb wh Za s1 σ H1 Q I1 q1
 |false=>exact⟨H1,I1,q1⟩
theorem QB(ha:PT X a tA)(hb:PW X (.BoolOp .Or (b::Gp) pos) tB'):PW X (.BoolOp .Or (a::b::Gp) pos) (tOr tA tB'):=by
 intro wh Za s σ H Q I h;refine isTrue_or (Db (ha Za s σ H _ I h) fun c s1 ⟨H1,I1,q1⟩=>?_);cases c with
 |true=>exact⟨H1,I1,q1⟩
 |false=>exact hb wh Za s1 σ H1 Q I1 q1
theorem Dz(ha:PT X a tA):PT X (.UnaryOp .Not a pos) (Zba tA):=by
 intro Za s σ H Q I h;exact isTrue_not (ha Za s σ H (fun c H1=>Q (!c) H1) I h)
def ZaJ(ta tb:TE):TE:=fun σ H Q=>ta σ H fun x H1=>∃c,x=.bl c/\if c=true then tb σ H1 Q else Q (.bl false) H1
def Zbb(ta:TE):TE:=fun σ H Q=>ta σ H fun x H1=>∃c,x=.bl c/\Q (.bl (!c)) H1
theorem JB{op}(h:PE X a t): PE X (.BoolOp op [a] pos) t:=fun Za s σ H Q I hw=>BoolOp_one (h Za s σ H Q I hw)
theorem ZB(ha:PE X a ta)(hb:PE X (.BoolOp .And (b::Gp) pos) tb):PE X (.BoolOp .And (a::b::Gp) pos) (ZaJ ta tb):=by
 intro Za s σ H Q I h;refine BoolOp_and (Db (ha Za s σ H _ I h) fun v s1 ⟨x,H1,I1,r1,q1⟩=>?_);obtain⟨c,rfl,q1⟩:=q1;cases r1;refine Zu ?_;cases c with
 |true=>exact hb Za s1 σ H1 Q I1 q1
 |false=>exact⟨.bl false,H1,I1,rfl,q1⟩
theorem Zk9(ha:PE X a ta):PE X (.UnaryOp .Not a pos) (Zbb ta):=by
 intro Za s σ H Q I h;refine UnaryOp_ (Db (ha Za s σ H _ I h) fun v s1 ⟨x,H1,I1,r1,q1⟩=>?_);obtain⟨c,rfl,q1⟩:=q1;cases r1;exact not_of (Zu ⟨.bl (!c),H1,I1,rfl,q1⟩)
end
def Uc(K:ZmM)(H:Hp)(a:Ja)(xs:List V):Prop:=
 Rd H a (.lst xs) \/
  ∃(o:Obj) (its:Array Va) (n:Nat),K.lookup a=some o/\o.cls=.type "list"/\o.dict=none/\o.data=.seq its n/\its.size<=Rb/\Ub xs its.toList
def Re(K:ZmM)(H:Hp)(a:Ja)(xs:List V):Prop:=
 Rd H a (.tup xs) \/
  ∃(o:Obj) (its:Array Va) (n:Nat),K.lookup a=some o/\o.cls=.type "tuple"/\o.data=.seq its n/\its.size<=Rb/\Ub xs its.toList
noncomputable def ZcG:Va->Option V
 |.none=>some .non
 |.bool b=>some (.bl b)
 |.int i _=>some (.int i)
 |.str x _=>some (.str x)
 |.bytes b _=>some (.byt b)
 |.float b _=>some (.flt b)
 |.ref a=>some (.ref a)
 |.type n=>some (.ty n)
 |_=>none
theorem Nb.abs(r:Nb x u): ZcG u=some x:=by
 cases x with
 |non=>cases r;rfl
 |bl _=>cases r;rfl
 |int _=>obtain⟨t,rfl⟩:=r;rfl
 |str _=>obtain⟨t,rfl⟩:=r;rfl
 |byt _=>obtain⟨t,rfl⟩:=r;rfl
 |flt _=>obtain⟨t,rfl⟩:=r;rfl
 |ref _=>cases r;rfl
 |ty _=>cases r;rfl
theorem Nb.inj(r:Nb x u)(q:Nb y u): x=y:=Option.some.inj (r.abs.symm.trans q.abs)
theorem Ub.inj:∀{xs ys:List V}{us:LI3},Ub xs us->Ub ys us->xs=ys
 |_,_,_,.nil,.nil=>rfl
 |_,_,_,.cons r t,.cons r' t'=>by rw[r.inj r',Ub.inj t t']
section
variable {X:Cx}{Za:List (Ja×Obj)}{σ:St}{H:Hp}{s:Ha}{a:Ja}{xs ys:List V}
theorem Uc.of{K:ZmM}(h:H a=some (.lst xs)):Uc K H a xs:=.inl (.inl h)
theorem Re.of{K:ZmM}(h:H a=some (.tup xs)):Re K H a xs:=.inl (.inl h)
theorem Da.list(I:Da X Za σ H s)(h:Uc X.K H a xs):∃its:LI3,Ub xs its/\PlainL s.heap a its.toArray/\xs.length<=Rb:=by
 rcases h with h|⟨o,its,n,hk,hc,hd,hs,hz,r⟩
 ·obtain⟨z,its,n,r,e⟩:=h.ok I.hok
  exact⟨its,r,⟨_,n,e,rfl,rfl,rfl⟩,z⟩
 ·refine⟨its.toList,r,⟨o,n,I.kIn a o hk,hc,hd,by simpa using hs⟩, ?_⟩
  have e:=r.length;simp only[Gf] at e;lia
theorem Da.tuple(I:Da X Za σ H s)(h:Re X.K H a xs):∃its:LI3,Ub xs its/\IsTup s.heap a its.toArray/\xs.length<=Rb:=by
 rcases h with h|⟨o,its,n,hk,hc,hs,hz,r⟩
 ·obtain⟨z,its,r,p⟩:=h.ok I.hok
  exact⟨its,r,p,z⟩
 ·refine⟨its.toList,r,⟨o,I.kIn a o hk,hc,n,by simpa using hs⟩, ?_⟩
  have e:=r.length;simp only[Gf] at e;lia
theorem Da.list_inj(I:Da X Za σ H s)(h:Uc X.K H a xs)(h':Uc X.K H a ys):xs=ys:=by
 obtain⟨its,r,⟨o,n,e,_,_,d⟩,_⟩:=I.list h;obtain⟨its',r',⟨o',n',e',_,_,d'⟩,_⟩:=I.list h';rw[e] at e';cases e';rw[d] at d';injection d' with d1 _;have:its=its':=by simpa using Wf Array.toList d1
 subst this;exact r.inj r'
theorem Da.tuple_inj(I:Da X Za σ H s)(h:Re X.K H a xs)(h':Re X.K H a ys):xs=ys:=by
 obtain⟨its,r,⟨o,e,_,n,d⟩,_⟩:=I.tuple h;obtain⟨its',r',⟨o',e',_,n',d'⟩,_⟩:=I.tuple h';rw[e] at e';cases e';rw[d] at d';injection d' with d1 _;have:its=its':=by simpa using Wf Array.toList d1
 subst this;exact r.inj r'
end
abbrev Cx.wish(X:Cx)(E:Va->Ha->Prop):Cx:={ X with xe:=E }
abbrev Cx.nox(X:Cx):Cx:=X.wish fun _ _=>False
theorem Cx.Ok.wish{X:Cx}(ok:X.Ok)(E:Va->Ha->Prop):(X.wish E).Ok:=
 ⟨ok.mod,ok.kind,ok.glob,ok.blt,ok.above,ok.inj,ok.has,ok.cab,ok.hd,ok.frames,ok.stk,ok.exf,ok.bs,ok.bsz,ok.noex,ok.exfs,ok.funs,ok.frf,ok.tab⟩
theorem Cx.Ok.unwish{X: Cx}(ok:(X.wish E).Ok): X.Ok:=
 ⟨ok.mod,ok.kind,ok.glob,ok.blt,ok.above,ok.inj,ok.has,ok.cab,ok.hd,ok.frames,ok.stk,ok.exf,ok.bs,ok.bsz,ok.noex,ok.exfs,ok.funs,ok.frf,ok.tab⟩
section
variable {X:Cx}{Za:List (Ja×Obj)}{σ:St}{H:Hp}{s:Ha}{E:Va->Ha->Prop}
theorem Da.wish(I:Da X Za σ H s)(E:Va->Ha->Prop):Da (X.wish E) Za σ H s:=⟨I.ok.wish E,I.os,I.bare,I.base,I.loc,I.cell,I.free,I.freeC,I.pin,I.hok,I.len⟩
theorem Da.unwish(I:Da (X.wish E) Za σ H s):Da X Za σ H s:=⟨I.ok.unwish,I.os,I.bare,I.base,I.loc,I.cell,I.free,I.freeC,I.pin,I.hok,I.len⟩
theorem SP.unwish(h:SP (X.wish E) Za D f s'): SP X Za D f s':=by
 cases f with
 |next=>obtain⟨σ',H',I,q⟩:=h;exact⟨σ',H',I.unwish,q⟩
 |brk=>obtain⟨σ',H',I,q⟩:=h;exact⟨σ',H',I.unwish,q⟩
 |cont=>obtain⟨σ',H',I,q⟩:=h;exact⟨σ',H',I.unwish,q⟩
 |ret u=>obtain⟨v,σ',H',I,r,q⟩:=h;exact⟨v,σ',H',I.unwish,r,q⟩
theorem Yg.nox{st:List Fb}{t:TS}(h:Yg X.nox st t):Yg X st t:=fun Za s σ H D I hw =>
 Cf (h Za s σ H D (I.wish _) hw) (fun _ _ q=>q.unwish) fun _ _ z=>False.elim z
end
section
variable {X:Cx}{st:Fb}{Gp:List Fb}{t u:TS}{e:Expr}{te:TE}{pos:Pos}
def ZaY:TS:=fun D σ H=>D.nx σ H
def Zbf(t u:TS):TS:=fun D σ H=>t { D with nx:=u D } σ H
theorem Jd:Yg X [] ZaY:=fun _ _ σ H _ I h=>K6 ⟨σ,H,I,h⟩
theorem Wa(h1:PS X st t)(h2:Yg X Gp u):Yg X (st::Gp) (Zbf t u):=by
 intro Za s σ H D I h;refine wpAny_execs_cons (Db (h1 Za s σ H { D with nx:=u D } I h) fun f s1 q=>?_);cases f with
 |next =>
  obtain⟨σ',H',I',q⟩:=q;exact h2 Za s1 σ' H' D I' q
 |ret v=>exact q
 |brk=>exact q
 |cont=>exact q
theorem Jb(h1:PS X st t):Yg X [st] t:=by
 intro Za s σ H D I h;refine wpAny_execs_cons (Db (h1 Za s σ H D I h) fun f s1 q=>?_);cases f with
 |next=>exact K6 q
 |ret v=>exact q
 |brk=>exact q
 |cont=>exact q
theorem Da.quiet(I:Da X Za σ H s): interactive X.env=false:=by simp[interactive,I.ok.kind]
def HD(te:TE):TS:=fun D σ H=>te σ H fun _ H1=>D.nx σ H1
theorem Ai(he:PE X e te)(hs:swapsWith e none pos.line X.env=pure false:=by rfl):PS X (.Expr e pos) (HD te):=by
 intro Za s σ H D I h;exact wpAny_Expr_any (Db (he Za s σ H _ I h) fun v s1 ⟨x,H1,I1,r1,q1⟩=>⟨σ,H1,I1,q1⟩) I.quiet hs
def L5(te:TE):TS:=fun D σ H=>te σ H D.rt
theorem Kb(he:PE X e te):PS X (.Return (some e) pos) (L5 te):=by
 intro Za s σ H D I h;exact wpAny_Return_some (Db (he Za s σ H _ I h) fun v s1 ⟨x,H1,I1,r1,q1⟩=>⟨x,σ,H1,I1,r1,q1⟩)
def ZaW(c:TT)(t u:TS):TS:=fun D σ H=>c σ H fun b H1=>if b=true then t D σ H1 else u D σ H1
theorem Zd(hc:PT X c tc)(ha:Yg X a t)(hb:Yg X b u): PS X (.If c a b pos) (ZaW tc t u):=by
 intro Za s σ H D I h;refine wpAny_If (Db (hc Za s σ H _ I h) fun d s1 ⟨H1,I1,q1⟩=>?_);cases d with
 |true=>exact ha Za s1 σ H1 D I1 q1
 |false=>exact hb Za s1 σ H1 D I1 q1
end
abbrev TG:=V->St->Hp->(St->Hp->Prop)->Prop
abbrev V2:=List V->St->Hp->(St->Hp->Prop)->Prop
def PG(X:Cx)(target:Expr)(t:TG):Prop:=
 ∀(Za:List (Ja×Obj)) (s:Ha) (σ:St) (H:Hp) (v:V) (u:Va) (Q:St->Hp->Prop),Da X Za σ H s->Nb v u->t v σ H Q ->
  Sa (La X.prog X.w) X.A (assign target X.env u) (fun _ s'=>∃σ' H',Da X Za σ' H' s'/\Q σ' H') X.xe s
def X6(X:Cx)(ts:List Expr)(t:V2):Prop:=
 ∀(Za:List (Ja×Obj)) (s:Ha) (σ:St) (H:Hp) (vs:List V) (us:LI3) (Q:St->Hp->Prop),Da X Za σ H s->Ub vs us->t vs σ H Q ->
  Sa (La X.prog X.w) X.A (assignInOrder ((U0 ts X.env).map (·.2)) us) (fun _ s'=>∃σ' H',Da X Za σ' H' s'/\Q σ' H') X.xe s
abbrev LG:=V->V->V->Hp->(Hp->Prop)->Prop
def GG(X:Cx)(t:LG):Prop:=
 ∀(Za:List (Ja×Obj)) (s:Ha) (σ:St) (H:Hp) (o i v:V) (ov iv u:Va) (Q:Hp->Prop),Da X Za σ H s->Nb o ov->Nb i iv->Nb v u->t o i v H Q ->
  Sa (La X.prog X.w) X.A (setItem ov iv u) (fun _ s'=>∃H',Da X Za σ H' s'/\Q H') X.xe s
abbrev J7:=V->V->Hp->VK->Prop
def EG(X:Cx)(op:Operator)(t:J7):Prop:=
 ∀(Za:List (Ja×Obj)) (s:Ha) (σ:St) (H:Hp) (x y:V) (v u:Va) (Q:VK),Da X Za σ H s->Nb x v->Nb y u->t x y H Q ->
  Sa (La X.prog X.w) X.A (inplaceOp op v u) (EP X Za σ Q) X.xe s
section
variable {X:Cx}{pos:Pos}
def Aj(i:Nat):TG:=fun v σ H Q=>Q (σ.set i (some v)) H
theorem OL(hN:X.N.Nodup)(hi:X.N[i]?=some x)(hx:Du X.env.scope x)(hf:X.fn x=true\/X.env.scope.names.lookup x=some .local:=by first|exact .inl rfl|exact .inr rfl|assumption): PG X (.Name x pos) (Aj i):=by
 intro Za s σ H v u Q I r h;exact GP (C5 I hN hi hx r (fun s' I'=>⟨_,H,I',h⟩) hf)
def IV:V2:=fun vs σ H Q=>vs=[]/\Q σ H
def UJ(t:TG)(u:V2):V2:=fun vs σ H Q=>∃v r,vs=v::r/\t v σ H fun σ' H'=>u r σ' H' Q
theorem ZkE:X6 X [] IV:=by
 intro Za s σ H vs us Q I r h;obtain⟨e,h⟩:=h;subst e;cases r;exact assignInOrder_nil ⟨σ,H,I,h⟩
theorem UZ(h1:PG X e t)(h2:X6 X es u)(hs:(U0 (e::es) X.env).map (·.2)=assign e X.env::(U0 es X.env).map (·.2):=by rfl): X6 X (e::es) (UJ t u):=by
 intro Za s σ H vs us Q I r h;obtain⟨v,vr,e1,h⟩:=h;subst e1;cases r with
 |cons r rr =>
  rw[hs];refine assignInOrder_cons (Db (h1 Za s σ H _ _ _ I r h) fun _ s1 ⟨σ1,H1,I1,q1⟩=>?_);exact h2 Za s1 σ1 H1 _ _ Q I1 rr q1
def MV(K:ZmM)(n:Nat)(t:V2):TG:=fun v σ H Q=>∃a xs,v=.ref a/\Re K H a xs/\xs.length=n/\t xs σ H Q
theorem ZkD(hc:X.calm=true)(h:X6 X es t)(hn:(U0 es X.env).length=n:=by rfl)(hst:(U0 es X.env).findIdx? (·.1)=none:=by rfl): PG X (.Tuple es k pos) (MV X.K n t):=by
 intro Za s σ H v u Q I r hw;obtain⟨a,xs,e1,hq,hl,hw⟩:=hw;subst e1;cases r;obtain⟨its,rv,ht,hz⟩:=I.tuple hq;refine assign_Tuple_tuple (I.ok.hd hc) ht (by simp[hn,<- hl,rv.length]) hst fun h' hx=>?_;have I1:Da X Za σ H { s with heap:=h' }:=I.kept (t':=s.toks) fun b o e=>hx b o (Vf (Heap.lt_size e)) e;exact h Za _ σ H xs _ Q I1 (by simpa using rv) hw
def LV(to ti:TE)(t:LG):TG:=fun v σ H Q=>to σ H fun o H1=>ti σ H1 fun i H2=>t o i v H2 fun H3=>Q σ H3
theorem G4(ho:PE X o to)(hi:PE X i ti)(hs:GG X t)(ha:∀v,assign (.Subscript o i pos) X.env v=(do
   let ov <- holding [v] (eval o X.env)
   let iv <- holding [v,ov] (eval i X.env)
   standAt pos
   holding [v,ov,iv] (setItem ov iv v)
   release [v,ov,iv] []):=by exact fun _=>rfl): PG X (.Subscript o i pos) (LV to ti t):=by
 intro Za s σ H v u Q I r h;rw[ha];refine Ka (Yl (Db (ho Za s σ H _ I h) fun ov s1 ⟨x,H1,I1,r1,q1⟩=>?_));refine Ka (Yl (Db (hi Za s1 σ H1 _ I1 q1) fun iv s2 ⟨y,H2,I2,r2,q2⟩=>?_));refine Ka (wpAny_standAt (Ka (Yl (Db (hs Za s2 σ H2 x y v ov iv u _ I2 r1 r2 r q2) fun _ s3 ⟨H3,I3,q3⟩=>?_))));exact wpAny_release ⟨σ,H3,I3,q3⟩
def Zo(te:TE)(g:TG):TS:=fun D σ H=>te σ H fun x H1=>g x σ H1 D.nx
theorem N4(he:PE X e te)(hg:PG X tg g)(hs:swapsWithSole [tg] e pos.line X.env=pure false:=by rfl)(hw:swappedStores [tg] e X.env=pure none:=by rfl)(h1:(U0 [tg] X.env).map (·.2)=[assign tg X.env]:=by rfl): PS X (.Assign [tg] e pos) (Zo te g):=by
 intro Za s σ H D I h;refine wpAny_Assign_stores (Db (he Za s σ H _ I h) fun v s1 ⟨x,H1,I1,r1,q1⟩=>?_) hs hw;rw[h1];exact Db (hg Za s1 σ H1 x v _ I1 r1 q1) fun _ s2 q=>q
theorem ZkP(hN:X.N.Nodup)(hi:X.N[i]?=some x)(hx:Du X.env.scope x)(he:PE X e te)(hs:swapsWith e (some (.Name x pos')) pos.line X.env=pure false:=by rfl)(hf:X.fn x=true\/X.env.scope.names.lookup x=some .local:=by first|exact .inl rfl|exact .inr rfl|assumption):
  PS X (.Assign [.Name x pos'] e pos) (Zo te (Aj i)):=by
 intro Za s σ H D I h;refine wpAny_Assign_Name (Db (he Za s σ H _ I h) fun v s1 ⟨y,H1,I1,r1,q1⟩=>?_) hs;exact C5 I1 hN hi hx r1 (fun s2 I2=>⟨_,H1,I2,q1⟩) hf
def ZaK(i:Nat)(te:TE)(ti:J7):TS:=fun D σ H=>∃x,σ[i]?=some (some x)/\te σ H fun y H1=>ti x y H1 fun z H2=>D.nx (σ.set i (some z)) H2
theorem CZ(hN:X.N.Nodup)(hi:X.N[i]?=some x)(hx:Du X.env.scope x)(he:PE X e te)(ho:EG X op ti)(hf:X.fn x=true\/X.env.scope.names.lookup x=some .local:=by first|exact .inl rfl|exact .inr rfl|assumption):
  PS X (.AugAssign (.Name x pos') op e pos) (ZaK i te ti):=by
 intro Za s σ H D I h;obtain⟨v,e1,h⟩:=h;obtain⟨m,hn,hl⟩:=I.loc;have vis:U2 X.env.scope x:=by rcases hx with k|k;exact .inl k;exact .inr (.inl k)
 obtain⟨u,r,l⟩:=hl i x v hi e1 vis;refine wpAny_AugAssign_Name ?_;have go:Sa (La X.prog X.w) X.A (eval e X.env) (fun w s₂=>Sa (La X.prog X.w) X.A (inplaceOp op u w) (fun r s₃=>Sa (La X.prog X.w) X.A (storeName X.env x r) (fun _=>SP X Za D .next) X.xe s₃) X.xe s₂) X.xe s:=by
  refine Db (he Za s σ H _ I h) fun w s1 ⟨y,H1,I1,r1,q1⟩=>?_;refine Db (ho Za s1 σ H1 v y u w _ I1 r r1 q1) fun z s2 ⟨zv,H2,I2,r2,q2⟩=>?_;exact C5 I2 hN hi hx r2 (fun s3 I3=>⟨_,H2,I3,q2⟩) hf
 rcases l with ⟨hk,hm⟩|⟨hk,c,hc,hcell⟩
 ·exact wpAny_loadName_local I.ok.kind hk hn hm go
 ·rcases hk with hk|hk
  ·exact wpAny_loadName_cell I.ok.kind hk hc hcell go
  ·rcases hx with k|k
   ·have:X.env.scope.names.lookup x=some .free:=hk
    rw[k] at this;cases this
   ·have:X.env.scope.names.lookup x=some .free:=hk
    rw[k] at this;cases this
def ZaL(to ti te:TE)(tget:V->V->Hp->VK->Prop)(tip:J7)(tset:LG):TS:=fun D σ H=>to σ H fun o H1=>ti σ H1 fun i H2=>tget o i H2 fun x H3=>te σ H3 fun y H4=>tip x y H4 fun z H5=>tset o i z H5 fun H6=>D.nx σ H6
def CG(X:Cx)(t:V->V->Hp->VK->Prop):Prop:=
 ∀(Za:List (Ja×Obj)) (s:Ha) (σ:St) (H:Hp) (o i:V) (ov iv:Va) (Q:VK),Da X Za σ H s->Nb o ov->Nb i iv->t o i H Q ->
  Sa (La X.prog X.w) X.A (getItem ov iv) (EP X Za σ Q) X.xe s
theorem UB(ho:PE X o to)(hi:PE X i ti)(hg:CG X tget)(he:PE X e te)(hp:EG X op tip)(hs:GG X tset)(ha:∀ov iv new,augStore i ov iv new=(do holding [new,ov,iv] (setItem ov iv new);release [new,ov,iv] [];pure .next):=by intros;rfl): PS X (.AugAssign (.Subscript o i tpos) op e pos) (ZaL to ti te tget tip tset):=by
 intro Za s σ H D I h;refine wpAny_AugAssign_SubscriptAny (Db (ho Za s σ H _ I h) fun ov s1 ⟨x1,H1,I1,r1,q1⟩=>?_) ha;refine Db (hi Za s1 σ H1 _ I1 q1) fun iv s2 ⟨x2,H2,I2,r2,q2⟩=>?_;refine Db (hg Za s2 σ H2 x1 x2 ov iv _ I2 r1 r2 q2) fun old s3 ⟨x3,H3,I3,r3,q3⟩=>?_;refine Db (he Za s3 σ H3 _ I3 q3) fun v s4 ⟨x4,H4,I4,r4,q4⟩=>?_;refine Db (hp Za s4 σ H4 x3 x4 old v _ I4 r3 r4 q4) fun new s5 ⟨x5,H5,I5,r5,q5⟩=>?_;exact Db (hs Za s5 σ H5 x1 x2 x5 ov iv new _ I5 r1 r2 r5 q5) fun _ s6 ⟨H6,I6,q6⟩=>⟨σ,H6,I6,q6⟩
def IJ(f:Int->Int->Int):J7:=fun x y H Q=>∃i j,x=.int i/\y=.int j/\Q (.int (f i j)) H
theorem Mx:EG X .Add (IJ fun i j=>i+j):=by
 intro Za s σ H x y v u Q I r1 r2 h;obtain⟨i,j,e1,e2,q⟩:=h;subst e1;subst e2;obtain⟨t,rfl⟩:=r1;obtain⟨t',rfl⟩:=r2;exact iadd_int ⟨.int _,H,I.tok _,⟨_,rfl⟩,q⟩
def Zbk(c:TT)(tb:TS):TS:=fun D σ H=>∃W:Nat->St->Hp->Prop,(∃m,W m σ H)/\∀m σ H,W m σ H ->
 c σ H fun b H1=>if b=true then ∃N:St->Hp->Prop,(∀σ' H',N σ' H'->∃m',m'<m/\W m' σ' H')/\tb { D with nx:=N,ct:=N,bk:=D.nx } σ H1 else D.nx σ H1
theorem YL(hp:PassesOwn (La X.prog X.w) X.A X.env X.xe)(hc:PT X c tc)(hb:Yg X body tb): PS X (.While c body [] pos) (Zbk tc tb):=by
 intro Za s σ H D I h;obtain⟨W,⟨m0,w0⟩,turn⟩:=h;refine wpAny_While (codeAny_whileLoop (fun n s'=>∃σ' H',Da X Za σ' H' s'/\W n σ' H') ?_ m0 ⟨σ,H,I,w0⟩);rintro n s1 ⟨σ1,H1,I1,w1⟩;refine Qw hp (Db (hc Za s1 σ1 H1 _ I1 (turn n σ1 H1 w1)) fun b s2 ⟨H2,I2,q2⟩=>?_);cases b with
 |true =>
  obtain⟨N,hN,q2⟩:=q2;rw[Ba rfl];refine Qw hp (Db (hb Za s2 σ1 H2 _ I2 q2) fun f s3 q3=>?_);cases f with
  |next =>
   obtain⟨σ3,H3,I3,n3⟩:=q3;obtain⟨m',hm,w3⟩:=hN σ3 H3 n3;exact⟨m',hm,σ3,H3,I3,w3⟩
  |cont =>
   obtain⟨σ3,H3,I3,n3⟩:=q3;obtain⟨m',hm,w3⟩:=hN σ3 H3 n3;exact⟨m',hm,σ3,H3,I3,w3⟩
  |brk=>exact q3
  |ret v=>exact q3
 |false =>
  rw[Aa Bool.false_ne_true];exact K6 ⟨σ1,H2,I2,q2⟩
end
structure It where
 go:Nat->Hp->Prop
 yld:Nat->Hp->V->Hp->Prop
 stop:Nat->Hp->Prop
def Zn(X:Cx)(Za:List (Ja×Obj))(H:Hp)(b:Ja):Prop:=
 H b=none/\b≠X.env.locals/\b ∉ X.fs/\(b∈X.ex\/X.s₀.heap.objs.size<=b)/\(∀x c,X.env.cells.lookup x=some c->c≠b)/\∀p∈X.pn++Za,p.1≠b
theorem Da.fpOk(I:Da X Za σ H s)(hb:s.heap.objs.size<=b)(hn:H' b=none): Zn X Za H' b:=by
 refine⟨hn,Z0 (Ng I.lt hb),I.nofs hb,.inr (Oe I.sz hb),fun x c e z=>?_,fun p hp z=>?_⟩
 ·obtain⟨v,q⟩:=I.cell x c e
  exact Gb (Ng q.lt (by rw[z];exact hb)) (Io _)
 ·exact Gb (Ng (Heap.lt_size (I.pin p hp).1) (by rw[z];exact hb)) (Io _)
structure Eu(P:Qc)(w:Xb)(K:ZmM)(tg:Expr)(J:It)(fp:LI2)(it:Ja)(tn:Nat->Heap->Prop):Prop where
 mem:it∈fp
 obj:∀i h,tn i h->∀b∈fp,∃o,h.get? b=some o/\∀v,o.data≠.cell v
 keep:∀i h h',tn i h->(∀b∈fp,∀o,h.get? b=some o->h'.get? b=some o)->tn i h'
 item:∀(X:Cx),X.prog=P->X.w=w->X.K=K->X.calm=true->∀(i:Nat) (Za:List (Ja×Obj)) (s:Ha) (σ:St) (H:Hp) (E:Va->Ha->Prop),Da X Za σ H s->(∀b∈fp,Zn X Za H b)->tn i s.heap->J.go i H ->
  Sa (La P w) X.A (pyNext (.ref it)) (fun r s1=>∃u,r=some u /\
   Sa (La P w) X.A (DF tg (.ref it) u) (fun _ s2=>∃x H',Da X Za σ H' s2/\Nb x u/\J.yld i H x H'/\tn (i+1) s2.heap/\∀b∈fp,H' b=none) E s1) E s
 done:∀(X:Cx),X.prog=P->X.w=w->X.K=K->X.calm=true->∀(i:Nat) (Za:List (Ja×Obj)) (s:Ha) (σ:St) (H:Hp) (E:Va->Ha->Prop),Da X Za σ H s->(∀b∈fp,Zn X Za H b)->tn i s.heap->J.stop i H ->
  Sa (La P w) X.A (pyNext (.ref it)) (fun r s1=>r=none/\Da X Za σ H s1) E s
 self:∀(A:Qe) (i:Nat) (s:Ha) (Q:Va->Ha->Prop) (E:Va->Ha->Prop),tn i s.heap->Q (.ref it) s->Sa (La P w) A (pyIter (.ref it)) Q E s
abbrev TI:=St->Hp->(It->Hp->Prop)->Prop
def ZR(X:Cx)(Za:List (Ja×Obj))(σ:St)(tg:Expr)(R:It->Hp->Prop)(itv:Va)(s2:Ha):Prop:=
 ∃(it:Ja) (fp:LI2) (tn:Nat->Heap->Prop) (J:It) (H':Hp),itv=.ref it/\Da X Za σ H' s2/\Eu X.prog X.w X.K tg J fp it tn/\tn 0 s2.heap/\(∀b∈fp,Zn X Za H' b)/\R J H'
def PI(X:Cx)(tg iter:Expr)(wi:TI):Prop:=
 ∀(Za:List (Ja×Obj)) (s:Ha) (σ:St) (H:Hp) (R:It->Hp->Prop),Da X Za σ H s->wi σ H R ->
  Sa (La X.prog X.w) X.A (eval iter X.env) (fun v s1=>Sa (La X.prog X.w) X.A (pyIter v) (ZR X Za σ tg R) X.xe s1) X.xe s
theorem Z9(ho:s.heap.get? it=some o)(hc:o.cls=.type n)(hd:o.data=.fields vs)(hn:["enumerate", "zip", "dict_itemiterator", "dict_reverseitemiterator", "odict_iterator", "itertools.zip_longest", "itertools.pairwise"].contains n=false)(hQ:Q () s): Sa M A (DF tg (.ref it) u) Q E s:=by
 unfold DF;cases tg<;>first
  |exact Mb hQ
  |(cases u<;>first
    |exact Mb hQ
    |(refine Ka (wpAny_load ho ?_)
      rw[hc,hd];show Sa M A (if (["enumerate", "zip", "dict_itemiterator", "dict_reverseitemiterator", "odict_iterator", "itertools.zip_longest", "itertools.pairwise"].contains n&&vs[0]?==some (rawInt _))=true then _ else _) Q E s;rw[Aa (by intro h;rw[hn,Bool.false_and] at h;cases h)];exact Mb hQ))
noncomputable def YF(K:ZmM)(a:Ja):It:=
 ⟨fun i H=>∃xs x,Uc K H a xs/\xs[i]?=some x,fun i H x H'=>H'=H/\∀xs,Uc K H a xs->xs[i]?=some x,fun i H=>∃xs,Uc K H a xs/\xs.length<=i⟩
noncomputable def ZG(K:ZmM)(a:Ja):It:=
 ⟨fun i H=>∃xs x,Re K H a xs/\xs[i]?=some x,fun i H x H'=>H'=H/\∀xs,Re K H a xs->xs[i]?=some x,fun i H=>∃xs,Re K H a xs/\xs.length<=i⟩
def P1(lo:Int)(n:Nat):It:=⟨fun i _=>i<n,fun i H x H'=>H'=H/\x=.int (lo+i),fun i _=>n<=i⟩
theorem Zmd{P:Qc}{w:Xb}{K:ZmM}{tg:Expr}(a it:Ja):Eu P w K tg (YF K a) [it] it (fun i h=>h.IsListIter it a i) where
 mem:=by simp
 obj:=fun i h st b hb=>by
  have e:b=it:=by simpa using hb
  subst e;obtain⟨o,e,c,d⟩:=st;exact⟨o,e,fun v z=>by rw[d] at z;cases z⟩
 keep:=fun i h h' st k=>st.at fun o e=>k it (by simp) o e
 item:=by
  intro X hP hw hK hc i Za s σ H E I hf st hg;subst hP hw hK;obtain⟨xs,x,hq,hx⟩:=hg;obtain⟨its,rv,p,hz⟩:=I.list hq;obtain⟨u,hu,ru⟩:=rv.get hx;obtain⟨f0,f1,f2,f3,f4,f5⟩:=hf it (by simp);refine wpAny_pyNext_list_item st p.isList (x:=u) (by simpa using hu) fun h' Ca sb=>?_;have I1:Da X Za σ H { s with heap:=h' }:=I.turned (t':=s.toks) (fun b o hb e=>(sb.2 b hb).trans e) f0 f1 f3 f4 f5;obtain⟨o,e,c,d⟩:=id Ca;exact⟨u,rfl,Z9 (s:={ s with heap:=h' }) e c d (by decide) ⟨x,H,I1,ru,⟨rfl,fun ys hy=>by rw[I.list_inj hy hq];exact hx⟩,Ca,fun b hb=>(hf b hb).1⟩⟩
 done:=by
  intro X hP hw hK hc i Za s σ H E I hf st hg;subst hP hw hK;obtain⟨xs,hq,hx⟩:=hg;obtain⟨its,rv,p,hz⟩:=I.list hq;obtain⟨f0,f1,f2,f3,f4,f5⟩:=hf it (by simp);have hl:=rv.length;exact wpAny_pyNext_list_end (I.ok.hd hc) st p.isList (by simp;lia) fun h' eb=>⟨rfl,I.turned (t':=s.toks) (fun b o hb e=>eb b o hb e) f0 f1 f3 f4 f5⟩
 self:=fun _ _ _ _ _ st h=>wpAny_pyIter_listiter st h
theorem Zmf{P:Qc}{w:Xb}{K:ZmM}{tg:Expr}(a it:Ja):Eu P w K tg (ZG K a) [it] it (fun i h=>h.IsTupleIter it a i) where
 mem:=by simp
 obj:=fun i h st b hb=>by
  have e:b=it:=by simpa using hb
  subst e;obtain⟨o,e,c,d⟩:=st;exact⟨o,e,fun v z=>by rw[d] at z;cases z⟩
 keep:=fun i h h' st k=>st.at fun o e=>k it (by simp) o e
 item:=by
  intro X hP hw hK hc i Za s σ H E I hf st hg;subst hP hw hK;obtain⟨xs,x,hq,hx⟩:=hg;obtain⟨its,rv,p,hz⟩:=I.tuple hq;obtain⟨u,hu,ru⟩:=rv.get hx;obtain⟨f0,f1,f2,f3,f4,f5⟩:=hf it (by simp);refine wpAny_pyNext_tuple_item st (show s.heap.IsTuple a its.toArray from p) (x:=u) (by simpa using hu) fun h' Ca sb=>?_;have I1:Da X Za σ H { s with heap:=h' }:=I.turned (t':=s.toks) (fun b o hb e=>(sb.2 b hb).trans e) f0 f1 f3 f4 f5;obtain⟨o,e,c,d⟩:=id Ca;exact⟨u,rfl,Z9 (s:={ s with heap:=h' }) e c d (by decide) ⟨x,H,I1,ru,⟨rfl,fun ys hy=>by rw[I.tuple_inj hy hq];exact hx⟩,Ca,fun b hb=>(hf b hb).1⟩⟩
 done:=by
  intro X hP hw hK hc i Za s σ H E I hf st hg;subst hP hw hK;obtain⟨xs,hq,hx⟩:=hg;obtain⟨its,rv,p,hz⟩:=I.tuple hq;obtain⟨f0,f1,f2,f3,f4,f5⟩:=hf it (by simp);have hl:=rv.length;exact wpAny_pyNext_tuple_end (I.ok.hd hc) st (show s.heap.IsTuple a its.toArray from p) (by simp;lia) fun h' eb=>⟨rfl,I.turned (t':=s.toks) (fun b o hb e=>eb b o hb e) f0 f1 f3 f4 f5⟩
 self:=fun _ _ _ _ _ st h=>wpAny_pyIter_tupleiter st h
theorem Zme{P:Qc}{w:Xb}{K:ZmM}{tg:Expr}(it:Ja)(lo:Int)(n:Nat):Eu P w K tg (P1 lo n) [it] it (fun i h=>IsRangeIter h it (lo+(i:Nat)*1) ((n:Int)-(i:Nat)) 1) where
 mem:=by simp
 obj:=fun i h st b hb=>by
  have e:b=it:=by simpa using hb
  subst e;exact⟨_,st,fun v z=>by
   have z':Data.fields _=Data.cell v:=z;cases z'⟩
 keep:=fun i h h' st k=>k it (by simp) _ st
 item:=by
  intro X hP hw hK hc i Za s σ H E I hf st hg;subst hP hw hK;obtain⟨f0,f1,f2,f3,f4,f5⟩:=hf it (by simp);have W:=Walks.range (prog:=X.prog) (w:=X.w) (I.ok.hd hc) it lo 1 n;refine W.item i s _ _ hg st fun v h' tk hv Ca kk=>?_;obtain⟨t,rfl⟩:=hv;have I1:Da X Za σ H { s with heap:=h',toks:=tk }:=I.turned (fun b o hb e=>kk b o (by simpa using hb) e) f0 f1 f3 f4 f5;refine⟨_,rfl,Z9 (s:={ s with heap:=h',toks:=tk }) (n := "range_iterator") Ca rfl rfl (by decide) ⟨.int (lo+i),H,I1,⟨t, ?_⟩,⟨rfl,rfl⟩,Ca,fun b hb=>(hf b hb).1⟩⟩;rw[Int.mul_one]
 done:=by
  intro X hP hw hK hc i Za s σ H E I hf st hg;subst hP hw hK;obtain⟨f0,f1,f2,f3,f4,f5⟩:=hf it (by simp);exact wpAny_pyNext_range_end (I.ok.hd hc) st (by have:n<=i:=hg;lia) fun h' eb=>⟨rfl,I.turned (t':=s.toks) (fun b o hb e=>eb b o hb e) f0 f1 f3 f4 f5⟩
 self:=fun _ _ _ _ _ st h=>wpAny_pyIter_rangeiter st h
section
variable {X:Cx}{tg:Expr}
def Kx(K:ZmM)(tl:TE):TI:=fun σ H R=>tl σ H fun x H1=>∃a,x=.ref a/\(∃xs,Uc K H1 a xs)/\R (YF K a) H1
def J9(K:ZmM)(tl:TE):TI:=fun σ H R=>tl σ H fun x H1=>∃a,x=.ref a/\(∃xs,Re K H1 a xs)/\R (ZG K a) H1
theorem QZ{l:Expr}{tl:TE}(hl:PE X l tl):PI X tg l (Kx X.K tl):=by
 intro Za s σ H R I h;refine Db (hl Za s σ H _ I h) fun v s1 ⟨x,H1,I1,r1,q1⟩=>?_;obtain⟨a,e,⟨xs,hq⟩,q⟩:=q1;subst e;cases r1;obtain⟨its,rv,p,hz⟩:=I1.list hq;refine KP p.isList ?_;refine⟨s1.heap.objs.size,[s1.heap.objs.size],_,_,H1,rfl,I1.kept (t':=s1.toks) fun b o e=>Heap.get?_push_of_some _ e,Zmd a _,⟨_,Heap.get?_push_size _ rfl,rfl,rfl⟩,fun b hb=>?_,q⟩;have e:b=s1.heap.objs.size:=by simpa using hb
 subst e;exact I1.fpOk (Cb _) (I1.hok.fresh (Cb _))
theorem ZkK{l:Expr}{tl:TE}(hl:PE X l tl):PI X tg l (J9 X.K tl):=by
 intro Za s σ H R I h;refine Db (hl Za s σ H _ I h) fun v s1 ⟨x,H1,I1,r1,q1⟩=>?_;obtain⟨a,e,⟨xs,hq⟩,q⟩:=q1;subst e;cases r1;obtain⟨its,rv,p,hz⟩:=I1.tuple hq;refine wpAny_pyIter_tuple (show s1.heap.IsTuple a its.toArray from p) ?_;refine⟨s1.heap.objs.size,[s1.heap.objs.size],_,_,H1,rfl,I1.kept (t':=s1.toks) fun b o e=>Heap.get?_push_of_some _ e,Zmf a _,⟨_,Heap.get?_push_size _ rfl,rfl,rfl⟩,fun b hb=>?_,q⟩;have e:b=s1.heap.objs.size:=by simpa using hb
 subst e;exact I1.fpOk (Cb _) (I1.hok.fresh (Cb _))
theorem Zae{lo hi: Int}(I:Da X Za σ H s)(h1:-(2^62)<=lo)(h2:lo<2^62)(h3:-(2^62)<=hi)(h4:hi<2^62)(q:R (P1 lo (hi-lo).toNat) H): Sa (La X.prog X.w) X.A (pyIter (.ref s.heap.objs.size)) (ZR X Za σ tg R) E { s with heap:=s.heap.push { cls:=.type "range",data:=.fields #[.int lo t,.int hi u,.int 1 v] },toks:=tk }:=by
 refine wpAny_pyIter_range (IsRange.new ..) (small_one h1 h2 h3 h4) ?_;have I1:Da X Za σ H { s with heap:=s.heap.push { cls:=.type "range",data:=.fields #[.int lo t,.int hi u,.int 1 v] },toks:=tk }:=I.kept fun b o e=>Heap.get?_push_of_some _ e;refine⟨(s.heap.push { cls:=.type "range",data:=.fields #[.int lo t,.int hi u,.int 1 v] }).objs.size,[(s.heap.push { cls:=.type "range",data:=.fields #[.int lo t,.int hi u,.int 1 v] }).objs.size],_,_,H,rfl,
  I1.kept (t':=tk) fun b o e=>Heap.get?_push_of_some _ e,Zme _ lo (hi-lo).toNat, ?_,fun b hb=>?_,q⟩
 ·have e1:lo+((0:Nat):Int)*1=lo:=by simp
  have e2:(((hi-lo).toNat:Nat):Int)-((0:Nat):Int)=Builtin.Range.rangeSize lo hi 1:=by rw[rangeSize_one];split<;>lia
  show IsRangeIter _ _ (lo+((0:Nat):Int)*1) ((((hi-lo).toNat:Nat):Int)-((0:Nat):Int)) 1;rw[e1,e2];exact Heap.get?_push_size _ rfl
 ·have e:b=(s.heap.push { cls:=.type "range",data:=.fields #[.int lo t,.int hi u,.int 1 v] }).objs.size:=by simpa using hb
  subst e;exact I1.fpOk (Cb _) (I1.hok.fresh (Cb _))
def QW(ta:TA):TI:=fun σ H R=>ta σ H fun vs H1=>∃j:Int,vs=[.int j]/\-(2^62)<=j/\j<2^62/\R (P1 0 j.toNat) H1
def AW(ta:TA):TI:=fun σ H R=>ta σ H fun vs H1=>∃i j:Int,vs=[.int i,.int j]/\(-(2^62)<=i/\i<2^62/\-(2^62)<=j/\j<2^62)/\R (P1 i (j-i).toNat) H1
theorem Jl(hg:Gl X "range")(hm:X.mg "range"=none)(ha:PA X [a] ta)(hs:Ed [a] X.env=[(false,eval a X.env)]:=by rfl): PI X tg (.Call (.Name "range" p) [a] [] pos) (QW ta):=by
 intro Za s σ H R I h;refine Call_ (Yu I hg hm boot_range (PyProof.Rows.callWith_type1 (Db (ha pos Za s σ H _ I h) fun us s1 ⟨vs,H1,I1,r1,q1⟩=>?_) hs rfl));obtain⟨j,e,q1,q2,q⟩:=q1;subst e;cases r1 with
 |cons r rr =>
  cases rr;obtain⟨t,rfl⟩:=r;exact call_range_1 (Zae I1 (by lia) (by lia) q1 q2 (by simpa using q))
theorem ZkI(hg:Gl X "range")(hm:X.mg "range"=none)(ha:PA X [a,b] ta)(hs:Ed [a,b] X.env=[(false,eval a X.env),(false,eval b X.env)]:=by rfl)(hs2:Ed [b] X.env=[(false,eval b X.env)]:=by rfl):
  PI X tg (.Call (.Name "range" p) [a,b] [] pos) (AW ta):=by
 intro Za s σ H R I h;refine Call_ (Yu I hg hm boot_range (PyProof.Rows.callWith_type1 (Db (ha pos Za s σ H _ I h) fun us s1 ⟨vs,H1,I1,r1,q1⟩=>?_) (by rw[hs,hs2]) (by rw[hs2];rfl)));obtain⟨i,j,e,⟨q1,q2,q3,q4⟩,q⟩:=q1;subst e;cases r1 with
 |cons r rr =>
  cases rr with
  |cons r' rr =>
   cases rr;obtain⟨t,rfl⟩:=r;obtain⟨t',rfl⟩:=r';exact call_range_2 (Zae I1 q1 q2 q3 q4 q)
def KN(wi:TI)(g:TG)(tb:TS):TS:=fun D σ H=>wi σ H fun J H1=>∃W:Nat->Nat->St->Hp->Prop,(∃m,W 0 m σ H1)/\∀i m σ H,W i m σ H ->
 (J.stop i H/\D.nx σ H)\/(J.go i H/\∃N:St->Hp->Prop,(∀σ' H',N σ' H'->∃m',m'<m/\W (i+1) m' σ' H')/\∀x H',J.yld i H x H'->g x σ H' fun σ2 H2=>tb { D with nx:=N,ct:=N,bk:=D.nx } σ2 H2)
noncomputable def VB(fp:LI2)(h:Heap):List (Ja×Obj):=fp.filterMap fun b=>(h.get? b).map fun o=>(b,o)
theorem Tx(hb:b∈fp)(e:h.get? b=some o): (b,o)∈VB fp h:=WO.mpr ⟨b,hb,by rw[e];rfl⟩
theorem Zjt(hp:p∈VB fp h): p.1∈fp/\h.get? p.1=some p.2:=by
 obtain⟨b,hb,e⟩:=WO.mp hp;cases q:h.get? b with
 |none=>rw[q] at e;cases e
 |some o =>
  rw[q] at e;have e':(b,o)=p:=Option.some.inj e;subst e';exact⟨hb,q⟩
theorem Da.pinned(I:Da X Za σ H s)(hf:∀b∈fp,Zn X Za H b)(ho:∀b∈fp,∃o,s.heap.get? b=some o/\∀v,o.data≠.cell v): Da X (Za++VB fp s.heap) σ H s:=
 I.pins_of fun p hp=>(Ud.mp hp).elim (fun z=>I.pin p (Fe _ z)) fun z=>by
  obtain⟨hb,e⟩:=Zjt z;obtain⟨f0,f1,f2,_⟩:=hf p.1 hb;obtain⟨o,e',d⟩:=ho p.1 hb;rw[e] at e';cases e';exact⟨e,f0,f1,f2,d⟩
theorem Da.unpinned(I:Da X (Za++pl) σ H s): Da X Za σ H s:=I.pins_of fun p hp=>I.pin p (Fe _ (Bf _ hp))
theorem ZkO(hp:PassesOwn (La X.prog X.w) X.A X.env X.xe)(hc:X.calm=true)(hi:PI X tg iter wi)(hg:PG X tg g)(hb:Yg X body tb)(hs:∀x,K0 iter X.env x=pure x:=by exact fun _=>rfl): PS X (.For tg iter body [] pos) (KN wi g tb):=by
 intro Za s σ H D I h;refine wpAny_For (Db (hi Za s σ H _ I h) fun v s1 h1=>Db h1 fun itv s2 h2=>?_) hs;obtain⟨it,fp,tn,J,H2,e,I2,T,st2,f2,W,⟨m0,w0⟩,turn⟩:=h2;subst e;have stat:∀{H':Hp},(∀b∈fp,H' b=none)->∀b∈fp,Zn X Za H' b:=fun hn b hb=>⟨hn b hb,(f2 b hb).2⟩
 refine codeAny_forLoop_any (fun n s'=>∃i σ' H',Da X Za σ' H' s'/\tn i s'.heap/\(∀b∈fp,H' b=none)/\W i n σ' H') ?_ m0 ⟨0,σ,H2,I2,st2,fun b hb=>(f2 b hb).1,w0⟩;rintro n s3 ⟨i,σ3,H3,I3,Dc,fr3,w3⟩;rcases turn i n σ3 H3 w3 with ⟨stop,qn⟩|⟨go,N,hN,step⟩
 ·refine Qw hp (Db (T.done X rfl rfl rfl hc i Za s3 σ3 H3 X.xe I3 (stat fr3) Dc stop) fun r s4 ⟨hr,I4⟩=>?_)
  subst hr;exact K6 ⟨σ3,H3,I4,qn⟩
 ·refine Qw hp (Db (T.item X rfl rfl rfl hc i Za s3 σ3 H3 X.xe I3 (stat fr3) Dc go) fun r s4 ⟨u,hr,h4⟩=>?_)
  subst hr;refine Qw hp (Db h4 fun _ s5 ⟨x,H5,I5,r5,y5,st5,fr5⟩=>?_);have I5':=I5.pinned (stat fr5) (T.obj _ _ st5);refine Qw hp (Db (hg _ s5 σ3 H5 x u _ I5' r5 (step x H5 y5)) fun _ s6 ⟨σ6,H6,I6,q6⟩=>?_);refine Qw hp (Db (hb _ s6 σ6 H6 _ I6 q6) fun f s7 q7=>?_);have again:∀{σ7:St}{H7:Hp},Da X (Za++VB fp s5.heap) σ7 H7 s7->N σ7 H7->∃m,m<n/\∃i σ' H',Da X Za σ' H' s7/\tn i s7.heap/\(∀b∈fp,H' b=none)/\W i m σ' H':=fun {σ7 H7} I7 n7=>by
   obtain⟨m',hm,w7⟩:=hN σ7 H7 n7;refine⟨m',hm,i+1,σ7,H7,I7.unpinned,T.keep _ _ _ st5 fun b hb o e=>(I7.pin (b,o) (Fe _ (Fe _ (Tx hb e)))).1,fun b hb=>?_,w7⟩;obtain⟨o,e,d⟩:=T.obj _ _ st5 b hb;exact(I7.pin (b,o) (Fe _ (Fe _ (Tx hb e)))).2.1
  cases f with
  |next=>obtain⟨σ7,H7,I7,n7⟩:=q7;exact again I7 n7
  |cont=>obtain⟨σ7,H7,I7,n7⟩:=q7;exact again I7 n7
  |brk=>obtain⟨σ7,H7,I7,q7⟩:=q7;exact⟨σ7,H7,I7.unpinned,q7⟩
  |ret v=>obtain⟨x7,σ7,H7,I7,r7,q7⟩:=q7;exact⟨x7,σ7,H7,I7.unpinned,r7,q7⟩
end
abbrev R2:=V->V->Hp->VK->Prop
def Cg(X:Cx)(f:Va->Va->Sem Va)(r:R2):Prop:=
 ∀(Za:List (Ja×Obj)) (s:Ha) (σ:St) (H:Hp) (x y:V) (v u:Va) (Q:VK),Da X Za σ H s->Nb x v->Nb y u->r x y H Q ->
  Sa (La X.prog X.w) X.A (f v u) (EP X Za σ Q) X.xe s
def NG(X:Cx)(f:Va->Sem Va)(r:V->Hp->VK->Prop):Prop:=
 ∀(Za:List (Ja×Obj)) (s:Ha) (σ:St) (H:Hp) (x:V) (v:Va) (Q:VK),Da X Za σ H s->Nb x v->r x H Q ->
  Sa (La X.prog X.w) X.A (f v) (EP X Za σ Q) X.xe s
def Xf(X:Cx)(f:Va)(r:List V->Hp->VK->Prop):Prop:=
 ∀(Za:List (Ja×Obj)) (s:Ha) (σ:St) (H:Hp) (xs:List V) (us:LI3) (Q:VK),Da X Za σ H s->Ub xs us->r xs H Q ->
  Sa (La X.prog X.w) X.A (call f us) (EP X Za σ Q) X.xe s
def Zcy(X:Cx)(r:V->Hp->(Bool->Hp->Prop)->Prop):Prop:=
 ∀(Za:List (Ja×Obj)) (s:Ha) (σ:St) (H:Hp) (x:V) (v:Va) (Q:Bool->Hp->Prop),Da X Za σ H s->Nb x v->r x H Q ->
  Sa (La X.prog X.w) X.A (truthy v) (TP X Za σ Q) X.xe s
def Ff(r:R2)(ta tb:TE):TE:=fun σ H Q=>ta σ H fun x H1=>tb σ H1 fun y H2=>r x y H2 Q
def NN(r:V->Hp->VK->Prop)(ta:TE):TE:=fun σ H Q=>ta σ H fun x H1=>r x H1 Q
def rI(C:Int->Int->Prop)(g:Int->Int->V):R2:=fun x y H Q=>∃i j,x=.int i/\y=.int j/\C i j/\Q (g i j) H
def Oj(g:Int->Int->V):R2:=fun x y H Q=>∃i j,x=.int i/\y=.int j/\Q (g i j) H
def rU(g:Int->V):V->Hp->VK->Prop:=fun x H Q=>∃i,x=.int i/\Q (g i) H
section
variable {X:Cx}{a b:Expr}{ta tb:TE}{pos:Pos}
theorem VH(ha:PE X a ta)(hb:PE X b tb){R: V->V->Hp->Prop}(I:Da X Za σ H s)(h:ta σ H fun x H1=>tb σ H1 fun y H2=>R x y H2){Q: Va->Ha->Prop}{f: Va->Va->Sem Va}(hf:∀v u s2 x y H2,Da X Za σ H2 s2->Nb x v->Nb y u->R x y H2->Sa (La X.prog X.w) X.A (f v u) Q X.xe s2):
  Sa (La X.prog X.w) X.A (eval a X.env) (fun v s₁=>Sa (La X.prog X.w) X.A (eval b X.env) (fun u s₂=>Sa (La X.prog X.w) X.A (f v u) Q X.xe s₂) X.xe s₁) X.xe s:=by
 refine Db (ha Za s σ H _ I h) fun v s1 ⟨x,H1,I1,r1,q1⟩=>?_;refine Db (hb Za s1 σ H1 _ I1 q1) fun u s2 ⟨y,H2,I2,r2,q2⟩=>?_;exact hf v u s2 x y H2 I2 r1 r2 q2
theorem Na{op:Operator}{r:R2}(ho:Cg X (Wp op) r)(ha:PE X a ta)(hb:PE X b tb):PE X (.BinOp a op b pos) (Ff r ta tb):=by
 intro Za s σ H Q I h;exact wpAny_BinOp (VH ha hb I h fun v u s2 x y H2 I2 rx ry q=>ho Za s2 σ H2 x y v u Q I2 rx ry q)
theorem NL(ho:NG X (unaryOp op) r)(ha:PE X a ta): PE X (.UnaryOp op a pos) (NN r ta):=by
 intro Za s σ H Q I h;exact UnaryOp_ (Db (ha Za s σ H _ I h) fun v s1 ⟨x,H1,I1,r1,q1⟩=>ho Za s1 σ H1 x v Q I1 r1 q1)
theorem VA{f:Va->Va->Sem Va}{C:Int->Int->Prop}{g:Int->Int->Int}(rule:∀(i j:Int) (t u:Tok) (s:Ha) (Q:Va->Ha->Prop) (E:Va->Ha->Prop),C i j->Q (.int (g i j) s.toks) { s with toks:=s.toks+1 }->Sa (La X.prog X.w) X.A (f (.int i t) (.int j u)) Q E s) :
  Cg X f (rI C fun i j=>.int (g i j)):=by
 intro Za s σ H x y v u Q I rx ry h;obtain⟨i,j,rfl,rfl,hc,q⟩:=h;obtain⟨t,rfl⟩:=rx;obtain⟨t',rfl⟩:=ry;exact rule i j t t' s _ _ hc ⟨.int (g i j),H,I.tok _,⟨_,rfl⟩,q⟩
theorem EY{f:Va->Va->Sem Va}{g:Int->Int->Int}(rule:∀(i j:Int) (t u:Tok) (s:Ha) (Q:Va->Ha->Prop) (E:Va->Ha->Prop),Q (.int (g i j) s.toks) { s with toks:=s.toks+1 }->Sa (La X.prog X.w) X.A (f (.int i t) (.int j u)) Q E s) :
  Cg X f (Oj fun i j=>.int (g i j)):=by
 intro Za s σ H x y v u Q I rx ry h;obtain⟨i,j,rfl,rfl,q⟩:=h;obtain⟨t,rfl⟩:=rx;obtain⟨t',rfl⟩:=ry;exact rule i j t t' s _ _ ⟨.int (g i j),H,I.tok _,⟨_,rfl⟩,q⟩
theorem JA{f:Va->Va->Sem Va}{g:Int->Int->Bool}(rule:∀(i j:Int) (t u:Tok) (s:Ha) (Q:Va->Ha->Prop) (E:Va->Ha->Prop),Q (.bool (g i j)) s->Sa (La X.prog X.w) X.A (f (.int i t) (.int j u)) Q E s) :
  Cg X f (Oj fun i j=>.bl (g i j)):=by
 intro Za s σ H x y v u Q I rx ry h;obtain⟨i,j,rfl,rfl,q⟩:=h;obtain⟨t,rfl⟩:=rx;obtain⟨t',rfl⟩:=ry;exact rule i j t t' s _ _ ⟨.bl (g i j),H,I,rfl,q⟩
def Dw(i j:Int):Prop:=0<=j/\j<=1000000/\i.natAbs<2^64
theorem Ue:Cg X (Wp .Add) (Oj fun i j=>.int (i+j)):=EY fun _ _ _ _ _ _ _ q=>add_int q
theorem Av:Cg X (Wp .Sub) (Oj fun i j=>.int (i-j)):=EY fun _ _ _ _ _ _ _ q=>sub_int q
theorem Od:Cg X (Wp .Mod) (rI (fun _ j=>0<j) fun i j=>.int (i%j)):=VA fun i j _ _ _ _ _ hc q=>by
 have h1:(0:Int)<j:=hc;exact mod_int' (by lia) (by rw[Int.fmod_eq_emod_of_nonneg i (by lia)];exact q)
theorem Yx:Cg X (Wp .Pow) (rI Dw fun i j=>.int (i^j.toNat)):=VA fun _ _ _ _ _ _ _ hc q=>pow_int_small hc.1 hc.2.1 hc.2.2 q
theorem unI{f:Va->Sem Va}{g:Int->Int}(rule:∀(i:Int) (t:Tok) (s:Ha) (Q:Va->Ha->Prop) (E:Va->Ha->Prop),Q (.int (g i) s.toks) { s with toks:=s.toks+1 }->Sa (La X.prog X.w) X.A (f (.int i t)) Q E s) :
  NG X f (rU fun i=>.int (g i)):=by
 intro Za s σ H x v Q I rx h;obtain⟨i,rfl,q⟩:=h;obtain⟨t,rfl⟩:=rx;exact rule i t s _ _ ⟨.int (g i),H,I.tok _,⟨_,rfl⟩,q⟩
theorem TN:NG X (unaryOp .USub) (rU fun i=>.int (-i)):=unI fun _ _ _ _ _ q=>neg_int q
variable {c:Expr}
theorem ZfY(I:Da X Za σ H s)(q:Q (.bl k) H)(e:k=k'): EP X Za σ Q (.bool k') s:=by
 subst e;exact⟨.bl k,H,I,rfl,q⟩
theorem UA:Cg X (Xl .Lt) (Oj fun i j=>.bl (decide (i<j))):=JA fun _ _ _ _ _ _ _ q=>lt_int q
theorem Zj0:Cg X (Xl .LtE) (Oj fun i j=>.bl (decide (i<=j))):=JA fun _ _ _ _ _ _ _ q=>le_int q
theorem Gs:Cg X (Xl .Gt) (Oj fun i j=>.bl (decide (j<i))):=JA fun _ _ _ _ _ _ _ q=>gt_int q
theorem Zjx:Cg X (Xl .GtE) (Oj fun i j=>.bl (decide (j<=i))):=JA fun _ _ _ _ _ _ _ q=>ge_int q
theorem Zjz:Cg X (Xl .Is) (fun x y H Q=>y=.non/\Q (.bl (decide (x=.non))) H):=by
 intro Za s σ H x y v u Q I rx ry h;obtain⟨rfl,q⟩:=h;cases ry;refine is_none_gen (ZfY I q ?_);cases x<;>first
  |(cases rx;rfl)
  |(obtain⟨t,rfl⟩:=rx;rfl)
theorem Kg(b:Expr)(h:op≠.In:=by decide)(h2:op≠.NotIn:=by decide): E6 op b=false:=by
 have e1:(op==CmpOp.In)=false:=by cases op<;>first|rfl|exact Gb rfl h
 have e2:(op==CmpOp.NotIn)=false:=by cases op<;>first|rfl|exact Gb rfl h2
 cases b<;>simp[E6,e1,e2]
theorem Ms{op:CmpOp}{r:R2}(ho:Cg X (Xl op) r)(ha:PE X a ta)(hb:PE X b tb)(hm:E6 op b=false):PE X (.Compare a [op] [b] pos) (Ff r ta tb):=by
 intro Za s σ H Q I h;exact wpAny_Compare1 (VH ha hb I h fun v u s2 x y H2 I2 rx ry q=>ho Za s2 σ H2 x y v u Q I2 rx ry q) hm
def MN(t:TE):TT:=fun σ H Q=>t σ H fun x H'=>∃k,x=.bl k/\Q k H'
theorem Oi(ho:Cg X (Xl op) r)(ha:PE X a ta)(hb:PE X b tb)(hm:E6 op b=false): PT X (.Compare a [op] [b] pos) (MN (Ff r ta tb)):=by
 intro Za s σ H Q I h;refine wpAny_isTrue_Compare1 (Db (ha Za s σ H _ I h) fun v s1 ⟨x,H1,I1,r1,q1⟩=>Db (hb Za s1 σ H1 _ I1 q1) fun u s2 ⟨y,H2,I2,r2,q2⟩ =>
  Db (ho Za s2 σ H2 x y v u _ I2 r1 r2 q2) fun c s3 ⟨z,H3,I3,r3,k,e,q3⟩=>?_) hm
 subst e;cases r3;exact Zu ⟨H3,I3,q3⟩
def MG(K:ZmM)(x:V)(H:Hp)(k:Bool):Prop:=
 match x with
 |.non=>k=false
 |.bl b=>k=b
 |.int i=>k=(i != 0)
 |.str y=>y.length<=Rb/\k=((y.length:Int) != 0)
 |.byt y=>y.size<=Rb/\k=((y.size:Int) != 0)
 |.ref p=>(∃xs,Uc K H p xs/\k=!xs.isEmpty)\/(∃xs,Re K H p xs/\k=!xs.isEmpty)\/∃Ra,H p=some (.dK Ra)/\k=!Ra.isEmpty
 |_=>False
theorem Zh8(r:KV Ra vs): (!vs.isEmpty)=!Ra.isEmpty:=by
 cases r<;>rfl
theorem IW(r:Ub xs its): (!its.toArray.isEmpty)=!xs.isEmpty:=by
 cases r<;>simp
theorem Zv:(Rb:Nat)<2^63:=by rw[sizeLine_eq];decide
theorem ZlU:Zcy X (fun x H Q=>∃k,MG X.K x H k/\Q k H):=by
 intro Za s σ H x v Q I rx h;obtain⟨k,e,q⟩:=h;have hl:=Zv;have hs:Rb=16777216:=sizeLine_eq;cases x with
 |non =>
  cases rx;have e':k=false:=e;subst e';exact truthy_none ⟨H,I,q⟩
 |bl b =>
  cases rx;have e':k=b:=e;subst e';exact Zu ⟨H,I,q⟩
 |int i =>
  obtain⟨t,rfl⟩:=rx;have e':k=(i != 0):=e;subst e';exact PySem.P.truthy_int ⟨H,I,q⟩
 |str y =>
  obtain⟨t,rfl⟩:=rx;obtain⟨hy,e'⟩:y.length<=Rb/\k=((y.length:Int) != 0):=e;subst e';exact PySem.P.truthy_str (by lia) ⟨H,I.tok _,q⟩
 |byt y =>
  obtain⟨t,rfl⟩:=rx;obtain⟨hy,e'⟩:y.size<=Rb/\k=((y.size:Int) != 0):=e;subst e';exact PySem.W.truthy_bytes (by lia) ⟨H,I.tok _,q⟩
 |ref p =>
  cases rx;have e':(∃xs,Uc X.K H p xs/\k=!xs.isEmpty)\/(∃xs,Re X.K H p xs/\k=!xs.isEmpty)\/∃Ra,H p=some (.dK Ra)/\k=!Ra.isEmpty:=e;rcases e' with ⟨xs,hx,e'⟩|⟨xs,hx,e'⟩|⟨Ra,hx,e'⟩
  ·subst e'
   obtain⟨its,r,pl,hz⟩:=I.list hx;have Ae:=r.length;exact wpAny_truthy_list pl.isList (by simp only[Ld];lia) ⟨H,I.tok _,by rw[IW r];exact q⟩
  ·subst e'
   obtain⟨its,r,pl,hz⟩:=I.tuple hx;have Ae:=r.length;exact truthy_tuple pl (by simp only[Ld];lia) ⟨H,I.tok _,by rw[IW r];exact q⟩
  ·subst e'
   obtain⟨hz,hS,vs,r,m⟩:Ra.length<=Rb/\(p==Yj)=false/\∃vs,KV Ra vs/\s.heap.DictOf (Sk X.prog X.w) p vs:=I.hok p _ hx;have Ae:Ra.length=vs.length:=Paired.length r;exact wpAny_truthy_dict hS m (by lia) ⟨H,I.tok _,by rw[Zh8 r];exact q⟩
 |_=>exact(show False from e).elim
theorem ZkT(ha:PE X a ta)(he:∀whole,isTrue a X.env whole=(do let v <- whole;standAt a.pos;holding [v] (truthy v))) :
  PT X a (fun σ H Q=>ta σ H fun x H'=>∃k,MG X.K x H' k/\Q k H'):=by
 intro Za s σ H Q I h;exact isTrue_plain (Db (ha Za s σ H _ I h) fun v s1 ⟨x,H1,I1,r1,q1⟩=>ZlU Za s1 σ H1 x v Q I1 r1 q1) (he _)
theorem Np(r:Ub [x] us): ∃u,us=[u]/\Nb x u:=by
 cases r with
 |cons r1 r2=>cases r2;exact⟨_,rfl,r1⟩
theorem ZE(r:Ub [x,y] us): ∃u w',us=[u,w']/\Nb x u/\Nb y w':=by
 cases r with
 |cons r1 r2 =>
  cases r2 with
  |cons r3 r4=>cases r4;exact⟨_,_,rfl,r1,r3⟩
theorem OS(hc:X.calm=true):Xf X (.builtin "max") (fun xs H Q=>∃i j,xs=[.int i,.int j]/\Q (.int (if j>i then j else i)) H):=by
 intro Za s σ H xs us Q I r h;obtain⟨i,j,rfl,q⟩:=h;obtain⟨u,w',rfl,⟨t,rfl⟩,⟨t',rfl⟩⟩:=ZE r;refine max_two_ints (I.ok.hd hc) fun h' tk k=>⟨_,H,I.kept k, ?_,q⟩
 by_cases hj:j>i
 ·rw[Ba hj,Ba hj];exact⟨_,rfl⟩
 ·rw[Aa hj,Aa hj];exact⟨_,rfl⟩
end
theorem ZiA{h: Heap}(n:h.Ns1 dx mA): ∃od,h.get? dx=some od/\∀name,PySem.W.lookIn name od=some (mA name):=by
 obtain⟨o,es,ep,ho,hd,hk,_,hm⟩:=n;refine⟨o,ho,fun name=>?_⟩;have e:=hm name;unfold nsFind findBy at e;rw[<- Array.find?_toList] at e;unfold PySem.W.lookIn;rw[hd];dsimp only
 split
 ·rename_i y q
  rw[q] at e;exact Wf some e
 ·rename_i q
  rw[q] at e;have a:es.toList.any (·.refKey)=false:=by
   rw[List.any_eq_false];intro y hy;obtain⟨z,t,hkey⟩:=hk y (Array.mem_toList_iff.mp hy);simp[DictEntry.refKey,hkey]
  have a':¬es.toList.any (·.refKey)=true:=by rw[a];exact Bool.false_ne_true
  rw[Aa a'];exact Wf some e
section
end
theorem Po.some_of(r:Po (some v) o): ∃u,o=some u/\Nb v u:=by
 cases o with
 |none=>exact(show False from r).elim
 |some u=>exact⟨u,rfl,r⟩
section
end
structure Cls(K:ZmM)(C:Ja):Prop where
 pg:PySem.W.plainGet K C Str.empty=true
 hd:PySem.W.hasDictIn K C=true
 po:PySem.W.plainOver K C=true
 sa:PySem.W.findIn K (.ref C) "__setattr__"=some (some (.builtin "object.__setattr__"))
section
end
structure He(k:Nat)(A:Qe):Prop where
 hd:A.handled=none
 dp:A.depth+3*k+5<recursionLimit
 un:A.units+16*k+200<cLine
theorem He.mono(r:He k A)(h:j<=k): He j A:=⟨r.hd,by have:=r.dp;lia,by have:=r.un;lia⟩
theorem He.deeper(r:He (k+1) A)(env:Env): He k (A.deeper env):=
 ⟨r.hd,by have:=r.dp;show A.depth+1+3*k+5<_;lia,by have:=r.un;show A.units+3+16*k+200<_;lia⟩
theorem He.in1(r:He (k+1) A): He k A.in1:=
 ⟨r.hd,by have:=r.dp;show A.depth+3*k+5<_;lia,by have:=r.un;show A.units+1+16*k+200<_;lia⟩
theorem He.depth(r:He k A): A.depth<recursionLimit:=by have:=r.dp;lia
theorem He.units(r:He k A): A.units+64<cLine:=by have:=r.un;lia
def Rj:TA:=fun _ H Q=>Q [] H
def Di(ta:TE)(tr:TA):TA:=fun σ H Q=>ta σ H fun x H1=>tr σ H1 fun xs H2=>Q (x::xs) H2
section
variable {X:Cx}{e:Expr}{es:List Expr}{te:TE}{t:TA}{pos:Pos}
theorem Ga:PA X [] Rj:=fun _ _ _ _ H Q I h=>Calls.spliced_nil ⟨[],H,I,.nil,h⟩
theorem Qa(ha:PE X e te)(hr:PA X es t)(hs:Ed (e::es) X.env=(false,eval e X.env)::Ed es X.env:=by rfl):PA X (e::es) (Di te t):=by
 intro pos Za s σ H Q I h;rw[hs];show Sa _ _ (spliced ((false,eval e X.env)::Ti pos (Ed es X.env))) _ _ s;refine Calls.spliced_cons (Db (ha Za s σ H _ I h) fun u s1 ⟨x,H1,I1,r1,q1⟩=>?_);exact Db (hr pos Za s1 σ H1 _ I1 q1) fun us s2 ⟨xs,H2,I2,r2,q2⟩=>⟨x::xs,H2,I2,.cons r1 r2,q2⟩
def M5(t:TA):TE:=fun σ H Q=>t σ H fun xs H1=>xs.length<=Rb/\∀p,H1 p=none->Q (.ref p) (upd H1 p (.tup xs))
def K5(t:TA):TE:=fun σ H Q=>t σ H fun xs H1=>xs.length<=Rb/\∀p,H1 p=none->Q (.ref p) (upd H1 p (.lst xs))
theorem Hm{x1}(h:PA X es t):PE X (.Tuple es x1 pos) (M5 t):=by
 intro Za s σ H Q I hq;refine wpAny_Tuple_spliced (Db (h pos Za s σ H _ I hq) fun us s1 ⟨xs,H1,I1,r,z,q⟩=>⟨by rw[<- r.length];exact z, ?_⟩);have hf:H1 s1.heap.objs.size=none:=I1.hok.fresh (Cb _);refine⟨.ref s1.heap.objs.size,upd H1 s1.heap.objs.size (.tup xs),I1.laid (t':=s1.toks) (fun b u e=>Heap.get?_push_of_some _ e) (Cb _) ?_,rfl,q _ hf⟩;exact⟨z,us,r,⟨_,Heap.get?_push_size _ rfl,rfl,_,rfl⟩⟩
theorem We(h:PA X es t):PE X (.List es pos) (K5 t):=by
 intro Za s σ H Q I hq;refine wpAny_List_spliced (Db (h pos Za s σ H _ I hq) fun us s1 ⟨xs,H1,I1,r,z,q⟩=>⟨by rw[<- r.length];exact z, ?_⟩);have hf:H1 s1.heap.objs.size=none:=I1.hok.fresh (Cb _);refine⟨.ref s1.heap.objs.size,upd H1 s1.heap.objs.size (.lst xs),I1.laid (t':=s1.toks) (fun b u e=>Heap.get?_push_of_some _ e) (Cb _) ?_,rfl,q _ hf⟩;exact⟨z,us,0,r,Heap.get?_push_size _ rfl⟩
end
abbrev Sp:=List V->Hp->VK->XK->Prop
abbrev Lo:=List Env->Hp->Ha->XK->Va->Ha->Prop
structure O6(P:Qc)(w:Xb)(K:ZmM)(mg:Str->Option Va)(base:Heap)(A:Qe)(outer:List Env)(s:Ha)(H:Hp):Prop where
 frames:A.frames=some outer
 mod:Mod K mg base
 bs:∀b o,base.get? b=some o->s.heap.get? b=some o/\H b=none
 bsz:base.objs.size<=s.heap.objs.size
 funs:s.heap.FunFrames base outer
 frf:∀b∈Te outer,H b=none
 hok:Pe P w H s.heap
 bare:AllBare s.gens
 tab:UR K H
def CE(outer:List Env)(P:Qc)(w:Xb)(H:Hp)(s:Ha)(Q:VK)(u:Va)(s':Ha):Prop:=
 ∃v H',s'.os=s.os/\AllBare s'.gens/\Un (Te outer) [] H H' s.heap s'.heap/\Pe P w H' s'.heap/\Nb v u/\Q v H'
def CR(CX:Lo)(outer:List Env)(P:Qc)(w:Xb)(H:Hp)(s:Ha)(Q:VK)(E:XK)(r:Result)(s':Ha):Prop:=
 match r with
 |.ok (.ret u)=>CE outer P w H s Q u s'
 |.ok _=>False
 |.error e=>CX outer H s E e s'
structure Yb(P:Qc)(w:Xb)(K:ZmM)(mg:Str->Option Va)(base:Heap)(CX:Lo)(k:Nat)(f:Ja)(fd:Dl)(ps:List Str)(sp:Sp):Prop where
 len:∀vs H Q E,sp vs H Q E->vs.length=ps.length
 run:∀(A:Qe) (outer:List Env) (s:Ha) (H:Hp) (args:Args) (us:LI3) (vs:List V) (Q:VK) (E:XK),He k A->O6 P w K mg base A outer s H->BindsTo s fd args (ps.zip us)->Ub vs us->sp vs H Q E ->
  codeAny (La P w) A (.call (.ref f) args) (CR CX outer P w H s Q E) s
section
variable {X:Cx}{Za:List (Ja×Obj)}{σ:St}{H:Hp}{s s':Ha}
theorem Da.env0(I:Da X Za σ H s):O6 X.prog X.w X.K X.mg X.base X.A X.stack s H:=
 ⟨I.ok.frames,I.ok.mod,I.bs,Oe I.ok.bsz I.sz,I.stack,I.stkFree,I.hok,I.bare,fun f c P h1=>I.base.tbls _ _ _ (I.ok.tab f c P h1)⟩
theorem Da.after(I:Da X Za σ H s)(h:CE X.stack X.prog X.w H s Q u s'): EP X Za σ Q u s':=by
 obtain⟨v,H',os,bare,un,hok,r,q⟩:=h;obtain⟨hh,g,d,t,os'⟩:=s';obtain rfl:os'=s.os:=os;exact⟨v,H',I.call (h':=hh) (g':=g) (d':=d) (t':=t) (ch:=[]) un hok bare (fun b z=>Gb z (by simp)),r,q⟩
end
def ZaM(sp:Sp)(dvs:List V)(E:XK)(t:TA):TE:=fun σ H Q=>t σ H fun vs H1=>sp (vs++dvs) H1 Q E
def Vq(K:ZmM)(fd:Dl)(ps:List Str)(ds:LI3):Prop:=
 ∀(s:Ha) (us:LI3),K.In s.heap->(us++ds).length=ps.length->BindsTo s fd ⟨us,[]⟩ (ps.zip (us++ds))
theorem Vq.all{K:ZmM}{fd:Dl}{ps:List Str}(h:∀us:LI3,us.length=ps.length->bindArgs fd ⟨us,[]⟩=pure (ps.zip us)):Vq K fd ps []:=fun s us _ hl=>by
 rw[Dt] at hl ⊢;exact .of_eq (h us hl)
def Y6(CX:Lo)(X:Cx)(E:XK):Prop:=∀(Za:List (Ja×Obj)) (σ:St) (H:Hp) (s:Ha) (e:Va) (s':Ha),Da X Za σ H s->CX X.stack H s E e s'->X.xe e s'
section
variable {X:Cx}{CX:Lo}{k:Nat}{f:Ja}{fd:Dl}{ps:List Str}{sp:Sp}{dvs:List V}{ds:LI3}{E:XK}{x:Str}{p pos:Pos}{e:Expr}{es:List Expr}{t:TA}
theorem LM(F:Yb X.prog X.w X.K X.mg X.base CX k f fd ps sp)(hr:He k X.A)(hb:Vq X.K fd ps ds)(hd:Ub dvs ds)(hx:Y6 CX X E)(I:Da X Za σ H s)(r:Ub vs us)(h:sp (vs++dvs) H Q E): Sa (La X.prog X.w) X.A (call (.ref f) us) (EP X Za σ Q) X.xe s:=by
 have r2:Ub (vs++dvs) (us++ds):=r.append hd;have hl:(us++ds).length=ps.length:=by rw[<- r2.length];exact F.len _ _ _ _ h
 refine wpAny_call (codeAny_mono (F.run X.A X.stack s H ⟨us,[]⟩ (us++ds) (vs++dvs) Q E hr I.env0 (hb s us I.kIn hl) r2 h) fun r s' hq=>?_);cases r with
 |error e=>exact hx Za σ H s e s' I hq
 |ok fl =>
  cases fl with
  |ret u=>exact I.after hq
  |next=>exact False.elim hq
  |brk=>exact False.elim hq
  |cont=>exact False.elim hq
theorem Zk1(F:Yb X.prog X.w X.K X.mg X.base CX k f fd ps sp)(hr:He k X.A)(hg:Gl X x)(hm:X.mg x=some (.ref f))(hk:PySem.W.keepIn X.K (.ref f)=true)(hb:Vq X.K fd ps ds)(hd:Ub dvs ds)(hx:Y6 CX X E)(ha:PA X (e::es) t)(hdb:(x==("__debug__":Str))=false:=by decide)(he:Ed (e::es) X.env=(false,eval e X.env)::Ed es X.env:=by rfl)(hpl:(Ti pos (Ed es X.env)).any (·.1)=false:=by rfl) :
  PE X (.Call (.Name x p) (e::es) [] pos) (ZaM sp dvs E t):=by
 intro Za s σ H Q I h;refine Z1 (Rx I hg hm ?_ hdb);refine PySem.W.callWith_K (h₀:=X.base) I.ok.mod.kin hk (Db (ha pos Za s σ H _ I h) fun us s1 ⟨vs,H1,I1,r,q⟩=>⟨I1.kIn, ?_⟩) he hpl;exact LM F hr hb hd hx I1 r q
theorem Zk2(F:Yb X.prog X.w X.K X.mg X.base CX k f fd ps sp)(hr:He k X.A)(hg:Gl X x)(hm:X.mg x=some (.ref f))(hk:PySem.W.keepIn X.K (.ref f)=true)(hb:Vq X.K fd ps ds)(hd:Ub dvs ds)(hx:Y6 CX X E)(hdb:(x==("__debug__":Str))=false:=by decide):PE X (.Call (.Name x p) [] [] pos) (ZaM sp dvs E Rj):=by
 intro Za s σ H Q I h;refine Z1 (Rx I hg hm ?_ hdb);exact PySem.W.callWith_K0 I.kIn hk (LM (us:=[]) F hr hb hd hx I .nil h)
end
structure Gc(N P:List Str)(sc:Scope):Prop where
 kind:sc.kind=.function
 co:sc.isCoroutine=false
 gen:sc.isGenerator=false
 nd:N.Nodup
 pre:N.take P.length=P
 par:∀x∈P,sc.names.lookup x=some .local\/sc.names.lookup x=some .cell
 nofree:∀y∈sc.names,y.2≠.free
theorem AS{Hc:Str->Option NameKind}{x:Str}:∀{binds:List (Str×Va)}{m:Str->Option Va},(∀v,(x,v) ∉ binds)->bindL Hc binds m x=m x
 |[],_,_=>rfl
 |(n,v)::r,m,h=>by
  unfold bindL;rw[AS fun w hw=>h w (Fi _ hw)]
  split
  ·have:x≠n:=by rintro rfl;exact h v Tl
   simp[this]
  ·rfl
theorem US{Hc:Str->Option NameKind}{x:Str}:∀{binds:List (Str×Va)}{m:Str->Option Va},(∀v,(x,v) ∉ binds)->bindC Hc binds m x=m x
 |[],_,_=>rfl
 |(n,v)::r,m,h=>by
  unfold bindC;rw[US fun w hw=>h w (Fi _ hw)]
  split
  ·rfl
  ·have:x≠n:=by rintro rfl;exact h v Tl
   simp[this]
theorem QS{Hc: Str->Option NameKind}{x: Str}: ∀{P:List Str}{vs:LI3}{i:Nat}{m:Str->Option Va},P.Nodup->P[i]?=some x->vs[i]?=some v->Hc x=some .local ->
  bindL Hc (P.zip vs) m x=some v
 |[],_,_,_,_,h,_,_=>by simp at h
 |_::_,[],_,_,_,_,h,_=>by simp at h
 |p::P,w::vs,0,m,nd,h1,h2,hk=>by
  simp at h1 h2;subst h1;subst h2;show bindL Hc ((p,w)::P.zip vs) m p=_;unfold bindL;rw[AS fun v hv=>(Lr.mp nd).1 (ZP hv).1,Ba hk];simp
 |p::P,w::vs,i+1,m,nd,h1,h2,hk=>by
  show bindL Hc ((p,w)::P.zip vs) m x=_;unfold bindL;exact QS (i:=i) (Lr.mp nd).2 (by simpa using h1) (by simpa using h2) hk
theorem VS{Hc: Str->Option NameKind}{x: Str}: ∀{P:List Str}{vs:LI3}{i:Nat}{m:Str->Option Va},P.Nodup->P[i]?=some x->vs[i]?=some v->Hc x≠some .local ->
  bindC Hc (P.zip vs) m x=some v
 |[],_,_,_,_,h,_,_=>by simp at h
 |_::_,[],_,_,_,_,h,_=>by simp at h
 |p::P,w::vs,0,m,nd,h1,h2,hk=>by
  simp at h1 h2;subst h1;subst h2;show bindC Hc ((p,w)::P.zip vs) m p=_;unfold bindC;rw[US fun v hv=>(Lr.mp nd).1 (ZP hv).1,Aa hk];simp
 |p::P,w::vs,i+1,m,nd,h1,h2,hk=>by
  show bindC Hc ((p,w)::P.zip vs) m x=_;unfold bindC;exact VS (i:=i) (Lr.mp nd).2 (by simpa using h1) (by simpa using h2) hk
def Pj(N:List Str)(vs:List V):St:=vs.map some++List.replicate (N.length-vs.length) none
noncomputable def Ki(CX:Lo)(P:Qc)(w:Xb)(K:ZmM)(mg:Str->Option Va)(base:Heap)(N:List Str)(qual:Str)(scope:Scope)(f:Ja)(cd:Va)(A:Qe)(outer:List Env)(s:Ha)(H:Hp)(E:XK):Cx where
 prog:=P
 w:=w
 K:=K
 mg:=mg
 base:=base
 A:=A.deeper (envOfC qual scope s.heap.objs.size f cd)
 N:=N
 s₀:=s
 H₀:=H
 env:=envOfC qual scope s.heap.objs.size f cd
 outer:=outer
 stack:=envOfC qual scope s.heap.objs.size f cd::outer
 ex:=[]
 calm:=true
 fn:=fun _=>true
 pn:=[]
 xe:=fun e s'=>Sa (La P w) (A.deeper (envOfC qual scope s.heap.objs.size f cd)) (leaving (envOfC qual scope s.heap.objs.size f cd) e) (fun _ s''=>CX outer H s E e s'') (fun e' s''=>CX outer H s E e' s'') s'
theorem UT{sc: Scope}(h:sc.names.lookup x=some .cell): ∃c,(cellsFrom n sc.names []).lookup x=some c:=by
 have q:=PySem.W.cellsFrom_some sc.names n [] (.inl h);exact DP.mp q
theorem Zh7{CX:Lo}{P:Qc}{w:Xb}{K:ZmM}{mg:Str->Option Va}{base:Heap}{N ps:List Str}{qual:Str}{scope:Scope}{f:Ja}{cd:Va}{A:Qe}{outer:List Env}{s s1:Ha}{H:Hp}{E:XK}{us:LI3}{vs:List V}(S:Gc N ps scope)(hd:A.handled=none)(e0:O6 P w K mg base A outer s H)(hl:vs.length=ps.length)(r:Ub vs us)(x:InCallC s s.heap.objs.size (bindL (envOfC qual scope s.heap.objs.size f cd).kindOf (ps.zip us) fun _=>none) (cellsFrom (s.heap.objs.size+1) scope.names []) (bindC (envOfC qual scope s.heap.objs.size f cd).kindOf (ps.zip us) fun _=>none) s1) :
  Da (Ki CX P w K mg base N qual scope f cd A outer s H E) [] (Pj N vs) H s1:=by
 have hpl:ps.length<=N.length:=by have:=Wf List.length S.pre;rw[Ug] at this;lia
 obtain⟨h1,tk,rfl,hk⟩:=x.done;have noA:∀b:Ja,b ∉ (Ki CX P w K mg base N qual scope f cd A outer s H E).ex:=fun b z=>Gb (show b∈([]:LI2) from z) (by simp);refine⟨⟨e0.mod,S.kind,rfl,rfl,Cb _,fun y z c h1 h2=>?_,fun y hy=>?_,fun y c _ h=>?_,fun _=>hd,Around.frames_deeper e0.frames,.inr ⟨rfl,rfl⟩,fun b z=>Gb z (noA b),e0.bs,e0.bsz,fun b _ _=>noA b,fun b z=>Gb z (noA b),e0.funs,e0.frf,e0.tab⟩,
  rfl,e0.bare,Un.kept hk,⟨_,x.toInCall.ns,fun i y v h1 h2 h3=>?_⟩,fun y c h=>⟨_,x.cell y c h⟩,e0.hok.fresh (Cb _),fun y c h=>?_,fun p hp=>Gb (show p∈([]:List (Ja×Obj)) from hp) (by simp),e0.hok.kept hk, ?_⟩
 ·exact name_of_addr x.apart (PySem.mem_of_lookup h1) (PySem.mem_of_lookup h2)
 ·have hy:scope.names.lookup y=some .cell\/scope.names.lookup y=some .free:=hy
  rcases hy with hy|hy
  ·exact UT hy
  ·exact Gb rfl (S.nofree _ (PySem.mem_of_lookup hy))
 ·exact Tt (x.above y c (PySem.mem_of_lookup h))
 ·have hi:i<vs.length:=by
   unfold Pj at h2;by_cases hi:i<vs.length
   ·exact hi
   ·rw[Ei (by simpa using hi)] at h2
    rw[RO] at h2
    split at h2<;>cases h2
  have ha:vs[i]?=some v:=by
   unfold Pj at h2;rw[Pi (by simpa using hi),Cd] at h2;cases e:vs[i]? with
   |none=>rw[e] at h2;cases h2
   |some a=>rw[e] at h2;cases h2;rfl
  obtain⟨u,hu,rv⟩:=r.get ha;have hp:ps[i]?=some y:=by
   rw[<- S.pre,OE (by lia)];exact h1
  have ndP:ps.Nodup:=by rw[<- S.pre];exact S.nd.sublist (UP _ _)
  refine⟨u,rv, ?_⟩;rcases S.par y (Tc hp) with k|k
  ·exact .inl ⟨k,QS ndP hp hu k⟩
  ·obtain⟨c,e⟩:=UT (n:=s.heap.objs.size+1) k
   refine .inr ⟨.inl k,c,e, ?_⟩;have q:=x.cell y c e;rw[VS ndP hp hu (by show scope.names.lookup y≠_;rw[k];decide)] at q;exact q
 ·exact e0.hok.fresh (Tt (x.above y c (PySem.mem_of_lookup h)))
 ·unfold Pj
  show _=N.length;rw[Nh,Lb,SO];lia
theorem XI{CX:Lo}{P:Qc}{w:Xb}{K:ZmM}{mg:Str->Option Va}{base:Heap}{k:Nat}{f:Ja}{name qual:Str}{params:Arguments}{body:List Fb}{scope:Scope}{dV kV doc pm Ib ct oc:Va}{an od:Option Ja}{osl:Array (Option Va)}{N ps:List Str}{sp:Sp}(lk:K.lookup f=some ⟨oc,od,.func (PySem.W.fnOf name qual params body scope dV kV doc pm an Ib ct),osl⟩)(hcd:PySem.W.codeIn K Ib qual=true)(S:Gc N ps scope)(len:∀vs H Q E,sp vs H Q E->vs.length=ps.length)(hbody:∀(A:Qe) (outer:List Env) (s:Ha) (H:Hp) (vs:List V) (Q:VK) (E:XK),He k (A.deeper (envOfC qual scope s.heap.objs.size f Ib))->sp vs H Q E ->
   ∃t,Yg (Ki CX P w K mg base N qual scope f Ib A outer s H E) body t/\t { nx:=fun _ H'=>Q .non H',rt:=Q } (Pj N vs) H) :
  Yb P w K mg base CX (k+1) f (PySem.W.fnOf name qual params body scope dV kV doc pm an Ib ct) ps sp:=by
 refine⟨len,fun A outer s H args us vs Q E hr e0 hb r hsp=>?_⟩;have hl:=len _ _ _ _ hsp;have KX:K.In s.heap:=e0.mod.kin.keeps fun b o e=>(e0.bs b o e).1;have lim:s.heap.NoLimit:=e0.mod.nolimit.keeps fun b o e=>(e0.bs b o e).1;have hkind:∀y∈ps.zip us,scope.names.lookup y.1=some .local\/(scope.names.lookup y.1=some .cell/\((cellsFrom (s.heap.objs.size+1) scope.names []).lookup y.1).isSome=true):=fun⟨n,v⟩ hy=>by
  rcases S.par n (ZP hy).1 with q|q
  ·exact .inl q
  ·exact .inr ⟨q,PySem.W.cellsFrom_some _ _ _ (.inl q)⟩
 refine codeAny_call_function hr.depth (KX _ _ lk) rfl S.co S.gen rfl (PySem.W.codeRec_of KX hcd) (hb _ _ _ _ ?_);refine wpAny_newFunctionEnv_cells S.kind hkind fun env he s1 x=>?_;subst he;refine⟨lim.keeps x.toInCall.keep,codeAny_func ?_⟩;obtain⟨t,ht,hq⟩:=hbody A outer s H vs Q E (hr.deeper _) hsp;have I:Da (Ki CX P w K mg base N qual scope f Ib A outer s H E) [] (Pj N vs) H s1:=Zh7 S hr.hd e0 hl r x;refine Cf (ht [] s1 (Pj N vs) H _ I hq) (fun fl s' hs=>?_) fun e s' hs=>hs;have fin:∀{σ':St}{H':Hp}{v:V}{u:Va},Da (Ki CX P w K mg base N qual scope f Ib A outer s H E) [] σ' H' s'->Nb v u->Q v H'->CE outer P w H s Q u s':=
  fun {σ' H' v u} J rv q=>⟨v,H',J.os,J.bare,J.base,J.hok,rv,q⟩
 cases fl with
 |ret u =>
  obtain⟨v,σ',H',J,rv,q⟩:=hs;exact fin J rv q
 |next =>
  obtain⟨σ',H',J,q⟩:=hs;exact fin (v:=V.non) (u:=Value.none) J rfl q
 |brk =>
  obtain⟨_,_,_,q⟩:=hs;exact False.elim q
 |cont =>
  obtain⟨_,_,_,q⟩:=hs;exact False.elim q
section
variable {X:Cx}{x:Str}{p pos:Pos}{e:Expr}{es:List Expr}{t:TA}{id T:String}{r:List V->Hp->VK->Prop}
def Ci(r:List V->Hp->VK->Prop)(t:TA):TE:=fun σ H Q=>t σ H fun vs H1=>r vs H1 Q
theorem Lg(hc:Xf X (.builtin id) r)(hg:Gl X x)(hm:X.mg x=none)(hv:Fh x=some (.builtin id))(ha:PA X (e::es) t)(hn:x ≠ "__name__":=by decide)(hdb:(x==("__debug__":Str))=false:=by decide)(he:Ed (e::es) X.env=(false,eval e X.env)::Ed es X.env:=by rfl)(hpl:(Ti pos (Ed es X.env)).any (·.1)=false:=by rfl):PE X (.Call (.Name x p) (e::es) [] pos) (Ci r t):=by
 intro Za s σ H Q I h;refine Z1 (Yu I hg hm hv ?_ hn hdb);exact PyProof.Rows.callWith_builtin1 (Db (ha pos Za s σ H _ I h) fun us s1 ⟨vs,H1,I1,r1,q1⟩=>hc Za s1 σ H1 vs us Q I1 r1 q1) he hpl
theorem Pl(hc:Xf X (.type T) r)(hg:Gl X x)(hm:X.mg x=none)(hv:Fh x=some (.type T))(ha:PA X (e::es) t)(hn:x ≠ "__name__":=by decide)(hdb:(x==("__debug__":Str))=false:=by decide)(he:Ed (e::es) X.env=(false,eval e X.env)::Ed es X.env:=by rfl)(hpl:(Ti pos (Ed es X.env)).any (·.1)=false:=by rfl):PE X (.Call (.Name x p) (e::es) [] pos) (Ci r t):=by
 intro Za s σ H Q I h;refine Z1 (Yu I hg hm hv ?_ hn hdb);exact PyProof.Rows.callWith_type1 (Db (ha pos Za s σ H _ I h) fun us s1 ⟨vs,H1,I1,r1,q1⟩=>hc Za s1 σ H1 vs us Q I1 r1 q1) he hpl
end
end L2
namespace HT
open PySem PyProof.Rows
noncomputable def Jc:LI0->LI0->Bool
 |[],[]=>false
 |[],_::_=>true
 |_::_,[]=>false
 |x::xs,y::ys=>if x=y then Jc xs ys else decide (x<y)
theorem W3(x y:Int)(xs ys:LI0):Jc (x::xs) (y::ys)=if x=y then Jc xs ys else decide (x<y):=rfl
section
open PySem.SeqAt
open PySem.AutoSeq1 (wpAny_loadPart')
open PySem.MeetsSeq PySem.MeetsSeq2 PySem.MeetsSeq3
end
section
noncomputable def Lh(n d:Nat):Option Int->Nat
 |none=>d
 |some v=>if v<0 then (v+(n:Int)).toNat else min v.toNat n
end
end HT
namespace L2
open PySem PySem.Spec PyProof.Rows
abbrev TO:=St->Hp->(Option Int->Hp->Prop)->Prop
def PO(X:Cx)(e:Option Expr)(t:TO):Prop:=
 ∀(Za:List (Ja×Obj)) (s:Ha) (σ:St) (H:Hp) (Q:Option Int->Hp->Prop),Da X Za σ H s->t σ H Q ->
  Sa (La X.prog X.w) X.A (evalPart e X.env) (fun u s'=>∃o H',Da X Za σ H' s'/\IsPart u o/\Q o H') X.xe s
def ZaZ:TO:=fun _ H Q=>Q none H
def Zbd(t:TE):TO:=fun σ H Q=>t σ H fun x H1=>∃i,x=.int i/\Q (some i) H1
theorem Zh4: ∀{us:LI3},Ub (ns.map V.int) us->IntsAre us ns:=by
 induction ns with
 |nil=>intro us r;rw[Zw] at r;cases r;exact .nil
 |cons n ns ih =>
  intro us r;rw[Dd] at r;cases r with
  |cons r1 r2 =>
   obtain⟨t,e⟩:=r1;subst e;exact .cons n t (ih r2)
section
variable {X:Cx}{e:Expr}{te:TE}{lo hi:Option Expr}{tl th:TO}{pos p2:Pos}
theorem TL:PO X none ZaZ:=by
 intro Za s σ H Q I h;rw[evalPart_none];exact Mb ⟨none,H,I,.none,h⟩
theorem WL(h:PE X e te):PO X (some e) (Zbd te):=by
 intro Za s σ H Q I hw;rw[evalPart_some];refine Db (h Za s σ H _ I hw) fun u s1 ⟨x,H1,I1,r1,q1⟩=>?_;obtain⟨i,rfl,q⟩:=q1;obtain⟨t,rfl⟩:=r1;exact⟨some i,H1,I1,.int i t,q⟩
def IG(X:Cx)(r:V->Option Int->Option Int->Hp->VK->Prop):Prop:=
 ∀(Za:List (Ja×Obj)) (s:Ha) (σ:St) (H:Hp) (x:V) (v vl vu:Va) (lo hi:Option Int) (sl:Ja) (Q:VK),Da X Za σ H s->Nb x v->s.heap.IsSliceOf sl vl vu .none->IsPart vl lo->IsPart vu hi->r x lo hi H Q ->
  ∃T id,typeLookup (.type T) "__getitem__"=pure (some (.builtin id))/\s.TypeIs v T/\Sa (La X.prog X.w) X.A (getItem v (.ref sl)) (EP X Za σ Q) X.xe s
def tSl(r:V->Option Int->Option Int->Hp->VK->Prop)(te:TE)(tl th:TO):TE:=fun σ H Q=>te σ H fun x H1=>tl σ H1 fun l H2=>th σ H2 fun u H3=>r x l u H3 Q
theorem ML(hr:IG X r)(he:PE X e te)(hl:PO X lo tl)(hu:PO X hi th): PE X (.Subscript e (.Slice lo hi none p2) pos) (tSl r te tl th):=by
 intro Za s σ H Q I h;refine Subscript_ (Db (he Za s σ H _ I h) fun v s1 ⟨x,H1,I1,r1,q1⟩=>?_);refine wpAny_Slice (Db (hl Za s1 σ H1 _ I1 q1) fun vl s2 ⟨l,H2,I2,pl,q2⟩=>Db (hu Za s2 σ H2 _ I2 q2) fun vu s3 ⟨u,H3,I3,pu,q3⟩=>?_);rw[evalPart_none];refine Mb ?_;have I4:Da X Za σ H3 { s3 with heap:=s3.heap.push { cls:=.type "slice",data:=.fields #[vl,vu,.none] } }:=I3.kept (t':=s3.toks) fun b ob q=>Heap.get?_push_of_some _ q;obtain⟨T,id,hT,ht,hg⟩:=hr Za { s3 with heap:=s3.heap.push { cls:=.type "slice",data:=.fields #[vl,vu,.none] } } σ H3 x v vl vu l u s3.heap.objs.size Q I4 r1 (Heap.IsSliceOf.new ..) pl pu q3;show Sa (La X.prog X.w) X.A (subscriptTail e (.Slice lo hi none p2) v (.ref s3.heap.objs.size)) (EP X Za σ Q) X.xe { s3 with heap:=s3.heap.push { cls:=.type "slice",data:=.fields #[vl,vu,.none] } };exact tail_any (ops:=[.ref s3.heap.objs.size,v]) ht hT hg (by with_unfolding_all rfl)
noncomputable def Ww(xs:List V)(lo hi:Option Int):List V:=(xs.drop (HT.Lh xs.length 0 lo)).take (HT.Lh xs.length xs.length hi-HT.Lh xs.length 0 lo)
theorem Ze2(xs:List V)(lo hi:Option Int):(Ww xs lo hi).length<=xs.length:=by
 unfold Ww;rw[Ug,Ao];lia
end
noncomputable def Lj(n:Nat)(i:Int):Option Nat:=if 0<=i then (if i<n then some i.toNat else none) else if -(n:Int)<=i then some (i+n).toNat else none
def Ef{α:Type}(xs:List α)(i:Int):Option α:=(Lj xs.length i).bind fun j=>xs[j]?
theorem KJ{i: Int}(h:Lj n i=some j): seqIndex? i n=some j/\j<n/\-(n:Int)<=i/\i<n:=by
 unfold Lj at h;by_cases h0:0<=i
 ·rw[Ba h0] at h
  by_cases h1:i<n
  ·rw[Ba h1] at h
   have e:i.toNat=j:=Option.some.inj h;exact⟨by rw[seqIndex_of h0 h1,e],by lia,by lia,h1⟩
  ·rw[Aa h1] at h;cases h
 ·rw[Aa h0] at h
  by_cases h1:-(n:Int)<=i
  ·rw[Ba h1] at h
   have e:(i+n).toNat=j:=Option.some.inj h;exact⟨by rw[seqIndex_neg (by lia) h1,e],by lia,h1,by lia⟩
  ·rw[Aa h1] at h;cases h
theorem E7{i: Int}(h:Ef xs i=some v): ∃j,seqIndex? i xs.length=some j/\xs[j]?=some v/\j<xs.length/\-(xs.length:Int)<=i/\i<xs.length:=by
 unfold Ef at h;cases e:Lj xs.length i with
 |none=>rw[e] at h;cases h
 |some j =>
  rw[e] at h;obtain⟨h1,h2,h3,h4⟩:=KJ e;exact⟨j,h1,h,h2,h3,h4⟩
def JR(b:Expr):Prop:=∀o i,subscripted b false o i=operate [o,i] (getItem o i)
def Oo(X:Cx)(r:R2):Prop:=
 ∀(value slice:Expr) (Za:List (Ja×Obj)) (s:Ha) (σ:St) (H:Hp) (x y:V) (v u:Va) (Q:VK),Da X Za σ H s->Nb x v->Nb y u->r x y H Q ->
  subscripted slice false v u=operate [v,u] (getItem v u)->Sa (La X.prog X.w) X.A (subscriptTail value slice v u) (EP X Za σ Q) X.xe s
def MtR(X:Cx)(id:String)(r:V->List V->Hp->VK->Prop):Prop:=
 ∀(Za:List (Ja×Obj)) (s:Ha) (σ:St) (H:Hp) (x:V) (xs:List V) (v:Va) (us:LI3) (Q:VK),Da X Za σ H s->Nb x v->Ub xs us->r x xs H Q ->
  Sa (La X.prog X.w) X.A (call (.builtin id) (v::us)) (EP X Za σ Q) X.xe s
section
variable {X:Cx}{a b:Expr}{ta tb:TE}{pos:Pos}
theorem Oo.or(h:Oo X r)(h':Oo X r'): Oo X (fun x y H Q=>r x y H Q\/r' x y H Q):=by
 intro value slice Za s σ H x y v u Q I rx ry q hs;rcases q with q|q
 ·exact h value slice Za s σ H x y v u Q I rx ry q hs
 ·exact h' value slice Za s σ H x y v u Q I rx ry q hs
theorem Zk8{r:R2}(hr:Oo X r)(ha:PE X a ta)(hb:PE X b tb)(hs:JR b):PE X (.Subscript a b pos) (Ff r ta tb):=by
 intro Za s σ H Q I h;exact Subscript_ (VH ha hb I h fun v u s2 x y H2 I2 rx ry q=>hr a b Za s2 σ H2 x y v u Q I2 rx ry q (hs _ _))
def P4(K:ZmM):R2:=fun x y H Q=>∃p xs i v,x=.ref p/\y=.int i/\Uc K H p xs/\Ef xs i=some v/\Q v H
def TZ(K:ZmM):R2:=fun x y H Q=>∃p xs i v,x=.ref p/\y=.int i/\Re K H p xs/\Ef xs i=some v/\Q v H
def SZ:R2:=fun x y H Q=>∃z i c,x=.str z/\y=.int i/\z.length<=Rb/\Ef z.cps.toList i=some c/\Q (.str ⟨#[c]⟩) H
theorem ZhF:Oo X (P4 X.K):=by
 intro value slice Za s σ H x y v u Q I rx ry h hs;obtain⟨p,xs,i,z,rfl,rfl,hq,he,q⟩:=h;cases rx;obtain⟨t,rfl⟩:=ry;obtain⟨its,r,pl,hz⟩:=I.list hq;obtain⟨j,h1,h2,h3,h4,h5⟩:=E7 he;obtain⟨w,ew,rw'⟩:=r.get h2;have hl:=r.length;have hn:=Zv;have fin:EP X Za σ Q w s:=⟨z,H,I,rw',q⟩
 by_cases h0:0<=i
 ·have hj:i.toNat=j:=by
   rw[seqIndex_of h0 h5] at h1;exact Option.some.inj h1
  exact item_listR pl.isList h0 (by lia) (by rw[hj];simpa using ew) fin hs
 ·have hj:(i+(its.toArray.size:Int)).toNat=j:=by
   rw[seqIndex_neg (by lia) h4] at h1;rw[Ld,<- hl];exact Option.some.inj h1
  exact subscriptTail_builtinR (x:=w) pl.isList.typeIs slot_list_getitem.lookup
   (wpAny_getItem_list_neg (Q:=fun r s'=>r=w/\EP X Za σ Q r s') pl.isList (by lia) (by rw[Ld]<;>lia) (by lia) (by rw[hj];simpa using ew) ⟨rfl,fin⟩) hs
theorem ZhJ:Oo X (TZ X.K):=by
 intro value slice Za s σ H x y v u Q I rx ry h hs;obtain⟨p,xs,i,z,rfl,rfl,hq,he,q⟩:=h;cases rx;obtain⟨t,rfl⟩:=ry;obtain⟨its,r,pl,hz⟩:=I.tuple hq;obtain⟨j,h1,h2,h3,h4,h5⟩:=E7 he;obtain⟨w,ew,rw'⟩:=r.get h2;have hl:=r.length;have hn:=Zv;have fin:EP X Za σ Q w s:=⟨z,H,I,rw',q⟩
 exact subscriptTail_builtinR (x:=w) pl.typeIs slot_tuple_getitem.lookup
  (getItem_tuple (j:=j) (Q:=fun r s'=>r=w/\EP X Za σ Q r s') pl (by lia) (by lia) (by rw[Ld,<- hl];exact h1) (by simpa using ew) ⟨rfl,fin⟩) hs
theorem ZhI:Oo X SZ:=by
 intro value slice Za s σ H x y v u Q I rx ry h hs;obtain⟨z,i,c,rfl,rfl,hz,he,q⟩:=h;obtain⟨t,rfl⟩:=rx;obtain⟨t',rfl⟩:=ry;obtain⟨j,h1,h2,h3,h4,h5⟩:=E7 he;have hl:z.cps.toList.length=z.length:=by simp[Str.length]
 rw[hl] at h1 h4 h5;have hn:=Zv;exact tail_any (typeIs_str s z t) slot_str_getitem.lookup (getItem_str (c:=c) (by
  have e1:decide (i < -(2^63:Int))=false:=Tb (by lia);have e2:decide (i ≥ 2^63)=false:=Tb (by lia);rw[e1,e2,Bool.or_false]) (by rw[h1];simpa using h2) ⟨.str ⟨#[c]⟩,H,I.tok _,⟨_,rfl⟩,q⟩) hs
def Jt(K:ZmM):R2:=fun x y H Q=>P4 K x y H Q\/TZ K x y H Q\/SZ x y H Q
theorem ZhG:Oo X (Jt X.K):=ZhF.or (ZhJ.or ZhI)
theorem ZiT(its:LI3)(n j:Nat)(u:Va):Obj.mapSeq (·.setIfInBounds j u) { cls:=.type "list",data:=.seq its.toArray n }={ cls:=.type "list",data:=.seq (its.set j u).toArray n }:=by
 simp[Obj.mapSeq]
theorem Da.lst(I:Da X Za σ H s)(h:H p=some (.lst xs)):
  ∃(its:LI3) (n:Nat),Ub xs its/\s.heap.get? p=some { cls:=.type "list",data:=.seq its.toArray n }/\xs.length<=Rb:=by
 obtain⟨z,its,n,r,e⟩:=I.hok p _ h;exact⟨its,n,r,e,z⟩
theorem Da.lstUpd{s: Ha}{ys: List V}{its its': LI3}(I:Da X Za σ H s)(h:H p=some (.lst xs))(ho:s.heap.get? p=some { cls:=.type "list",data:=.seq its.toArray n })(hf:f { cls:=.type "list",data:=.seq its.toArray n }={ cls:=.type "list",data:=.seq its'.toArray n' })(r:Ub ys its')(hz:ys.length<=Rb)(t:Nat):
  Da X Za σ (upd H p (.lst ys)) { s with heap:=s.heap.update p f,toks:=t }:=by
 have e:(s.heap.update p f).get? p=some { cls:=.type "list",data:=.seq its'.toArray n' }:=by
  rw[Heap.get?_update_self f ho (by rw[hf]<;>rfl),hf]
 refine I.write (x:=p) (e:=p) (by rw[h];trivial) (.inl rfl) (fun b u hb q=>(Heap.get?_update_other _ _ (Ne.symm hb)).trans q) ⟨_,e⟩ ?_;exact⟨hz,its',n',r,e⟩
def QM:V->V->V->Hp->(Hp->Prop)->Prop:=fun o i v H Q=>∃p xs k j,o=.ref p/\i=.int k/\H p=some (.lst xs)/\Lj xs.length k=some j/\Q (upd H p (.lst (xs.set j v)))
theorem Qr:GG X QM:=by
 intro Za s σ H o i v ov iv u Q I ro ri rv h;obtain⟨p,xs,k,j,rfl,rfl,hp,hj,q⟩:=h;cases ro;obtain⟨t,rfl⟩:=ri;obtain⟨its,n,r,ho,hz⟩:=I.lst hp;obtain⟨h1,h2,h3,h4⟩:=KJ hj;have hl:=r.length;have hn:=Zv;have I':Da X Za σ (upd H p (.lst (xs.set j v))) { s with heap:=s.heap.update p (Obj.mapSeq (·.setIfInBounds j u)) }:=
  I.lstUpd hp ho (ZiT its n j u) (r.set rv j) (by rw[Nt];exact hz) s.toks
 by_cases h0:0<=k
 ·have hk:k.toNat=j:=by
   rw[seqIndex_of h0 h4] at h1;exact Option.some.inj h1
  exact PySem.W.ki_setAt ho h0 (by lia) (by rw[Ld,<- hl];exact h4) (by rw[hk];exact⟨_,I',q⟩)
 ·have hk:(k+(its.toArray.size:Int)).toNat=j:=by
   rw[seqIndex_neg (by lia) h3] at h1;rw[Ld,<- hl];exact Option.some.inj h1
  exact PySem.W.ki_setBack ho (by lia) (by rw[Ld,<- hl];exact h3) (by lia) (by rw[hk];exact⟨_,I',q⟩)
theorem Zl0(lo hi:Option Int)(n:Nat):(Uw lo hi none n).1=((HT.Lh n 0 lo:Nat):Int)/\(Uw lo hi none n).2.1=((HT.Lh n n hi:Nat):Int)/\(Uw lo hi none n).2.2=1:=by
 refine⟨?_, ?_,rfl⟩
 ·cases lo with
  |none=>simp[Uw,HT.Lh]
  |some i =>
   simp only[Uw,HT.Lh,Option.getD_none,show (1:Int)>0 by decide,if_true];by_cases h:i<0
   ·simp only[h,if_true]<;>lia
   ·simp only[h,if_false]<;>lia
 ·cases hi with
  |none=>simp[Uw,HT.Lh]
  |some i =>
   simp only[Uw,HT.Lh,Option.getD_none,show (1:Int)>0 by decide,if_true];by_cases h:i<0
   ·simp only[h,if_true]<;>lia
   ·simp only[h,if_false]<;>lia
theorem Zlz(its:LI3)(lo hi:Option Int):slicePick its.toArray lo hi none=((its.drop (HT.Lh its.length 0 lo)).take (HT.Lh its.length its.length hi-HT.Lh its.length 0 lo)).toArray:=by
 obtain⟨h1,h2,h3⟩:=Zl0 lo hi its.toArray.size;unfold slicePick;rw[h1,h2,h3];simp only[sliceRange_one,pick_run,Ld]<;>rfl
def BM(K:ZmM):V->Option Int->Option Int->Hp->VK->Prop:=fun x lo hi H Q=>∃a xs,x=.ref a/\Uc K H a xs/\∀p,H p=none->Q (.ref p) (upd H p (.lst (Ww xs lo hi)))
theorem Zly:IG X (BM X.K):=by
 intro Za s σ H x v vl vu lo hi sl Q I rx hs pl pu h;obtain⟨a,xs,rfl,hx,q⟩:=h;cases rx;obtain⟨its,r,ht,hz⟩:=I.list hx;have Ae:=r.length;refine⟨"list",_,slot_list_getitem.lookup,ht.isList.typeIs, ?_⟩;refine wpAny_getItem_list_slice ht.isList hs pl pu .none (by simp) ?_ (by rw[Ld]<;>lia);rw[Zlz,<- Ae];refine⟨.ref s.heap.objs.size,_,I.laid (t':=s.toks) (o:=.lst (Ww xs lo hi)) (fun b ob q=>Heap.get?_push_of_some _ q) (Cb _) ?_,rfl,q _ (I.hok.fresh (Cb _))⟩;exact⟨Oe (Ze2 xs lo hi) hz,_,0,(r.drop (HT.Lh xs.length 0 lo)).take (HT.Lh xs.length xs.length hi-HT.Lh xs.length 0 lo),Heap.get?_push_size _ rfl⟩
theorem Zej:Xf X (.builtin "len") (fun xs H Q=>∃p ys,xs=[.ref p]/\(Uc X.K H p ys\/Re X.K H p ys)/\Q (.int ys.length) H):=by
 intro Za s σ H xs us Q I r h;obtain⟨p,ys,rfl,hq,q⟩:=h;obtain⟨u,rfl,rx⟩:=Np r;cases rx;have hn:=Zv;rcases hq with hq|hq
 ·obtain⟨its,r',pl,hz⟩:=I.list hq
  have Ae:=r'.length;exact Calls.call_len_list pl.isList (by simp only[Ld]<;>lia) ⟨.int ys.length,H,I.tok _,⟨s.toks+1,by rw[Ld,Ae]⟩,q⟩
 ·obtain⟨its,r',pl,hz⟩:=I.tuple hq
  have Ae:=r'.length;exact len_tuple pl (by simp only[Ld]<;>lia) ⟨.int ys.length,H,I.tok _,⟨s.toks+1,by rw[Ld,Ae]⟩,q⟩
theorem Zem:Xf X (.type "list") (fun xs H Q=>∃p ys,xs=[.ref p]/\(Uc X.K H p ys\/Re X.K H p ys)/\∀l,H l=none->Q (.ref l) (upd H l (.lst ys))):=by
 intro Za s σ H xs us Q I r h;obtain⟨p,ys,rfl,hq,q⟩:=h;obtain⟨u,rfl,rx⟩:=Np r;cases rx;have fin:∀(its:LI3),Ub ys its->ys.length<=Rb->∀(h':Heap) (c':Nat),(∀b o',s.heap.get? b=some o'->h'.get? b=some o') ->
   h'.get? s.heap.objs.size=some { cls:=.type "list",dict:=none,data:=.seq its.toArray c',slots:=#[] }->EP X Za σ Q (.ref s.heap.objs.size) { s with heap:=h' }:=fun its r' hz h' c' kp e =>
  ⟨.ref s.heap.objs.size,_,I.laid (t':=s.toks) kp (Cb _) (show Df X.prog X.w _ h' _ (.lst ys) from ⟨hz,its,c',r',e⟩),rfl,q _ (I.hok.fresh (Cb _))⟩
 rcases hq with hq|hq
 ·obtain⟨its,r',pl,hz⟩:=I.list hq
  have Ae:=r'.length;obtain⟨o,ho,hc,n,hd⟩:=pl.isList;exact call_list_seq p (.inl rfl) ho hc hd (fun h' c' kp e=>fin its r' hz h' c' kp e) (by simp only[Ld]<;>lia)
 ·obtain⟨its,r',pl,hz⟩:=I.tuple hq
  have Ae:=r'.length;obtain⟨o,ho,hc,n,hd⟩:=pl;exact call_list_seq p (.inr rfl) ho hc hd (fun h' c' kp e=>fin its r' hz h' c' kp e) (by simp only[Ld]<;>lia)
theorem Zes:Xf X (.type "tuple") (fun xs H Q=>∃p ys,xs=[.ref p]/\((Uc X.K H p ys/\∀l,H l=none->Q (.ref l) (upd H l (.tup ys)))\/(Re X.K H p ys/\Q (.ref p) H))):=by
 intro Za s σ H xs us Q I r h;obtain⟨p,ys,rfl,h⟩:=h;obtain⟨u,rfl,rx⟩:=Np r;cases rx;rcases h with ⟨hq,q⟩|⟨hq,q⟩
 ·obtain⟨its,r',pl,hz⟩:=I.list hq
  have Ae:=r'.length;refine call_tuple_list pl.isList (fun h' kp=>?_) (by simp only[Ld]<;>lia);have I1:Da X Za σ H { s with heap:=h' }:=I.kept (t':=s.toks) kp;have I2:Da X Za σ (upd H h'.objs.size (.tup ys)) { s with heap:=h'.push { cls:=.type "tuple",data:=.seq its.toArray } }:=
   I1.laid (t':=s.toks) (fun b o e=>Heap.get?_push_of_some _ e) (Cb _) (show Df X.prog X.w _ _ _ (.tup ys) from ⟨hz,its,r',IsTup.new _ _⟩)
  exact⟨.ref h'.objs.size,_,I2,rfl,q _ (I1.hok.fresh (Cb _))⟩
 ·obtain⟨its,r',pl,hz⟩:=I.tuple hq
  exact call_tuple_same pl ⟨.ref p,H,I,rfl,q⟩
def tyV(K:ZmM)(T:String)(x:V)(H:Hp):Prop:=match x with
 |.str _=>T = "str"
 |.int _=>T = "int"
 |.ref p=>(T = "list"/\∃xs,Uc K H p xs)\/(T = "tuple"/\∃o,K.lookup p=some o/\o.cls=.type "tuple"/\o.dict=none) \/
   (T = "dict"/\((∃Ra,H p=some (.dK Ra))\/∃Ra,H p=some (.dT Ra)))\/(T = "set"/\∃S n,H p=some (.set S n))
 |_=>False
theorem Zmg(I:Da X Za σ H s)(r:Nb x v)(ty:tyV X.K T x H):
  s.TypeIs v T/\∀a,v=.ref a->∃ob,s.heap.get? a=some ob/\ob.dict=none:=by
 cases x with
 |str z =>
  obtain⟨t,rfl⟩:=r;cases (show T = "str" from ty);exact⟨typeIs_str s z t,fun _ e=>nomatch e⟩
 |int i =>
  obtain⟨t,rfl⟩:=r;cases (show T = "int" from ty);exact⟨typeIs_int s i t,fun _ e=>nomatch e⟩
 |ref p =>
  cases r;rcases ty with ⟨rfl,xs,hq⟩|⟨rfl,o,hk,hc,hd⟩|⟨rfl,hk⟩|⟨rfl,S,n,hk⟩
  ·obtain⟨its,_,pl,_⟩:=I.list hq
   refine⟨pl.isList.typeIs,fun a e=>?_⟩;cases e;obtain⟨o,n,e,c,hd,_⟩:=pl;exact⟨o,e,hd⟩
  ·refine⟨⟨o,I.kIn p o hk,hc⟩,fun a e=>?_⟩
   cases e;exact⟨o,I.kIn _ o hk,hd⟩
  ·have z:∃o,s.heap.get? p=some o/\o.ExactDict:=by
    rcases hk with ⟨Ra,hk⟩|⟨Ra,hk⟩
    ·obtain⟨_,_,_,_,o,_,_,e,ex,_⟩:=I.hok p _ hk
     exact⟨o,e,ex⟩
    ·obtain⟨_,_,_,_,o,_,_,e,ex,_⟩:=I.hok p _ hk
     exact⟨o,e,ex⟩
   obtain⟨o,e,ex⟩:=z;refine⟨⟨o,e,ex.1⟩,fun a e2=>?_⟩;cases e2;exact⟨o,e,ex.2.1⟩
  ·obtain⟨o,_,_,_,e,ex,_⟩:=I.hok p _ hk
   refine⟨⟨o,e,ex.1⟩,fun a e2=>?_⟩;cases e2;exact⟨o,e,ex.2.1⟩
 |_=>exact False.elim ty
def HN(K:ZmM)(T:String)(r:V->List V->Hp->VK->Prop)(to:TE)(t:TA):TE:=fun σ H Q=>to σ H fun x H1=>tyV K T x H1/\t σ H1 fun xs H2=>r x xs H2 Q
variable {o e:Expr}{es:List Expr}{to:TE}{t:TA}{name:Str}{apos cpos:Pos}{T id:String}{r:V->List V->Hp->VK->Prop}
theorem Gv(pa:PlainAttrs T)(slot:Slot T name id)(hty:typeOf (.builtin id)=pure (.type "method_descriptor"))(hm:MtR X id r)(ho:PE X o to)(ha:PA X (e::es) t)(hbase:attributeBase o name X.env (eval o X.env)=eval o X.env:=by rfl)(hfew:((Ti cpos (Ed (e::es) X.env)).all (fun x=>!x.1)&&(backToKw cpos (keywordEach [] X.env)).all (fun x=>x.1.isSome)
   && decide ((e::es).length+([]:List Keyword).length+(if ([]:List Keyword).isEmpty then 0 else 1)<30))=true:=by rfl)(hline:(apos.endLine==cpos.line)=true:=by rfl)(hs:Ed (e::es) X.env=(false,eval e X.env)::Ed es X.env:=by rfl)(hplain:(Ti cpos (Ed es X.env)).any (·.1)=false:=by rfl) :
  PE X (.Call (.Attribute o name apos) (e::es) [] cpos) (HN X.K T r to t):=by
 intro Za s σ H Q I h;refine wpAny_Call_method_late hbase hfew hline rfl (Db (ho Za s σ H _ I h) fun v s1 ⟨x,H1,I1,r1,ty,q1⟩=>?_);obtain⟨h1,h2⟩:=Zmg I1 r1 ty;refine⟨T,id,pa,slot,hty,h1,h2, ?_⟩;have hA:=ha cpos Za s1 σ H1 _ I1 q1;rw[hs] at hA ⊢;refine Calls.callWith_builtin (by show (false || (Ti cpos (Ed es X.env)).any (·.1))=false;rw[hplain]<;>rfl) (Calls.evalArgs_plain ?_);exact Db hA fun us s2 ⟨vs,H2,I2,r2,q2⟩=>hm Za s2 σ H2 x vs v us Q I2 r1 r2 q2
end
def WQ(X:Cx)(id:String)(r:V->List V->Hp->VK->Prop):Prop:=
 ∀(Za:List (Ja×Obj)) (s:Ha) (σ:St) (H:Hp) (x:V) (xs:List V) (v:Va) (us:LI3) (Q:VK),Da X Za σ H s->Nb x v->Ub xs us->r x xs H Q ->
  Sa (La X.prog X.w) X.A (call (.builtin id) (v::us)) (EP X Za σ Q) X.xe s
theorem Ub.one:∀{x:V}{us:LI3},Ub [x] us->∃u,us=[u]/\Nb x u
 |_,_,.cons r .nil=>⟨_,rfl,r⟩
theorem Ub.eraseIdx:∀{xs:List V}{us:LI3} (i:Nat),Ub xs us->Ub (xs.eraseIdx i) (us.eraseIdx i)
 |_,_,_,.nil=>.nil
 |_,_,0,.cons _ t=>t
 |_,_,i+1,.cons r t=>.cons r (Ub.eraseIdx i t)
theorem Ub.rep(h:Ub xs us): ∀k:Nat,Ub (List.replicate k xs).flatten (List.replicate k us).flatten
 |0=>.nil
 |k+1=>by
  rw[Rt,Rt,Pz,Pz];exact Ub.append h (Ub.rep h k)
theorem JX: ∀(l:List α) (i:Nat),(l.eraseIdx i).length<=l.length
 |[],_=>Cb _
 |_::_,0=>Wt _
 |_::r,i+1=>Nat.succ_le_succ (JX r i)
theorem JJ(its:LI3):∀(k:Nat) (acc:LI3),
  List.foldl (fun x1 x2=>x1++x2) acc.toArray (List.replicate k its.toArray)=(acc++(List.replicate k its).flatten).toArray
 |0,acc=>by simp
 |k+1,acc=>by
  have e:acc.toArray++its.toArray=(acc++its).toArray:=by simp
  have e2:(acc++its)++(List.replicate k its).flatten=acc++(List.replicate (k+1) its).flatten:=by
   rw[Rt,Pz,Hf]
  rw[<- e2,<- JJ its k (acc++its),<- e,Rt,LO]
section
variable {X:Cx}{Za:List (Ja×Obj)}{σ:St}{H:Hp}{s:Ha}{l:Ja}{xs ys:List V}
theorem Da.lset{its its': LI3}(I:Da X Za σ H s)(hH:H l=some (.lst xs))(e:s.heap.get? l=some { cls:=.type "list",data:=.seq its.toArray n })(hf:f its.toArray=its'.toArray)(hv:Ub ys its')(hz:ys.length<=Rb):
  Da X Za σ (upd H l (.lst ys)) { s with heap:=s.heap.update l (Obj.mapSeq f),toks:=t' }:=by
 have q:=PySem.IsL.update e f;rw[hf] at q;refine I.write (x:=l) (e:=l) (by rw[hH];exact trivial) (.inl rfl) (fun b' u hb hu=>(Heap.get?_update_other s.heap (Obj.mapSeq f) (Ne.symm hb)).trans hu) ⟨_,q⟩ ?_;exact⟨hz,its',_,hv,q⟩
theorem Da.lnew(I:Da X Za σ H s)(hv:Ub ys its)(hz:ys.length<=Rb):
  Da X Za σ (upd H s.heap.objs.size (.lst ys)) { s with heap:=s.heap.push { cls:=.type "list",data:=.seq its.toArray },toks:=t' }:=
 I.laid (fun _ _ q=>Heap.get?_push_of_some _ q) (Cb _) ⟨hz,its,0,hv,Heap.get?_push_size _ rfl⟩
theorem Da.fresh(I:Da X Za σ H s):H s.heap.objs.size=none:=I.hok.fresh (Cb _)
theorem Da.lstM(I:Da X Za σ H s)(hH:H l=some (.lst xs)):xs.length<=Rb/\∃(its:LI3) (n:Nat),Ub xs its/\xs.length=its.length/\s.heap.get? l=some { cls:=.type "list",data:=.seq its.toArray n }:=by
 obtain⟨z,its,n,r,e⟩:=I.hok l _ hH;exact⟨z,its,n,r,r.length,e⟩
theorem ZY(h:n<=Rb): Builtin.List.listTooLong n=false:=by
 unfold Builtin.List.listTooLong;exact Tb (by lia)
end
section
variable {X:Cx}
def NZ:V->List V->Hp->VK->Prop:=fun x vs H Q=>∃l xs y,x=.ref l/\vs=[y]/\H l=some (.lst xs)/\xs.length<Rb/\Q .non (upd H l (.lst (xs++[y])))
theorem Wx:WQ X "list.append" NZ:=by
 intro Za s σ H x vs v us Q I rx rv h;obtain⟨l,xs,y,rfl,rfl,hH,hz,q⟩:=h;cases rx;obtain⟨u,rfl,ru⟩:=rv.one;obtain⟨z,its,n,r,hl,e⟩:=I.lstM hH;refine Q0 F.slot_list_append ⟨_,e,rfl⟩ F.entry_list_append (F.args_list_append_2 _ _) (PySem.list_append l its.toArray n u (by rw[Ld];lia)) ⟨e, ?_⟩;refine⟨.non,_,I.lset (its':=its++[u]) hH e (by simp) (r.append (.cons ru .nil)) ?_,rfl,q⟩;rw[Nh,List.length_singleton];lia
def XZ:V->List V->Hp->VK->Prop:=fun x vs H Q=>∃l xs i k y,x=.ref l/\vs=[.int i]/\H l=some (.lst xs)/\-(2^63)<=i/\i<2^63/\seqIndex? i xs.length=some k/\xs[k]?=some y/\Q y (upd H l (.lst (xs.eraseIdx k)))
theorem Zjh:WQ X "list.pop" XZ:=by
 intro Za s σ H x vs v us Q I rx rv h;obtain⟨l,xs,i,k,y,rfl,rfl,hH,h1,h2,hk,hy,q⟩:=h;cases rx;obtain⟨u,rfl,ru⟩:=rv.one;obtain⟨t,rfl⟩:=ru;obtain⟨z,its,n,r,hl,e⟩:=I.lstM hH;obtain⟨w,hw,rw'⟩:=r.get hy;refine Q0 F.slot_list_pop ⟨_,e,rfl⟩ F.entry_list_pop (F.args_list_pop_2 _ _)
  (MeetsSeq.list_pop_at l its.toArray n i t k w (fitsIndex_both h1 h2) (by rw[Ld,<- hl];exact hk) (by rw[<- Ah];exact hw) (by rw[Ld];lia)) ⟨e, ?_⟩
 refine⟨y,_,I.lset (its':=its.eraseIdx k) hH e ?_ (r.eraseIdx k) ?_,rw',q⟩
 ·show its.toArray.eraseIdxIfInBounds k=(its.eraseIdx k).toArray
  rw[List.eraseIdxIfInBounds_toArray]
 ·have:=JX xs k
  lia
def YZ:R2:=fun x y H Q=>∃l k xs,x=.ref l/\y=.int k/\H l=some (.lst xs)/\-(2^63)<=k/\k<2^63/\xs.length*k.toNat<=Rb /\
 ∀p,H p=none->Q (.ref p) (upd H p (.lst (List.replicate k.toNat xs).flatten))
theorem I9(xs:List α)(k:Nat): (List.replicate k xs).flatten.length=k*xs.length:=by
 induction k with
 |zero=>simp
 |succ k ih=>rw[Rt,Pz,Nh,ih,Nat.succ_mul,Nat.add_comm]
theorem QA:Cg X (Wp .Mult) YZ:=by
 intro Za s σ H x y v u Q I rx ry h;obtain⟨l,k,xs,rfl,rfl,hH,h1,h2,hz,q⟩:=h;cases rx;obtain⟨t,rfl⟩:=ry;obtain⟨z,its,n,r,hl,e⟩:=I.lstM hH;have Ae:its.toArray.size*k.toNat<=Rb:=by rw[Ld,<- hl];exact hz
 have hcap:¬its.toArray.size*k.toNat>(2^63-1)/8:=by
  have:(Rb:Nat)<=(2^63-1)/8:=by decide
  lia
 have hfit:¬(!Builtin.List.listFitsIndex k)=true:=by
  rw[fitsIndex_both h1 h2];exact Bool.false_ne_true
 have hlong:¬Builtin.List.listTooLong (its.toArray.size*k.toNat)=true:=by
  rw[ZY Ae];exact Bool.false_ne_true
 have hnew:List.foldl (fun x1 x2=>x1++x2) #[] (List.replicate (if its.toArray.isEmpty=true then 0 else k.toNat) its.toArray)=(List.replicate k.toNat its).flatten.toArray:=by
  have f0:∀m:Nat,List.foldl (fun x1 x2=>x1++x2) #[] (List.replicate m its.toArray)=(List.replicate m its).flatten.toArray:=fun m=>by
   have:=JJ its m [];rw[Ot] at this;exact this
  rw[f0];cases its with
  |nil=>simp
  |cons a r'=>rw[Aa (by simp)]
 refine ZbO (T := "list") (U := "int") (by decide) ⟨_,e,rfl⟩ (fun s'=>typeIs_int s' k t) noFill_list_mul F.fills_int_mul F.slot_int_rmul repeat_list F.slot_int_index.lookup
  (Q0 F.slot_int_rmul (typeIs_int s k t) F.entry_int_rmul (F.args_int_rmul_2 _ _) (int___rmul___int_list k t l its.toArray n)
   ⟨e,rfl,⟨_,e,rfl⟩,Q0 F.slot_list_mul ⟨_,e,rfl⟩ F.entry_list_mul (F.args_list_mul_2 _ _) (AutoListH.list___mul___list_int_3 l its.toArray n k t hfit hcap hlong) ⟨e, ?_⟩⟩)
 rw[hnew];exact⟨.ref _,_,I.lnew (t':=s.toks) (r.rep k.toNat) (by rw[I9,Nat.mul_comm];exact hz),rfl,q _ I.fresh⟩
end
end L2
namespace Att
open PySem PySem.W PySem.Calls PyProof.Rows
theorem Zh6: ∀(ns:LI0) (vs:LI3),WellAll P h vs (ns.map WData.int)->IntsAre vs ns:=by
 intro ns
 induction ns with
 |nil =>
  intro vs w;rw[Zw] at w;cases w;exact .nil
 |cons n ns ih =>
  intro vs w;rw[Dd] at w;cases w with
  |cons a b =>
   cases a;exact .cons _ _ (ih _ b)
theorem Zlu{l: OpenLaw}(hn:l.most=some n){h: Heap}(hpre:l.row.toRowW.claim.pre args=true)(hwl:WellAll P h vals args):
  ∃a vs ns,vals=[Value.ref a]/\args=[WData.list (ns.map WData.int)]/\h.get? a=some { cls:=.type "list",data:=.seq vs.toArray }/\IntsAre vs ns/\ns.length<=n:=by
 have hsh:WShape.hasAll [] args [.list .int]=true:=(pre_splitW hpre).1;have hc:l.pre.holds [] { args:=args }=true:=(pre_splitW hpre).2;obtain⟨d,r,rfl,h1,h2⟩:=hasAllW_cons hsh;obtain rfl:=hasAllW_nil h2;obtain⟨xs,rfl,h3⟩:=hasW_list h1;obtain⟨ns,rfl⟩:=items_int h3;have Ae:ns.length<=n:=by
  unfold OpenLaw.pre at hc;have h4:(WTm.not (.lt (.lit (.int (n:Int))) (.len (.arg 0)))).holds [] { args:=[.list (ns.map .int)] }=true:=by
   have h4:=(holds_andW hc).1;rw[hn] at h4;exact h4
  have h5:=condW_of h4 (w_not (w_lt w_lit (w_len_list (w_arg rfl))));rw[Lb] at h5;refine Nat.le_of_not_lt fun q=>?_;have q':(n:Int)<((ns.length:Nat):Int):=by lia
  first
   |(rw[Hb q'] at h5;exact Gb h5 (by decide))
   |(simp at h5;lia)
 cases hwl with
 |cons w1 w2 =>
  cases w2;cases w1 with
  |list ho hall=>exact⟨_,_,ns,rfl,rfl,ho,Zh6 ns _ hall,Ae⟩
theorem ZkL(l:OpenLaw)(args:List WData):l.row.toRowW.claim.post args (.bool true) args=true:=
 postW_of (r:=l.row.toRowW) (X:=(true==true))
  (show WShape.has [] (.bool true) .bool=true by first|rfl|decide|simp[WShape.has,WShape.arms,WShape.armsAll])
  (show (WTm.eq .res (.lit (.bool true))).value [] { args:=args,res:=some (.bool true),after:=args }=some (.bool (true==true)) from w_eq_bool (w_res rfl) w_lit) rfl
theorem ZcS{l: OpenLaw}{d: DefRec}(hn:l.most=some n)(hdf:d.params.defaults=[])(call:∀(w:Xb) (s₀ s₁:Ha) (mg mb:Str->Option Va) (fa:Ja) (o:Obj) (pm cd doc:Va) (a:Ja) (vs:LI3) (ns:LI0),
   Ground q loose [] XP w s₀ mg mb s₁.heap->YP w s₁.heap ->
   s₁.heap.get? fa=some o->o.data=.func (docDef d.name d.params d.body d.scope pm cd doc)->s₁.heap.CodeRec cd d.name->mg d.name=some (.ref fa) ->
   s₁.heap.get? a=some { cls:=.type "list",data:=.seq vs.toArray }->IntsAre vs ns->ns.length<=n->s₁.gens=#[] ->
   codeAny (La l.prog w) callerA (.call (.ref fa) ⟨[.ref a],[]⟩) (fun r s'=>r=.ok (.ret (.bool true))/\OldK s₁.heap s'.heap/\s'.os=s₁.os/\AllBare s'.gens) s₁):
  WalkO q loose XP YP l.row.toRowW d [] (fun f vs=>PySem.call f vs):=by
 intro w s₀ s₁ mg mb G Y fa o pm cd doc dV kV ho hd hcd hD hmg hg args vals as hpre hlay hrd hwl hlo;obtain rfl:dV=.none:=Dflts.none hD hdf;obtain rfl:kV=.none:=Dflts.noKw hD;obtain⟨a,vs,ns,rfl,rfl,hobj,hints,Ae⟩:=Zlu hn hpre hwl;refine enter_call (codeAny_mono (call w s₀ s₁ mg mb fa o pm cd doc a vs ns G Y ho (fd_plain hd) hcd hmg hobj hints Ae hg) fun r s' hq=>?_);obtain⟨rfl,h2,h3,h4⟩:=hq;exact⟨.inl ⟨.bool true,.bool true,[],rfl,fun _=>rfl,.bool true,ZkL l _,fun _=>⟨List.Pairwise.nil,fun _ hm=>(nomatch hm)⟩⟩,h2,h3,h4⟩
section
end
end Att
namespace L2
open PySem PySem.Spec PyProof.Rows
theorem Zbz:∀{vs:LI3}{ns:LI0},IntsAre vs ns->Ub (ns.map V.int) vs
 |_,_,.nil=>.nil
 |_,_,.cons n t h=>.cons ⟨t,rfl⟩ (Zbz h)
def JG(K:ZmM)(h:Heap):Prop:=∀f c P,Mj K f=some (c,P)->h.get? P=some (PySem.W.tabObj #[])/\K.lookup P=none
theorem XW{K:ZmM}{f c P:Ja}(h:Mj K f=some (c,P)):PySem.W.codeHdIn K c P=true:=by
 unfold Mj at h
 repeat' split at h
 all_goals first|cases h;done|skip
 rename_i hd;cases h;exact hd
open Classical in
theorem Zio{P:Qc}{w:Xb}{K:ZmM}{mg mb:Str->Option Va}{CX:Lo}{k:Nat}{fa a:Ja}{fd:Dl}{x:Str}{sp:Sp}{s₁:Ha}{vs:LI3}{ns:LI0}(KX:K.In s₁.heap)(hns:s₁.heap.Ns Pg mg)(hb:s₁.heap.Ns builtinsNs mb)(hbb:∀x:Str,x ≠ "__name__"->mb x=Fh x)(hlim:s₁.heap.NoLimit)(hbm:IF mg s₁.heap)(hL:JG K s₁.heap)(hg:s₁.gens=#[])(ha:s₁.heap.get? a=some { cls:=.type "list",data:=.seq vs.toArray })(hi:IntsAre vs ns)(hl:ns.length<=Rb)(hr:He k callerA)(F:∀base:Heap,K.In base->base.Ns Pg mg->Yb P w K mg base CX k fa fd [x] sp)(hbind:∀(s:Ha) (u:Va),BindsTo s fd ⟨[u],[]⟩ [(x,u)])(hsp:∀H:Hp,Uc K H a (ns.map V.int)->sp [.ref a] H (fun v _=>v=.bl true) fun _ _ _=>False)(hCX:∀H e s',CX [] H s₁ (fun _ _ _=>False) e s'->False) :
  codeAny (La P w) callerA (.call (.ref fa) ⟨[.ref a],[]⟩) (fun r s'=>r=.ok (.ret (.bool true))/\OldK s₁.heap s'.heap/\s'.os=s₁.os/\AllBare s'.gens) s₁:=by
 have rv:=Zbz hi;have lenV:=hi.length;generalize hH:(fun b=>if (∃f c,Mj K f=some (c,b)) then some (HO.tbl #[] "ends_first.<locals>.<lambda>") else if b=a/\K.lookup a=none then some (.frz { cls:=.type "list",data:=.seq vs.toArray } (.lst (ns.map V.int))) else none:Hp)=H;have tabP:∀{b},(∃f c,Mj K f=some (c,b))->s₁.heap.get? b=some (PySem.W.tabObj #[])/\K.lookup b=none/\PySem.isCodeTable s₁.heap b:=fun {b} e=>by
  obtain⟨f0,c,q⟩:=e;obtain⟨h1,h2⟩:=hL f0 c b q;exact⟨h1,h2,((PySem.W.codeHd_of_K KX (XW q)).tab h1).isCodeTable⟩
 have at_tab:∀{b},(∃f c,Mj K f=some (c,b))->H b=some (.tbl #[] "ends_first.<locals>.<lambda>"):=fun {b} e=>by subst hH;exact Ba e
 have at_a:K.lookup a=none->H a=some (.frz { cls:=.type "list",data:=.seq vs.toArray } (.lst (ns.map V.int))):=fun e=>by
  subst hH;refine(Aa fun z=>?_).trans (Ba ⟨rfl,e⟩);have:=(tabP z).1;rw[ha] at this;cases this
 have cases_H:∀b u,H b=some u->((∃f c,Mj K f=some (c,b))/\u=.tbl #[] "ends_first.<locals>.<lambda>")\/(b=a/\K.lookup a=none/\u=.frz { cls:=.type "list",data:=.seq vs.toArray } (.lst (ns.map V.int))):=fun b u e=>by
  subst hH;dsimp only at e
  split at e
  ·rename_i z;exact .inl ⟨z,(Option.some.inj e).symm⟩
  ·split at e
   ·rename_i z;exact .inr ⟨z.1,z.2,(Option.some.inj e).symm⟩
   ·cases e
 have hS:Uc K H a (ns.map V.int):=by
  cases hk:K.lookup a with
  |some o =>
   have e:=KX a o hk;rw[ha] at e;cases e;exact .inr ⟨_,vs.toArray,_,hk,rfl,rfl,rfl,by rw[Ld,lenV];exact hl,by simpa using rv⟩
  |none=>exact .inl (.inr ⟨_,at_a hk⟩)
 have hok:Pe P w H s₁.heap:=fun b u e=>by
  rcases cases_H b u e with ⟨z,rfl⟩|⟨rfl,_,rfl⟩
  ·exact⟨#[],(tabP z).1,trivial,fun pos c' q=>by cases q⟩
  ·exact⟨ha,by rw[Lb];exact hl,vs,_,rv,ha⟩
 have base_of:∀{b:Ja}{o:Obj},s₁.heap.get? b=some o->H b=none->(Iq s₁.heap H).get? b=some o:=fun e n=>Zhy e n;have noA:∀{b:Ja}{o:Obj},s₁.heap.get? b=some o->(∀xs n,o.data≠.seq xs n)->(∀xs,o.data≠.fields xs)->H b=none:=fun {b o} e d1 d2=>by
  cases q:H b with
  |none=>rfl
  |some u =>
   rcases cases_H b u q with ⟨z,_⟩|⟨z,_,_⟩
   ·have:=(tabP z).1
    rw[e] at this;cases this;exact Gb rfl (d2 _)
   ·subst z
    rw[ha] at e;cases e;exact Gb rfl (d1 _ _)
 have nsK:∀{b:Ja}{m:Str->Option Va},s₁.heap.Ns b m->(Iq s₁.heap H).Ns b m:=fun {b m} ⟨o,es,ep,e,d,r⟩=>⟨o,es,ep,base_of e (noA e (fun _ _ z=>by rw[d] at z;cases z) (fun _ z=>by rw[d] at z;cases z)),d,r⟩
 have hKb:K.In (Iq s₁.heap H):=fun b o e=>base_of (KX b o e) (by
  cases q:H b with
  |none=>rfl
  |some u =>
   rcases cases_H b u q with ⟨z,_⟩|⟨rfl,z,_⟩
   ·rw[(tabP z).2.1] at e;cases e
   ·rw[z] at e;cases e)
 have hM:Mod K mg (Iq s₁.heap H):=⟨hKb,nsK hns,⟨mb,nsK hb,hbb⟩,let ⟨mc,h1,h2⟩:=hlim;⟨mc,nsK h1,h2⟩,by
  obtain⟨bm,o,b1,b2,b3,b4,b5,b6⟩:=hbm;exact⟨bm,o,b1,b2,base_of b3 (noA b3 (fun _ _ z=>by rw[b6] at z;cases z) (fun _ z=>by rw[b6] at z;cases z)),b4,b5,b6⟩⟩
 have e0:O6 P w K mg (Iq s₁.heap H) callerA [] s₁ H:=⟨rfl,hM,fun b o e=>Zjs e,C6 (Zhz _ _),trivial,fun b hb=>Gb (show b∈([]:LI2) from hb) (by simp),hok,.of_eq hg,fun f0 c P0 q=>at_tab ⟨f0,c,q⟩⟩
 refine codeAny_mono ((F _ hKb (nsK hns)).run callerA [] s₁ H ⟨[.ref a],[]⟩ [.ref a] [.ref a] _ _ hr e0 (hbind s₁ (.ref a)) (.cons rfl .nil) (hsp H hS)) fun r s' h=>?_
 match r,h with
 |.error e,h=>exact(hCX H e s' h).elim
 |.ok (.ret u),h =>
  obtain⟨v,H',os,bare,un,hok',r',q⟩:=h;have q':v=.bl true:=q;subst q';obtain rfl:u=Value.bool true:=r';have old:∀b o,s₁.heap.get? b=some o->PySem.asItWas s₁.heap s'.heap b o/\∃o',s'.heap.get? b=some o':=fun b o e=>by
   cases q:H b with
   |none =>
    have:=un.keep b o e q (by intro z;exact Gb (show b∈([]:LI2) from z) (by simp)) (by simp);exact⟨.inl this,_,this⟩
   |some u =>
    rcases cases_H b u q with ⟨z,rfl⟩|⟨rfl,_,rfl⟩
    ·obtain⟨more,e2,_⟩:=hok' b _ (un.tbls b _ _ q)
     obtain⟨t1,_,t2⟩:=tabP z;rw[e] at t1;cases t1;exact⟨.inr (.inl ⟨t2,rfl,#[],more,rfl,e2⟩),_,e2⟩
    ·obtain⟨e1,_⟩:=hok b _ q
     obtain⟨e2,_⟩:=hok' b _ (un.frzs b _ _ q);rw[e] at e1;cases e1;exact⟨.inl e2,_,e2⟩
  exact⟨rfl,⟨fun b o e=>(old b o e).1,fun b o e=>(old b o e).2⟩,os,bare⟩
noncomputable abbrev PQ{K:ZmM}{h:Heap}(_:K.In h):ZmM:=K
theorem Zd3(T:PyProof.Rows.Top p loose mean mg mb h): IF mg h:=let ⟨bm,ob,a,b,c,d,e,f⟩:=T.bmain;⟨bm,ob,a,b,c,d,e,f⟩
theorem Zmp{l: PySem.W.OpenLaw}{n k: Nat}{XP: (Str->Option Va)->Heap->Prop}{YP: Xb->Heap->Prop}{d: DefRec}{K: Params->ZmM}{sp: ZmM->Sp}{x: Str}(hn:l.most=some n)(hn2:n<=Rb)(hdf:d.params.defaults=[])(hr:He k callerA)(hY:∀(w:Xb) (h:Heap),YP w h->(K w.params).In h/\JG (K w.params) h)(F:∀(w:Xb) (mg:Str->Option Va) (fa:Ja) (h:Heap),(K w.params).In h->h.Ns Pg mg->mg d.name=some (.ref fa) ->
   ∃fd:Dl,(∀(s:Ha) (u:Va),BindsTo s fd ⟨[u],[]⟩ [(x,u)]) /\
    ∀base:Heap,(K w.params).In base->base.Ns Pg mg->Yb l.prog w (K w.params) mg base CX k fa fd [x] (sp (K w.params)))(hsp:∀(K:ZmM) (H:Hp) (a:Ja) (ns:LI0),ns.length<=n->Uc K H a (ns.map V.int)->sp K [.ref a] H (fun v _=>v=.bl true) fun _ _ _=>False)(hCX:∀(H:Hp) (s:Ha) (e:Va) (s':Ha),CX [] H s (fun _ _ _=>False) e s'->False):
  PySem.W.WalkO q loose XP YP l.row.toRowW d [] (fun f vs=>PySem.call f vs):=by
 refine Att.ZcS hn hdf fun w s₀ s₁ mg mb fa o pm cd doc a vs ns G Y ho hd hcd hmg hobj hints Ae hg=>?_;obtain⟨KX,LX⟩:=hY w _ Y;obtain⟨fd,hb,hF⟩:=F w mg fa _ KX G.T.g hmg;exact Zio KX G.T.g G.T.b G.T.builtins G.T.nolimit (Zd3 G.T) LX hg hobj hints (Oe Ae hn2) hr hF hb (fun H hS=>hsp (K w.params) H a ns Ae hS) fun H e s'=>hCX H s₁ e s'
noncomputable def U9(s:Fb)(j:Nat):Fb:=match s with
 |.ClassDef _ _ _ body _ _ _ _ _ _ _=>body.getD j (.Pass ⟨0,0,0,0⟩)
 |_=>.Pass ⟨0,0,0,0⟩
noncomputable def Ou(s:Fb):Arguments:=match s with
 |.FunctionDef _ a _ _ _ _ _ _ _ _=>a
 |_=>{ posonlyargs:=[],args:=[],vararg:=none,kwonlyargs:=[],kw_defaults:=[],kwarg:=none,defaults:=[] }
noncomputable def Bm(s:Fb):List Fb:=match s with
 |.FunctionDef _ _ b _ _ _ _ _ _ _=>b
 |_=>[]
noncomputable def Ob(s:Fb):Scope:=match s with
 |.FunctionDef _ _ _ _ _ _ sc _ _ _=>sc
 |_=>{ kind:=.function,names:=[],isGenerator:=false,isCoroutine:=false }
abbrev Ic:Lo:=fun _ _ _ _ _ _=>False
abbrev E0:XK:=fun _ _ _=>False
theorem GL: Y6 Ic X E0:=fun _ _ _ _ _ _ _ h=>h.elim
structure Zc(K:ZmM)(x qual:Str)(st:Fb)(f:Ja)(fd:Dl):Prop where
 ex:∃(oc:Va) (od:Option Ja) (kV doc pm:Va) (an:Option Ja) (Ib ct:Va) (osl:Array (Option Va)),
  fd=PySem.W.fnOf x qual (Ou st) (Bm st) (Ob st) .none kV doc pm an Ib ct/\K.lookup f=some ⟨oc,od,.func fd,osl⟩/\PySem.W.codeIn K Ib qual=true
 kp:PySem.W.keepIn K (.ref f)=true
section
variable {P:Qc}{w:Xb}{K:ZmM}{mg:Str->Option Va}{base:Heap}
theorem Zc.ok{x qual:Str}{st:Fb}{f:Ja}{fd:Dl}{N ps:List Str}{k:Nat}{sp:Sp}(F:Zc K x qual st f fd)(S:Gc N ps (Ob st))(len:∀vs H Q E,sp vs H Q E->vs.length=ps.length)(hbody:∀(Ib:Va) (A:Qe) (outer:List Env) (s:Ha) (H:Hp) (vs:List V) (Q:VK) (E:XK),He k (A.deeper (envOfC qual (Ob st) s.heap.objs.size f Ib))->sp vs H Q E ->
   ∃t,Yg (Ki Ic P w K mg base N qual (Ob st) f Ib A outer s H E).nox (Bm st) t/\t { nx:=fun _ H'=>Q .non H',rt:=Q } (Pj N vs) H):Yb P w K mg base Ic (k+1) f fd ps sp:=by
 obtain⟨oc,od,kV,doc,pm,an,Ib,ct,osl,rfl,lk,hcd⟩:=F.ex;refine XI lk hcd S len fun A outer s H vs Q E hr hsp=>?_;obtain⟨t,h,q⟩:=hbody Ib A outer s H vs Q E hr hsp;exact⟨t,h.nox,q⟩
theorem Zc.binds{x qual:Str}{st:Fb}{f:Ja}{fd:Dl}{ps:List Str}(F:Zc K x qual st f fd)(h:∀(kV doc pm:Va) (an:Option Ja) (Ib ct:Va) (us:LI3),us.length=ps.length->bindArgs (PySem.W.fnOf x qual (Ou st) (Bm st) (Ob st) .none kV doc pm an Ib ct) ⟨us,[]⟩=pure (ps.zip us)):Vq K fd ps []:=by
 obtain⟨oc,od,kV,doc,pm,an,Ib,ct,osl,rfl,lk,hcd⟩:=F.ex;exact .all (h kV doc pm an Ib ct)
theorem HV{x qual:Str}{st:Fb}{f:Ja}{oc:Va}{od an:Option Ja}{osl:Array (Option Va)}{kV doc pm Ib ct:Va}(l:K.lookup f=some ⟨oc,od,.func (PySem.W.fnOf x qual (Ou st) (Bm st) (Ob st) .none kV doc pm an Ib ct),osl⟩)(c:PySem.W.codeIn K Ib qual=true)(k:PySem.W.keepIn K (.ref f)=true):Zc K x qual st f (PySem.W.fnOf x qual (Ou st) (Bm st) (Ob st) .none kV doc pm an Ib ct):=⟨⟨oc,od,kV,doc,pm,an,Ib,ct,osl,rfl,l,c⟩,k⟩
variable {X:Cx}
theorem pv(i:Nat)(hN:X.N[i]?=some x:=by rfl)(hv:U2 X.env.scope x:=by first|exact Or.inl rfl|exact Or.inr (Or.inl rfl)|exact Or.inr (Or.inr rfl))(hd:(x==("__debug__":Str))=false:=by decide)(hcd:(x==("__classdict__":Str))=false:=by decide): PE X (.Name x pos) (Wg i):=ZkB hN hv hd hcd
end
def Ia(H H':Hp):Prop:=∀b o,H b=some o->H' b=some o
theorem Ia.refl(H:Hp):Ia H H:=fun _ _ h=>h
theorem Ia.trans(a:Ia H H1)(b:Ia H1 H2): Ia H H2:=fun c o h=>b c o (a c o h)
theorem Ia.free(e:Ia H H')(h:H' l=Option.none): H l=Option.none:=by
 cases q:H l with
 |none=>rfl
 |some o =>
  rw[e l o q] at h;cases h
end L2
set_option maxHeartbeats 4000000
namespace L2
open PySem PySem.Spec PyProof.Rows
noncomputable def Jh(scope:Scope)(env:Env):List (Str×Ja):=
 ((scope.names.filter fun p=>p.2==.free).reverse).map fun p=>(p.1,(env.cells.lookup p.1).getD 0)
theorem BX: ∀{l:List (Str×β)}{a:Str}{b:β},(a,b)∈l->∃c,l.lookup a=some c
 |[],_,_,h=>Gb h (by simp)
 |(n,v)::r,a,b,h=>by
  cases e:a==n with
  |true=>exact⟨v,by simp[Bo,e]⟩
  |false =>
   rcases Lc.mp h with z|z
   ·cases z;simp at e
   ·obtain⟨c,hc⟩:=BX z
    exact⟨c,by simp[Bo,e,hc]⟩
theorem Xq{env:Env}:∀{names:List (Str×NameKind)}{y:Str}{k:NameKind},(∀p∈names,p.2≠.cell) ->
  (names.map fun(n,k)=>if (k==NameKind.free&&env.scope.kind==.function&&env.kindOf n==some .cell) then (n,NameKind.cell) else (n,k)).lookup y=some k ->
  (k=.local->names.lookup y=some .local)/\(k=.cell\/k=.free->names.lookup y=some .free)
 |[],_,_,_,h=>by simp at h
 |(n,k0)::r,y,k,nc,h=>by
  have ih:=@Xq env r y k (fun p hp=>nc p (Fi _ hp));have nc0:=nc (n,k0) Tl;have h':List.lookup y ((if (k0==NameKind.free&&env.scope.kind==.function&&env.kindOf n==some .cell)=true then (n,NameKind.cell) else (n,k0))::(r.map fun(n,k)=>if (k==NameKind.free&&env.scope.kind==.function&&env.kindOf n==some .cell) then (n,NameKind.cell) else (n,k)))=some k:=h;cases hx:y==n with
  |true =>
   by_cases hc:(k0==NameKind.free&&env.scope.kind==.function&&env.kindOf n==some .cell)=true
   ·rw[Ba hc] at h'
    simp only[Bo,hx] at h';have hk:NameKind.cell=k:=Option.some.inj h';subst hk;have hf:k0=.free:=by
     simp only[Bool.and_eq_true] at hc;exact beq_iff_eq.mp hc.1.1
    subst hf;exact⟨(fun z=>nomatch z),fun _=>by simp[Bo,hx]⟩
   ·rw[Aa hc] at h'
    simp only[Bo,hx] at h';have hk:k0=k:=Option.some.inj h';subst hk;refine⟨fun z=>by subst z;simp[Bo,hx],fun z=>?_⟩;rcases z with z|z
    ·exact Gb z nc0
    ·subst z;simp[Bo,hx]
  |false =>
   by_cases hc:(k0==NameKind.free&&env.scope.kind==.function&&env.kindOf n==some .cell)=true
   ·rw[Ba hc] at h'
    simp only[Bo,hx] at h';have:=ih h';simpa[Bo,hx] using this
   ·rw[Aa hc] at h'
    simp only[Bo,hx] at h';have:=ih h';simpa[Bo,hx] using this
noncomputable def PH(N:List Str)(sc scope:Scope)(x:Str):Bool:=
 (scope.names.all fun p=>!(p.2==.cell))&&(scope.kind==.function)&&(scope.names.all fun p=>!(p.2==.local) || scope.names.lookup p.1==some .local)&&(scope.names.lookup x==some .local)
  && (N.all fun y=>!(scope.names.lookup y==some .local))&&(scope.names.all fun p=>!(p.2==.free) || sc.names.lookup p.1==some .cell || sc.names.lookup p.1==some .free)
structure Ew(N:List Str)(sc scope:Scope)(x:Str):Prop where
 nc:∀p∈scope.names,p.2≠.cell
 kind:scope.kind=.function
 locs:∀p∈scope.names,p.2=.local->scope.names.lookup p.1=some .local
 var:scope.names.lookup x=some .local
 noN:∀y∈N,scope.names.lookup y≠some .local
 fr:∀p∈scope.names,p.2=.free->sc.names.lookup p.1=some .cell\/sc.names.lookup p.1=some .free
theorem Ew.of(h:PH N sc scope x=true): Ew N sc scope x:=by
 unfold PH at h;simp only[Bool.and_eq_true,Hg,Bool.or_eq_true,Bool.not_eq_true',beq_iff_eq,beq_eq_false_iff_ne] at h;obtain⟨⟨⟨⟨⟨h1,h2⟩,h3⟩,h4⟩,h5⟩,h6⟩:=h;refine⟨h1,h2,fun p hp e=>?_,h4,h5,fun p hp e=>?_⟩
 ·rcases h3 p hp with z|z
  ·exact Gb e z
  ·exact z
 ·rcases h6 p hp with (z|z)|z
  ·exact Gb e z
  ·exact .inl z
  ·exact .inr z
section
variable {X:Cx}{Za:List (Ja×Obj)}{σ:St}{H:Hp}{s:Ha}
theorem Da.adopt(I:Da X Za σ H s)(hn:H D=none)(h1:X.s₀.heap.objs.size<=D)(hL:D≠X.env.locals)(hc:∀x c,X.env.cells.lookup x=some c->c≠D)(hp:∀p∈X.pn++Za,p.1≠D)(ho:s.heap.get? D=some { cls:=.type "list",data:=.seq its.toArray n })(r:Ub ys its)(hz:ys.length<=Rb): Da X Za σ (upd H D (.lst ys)) s:=by
 refine I.step (h':=s.heap) (g':=s.gens) (d':=s.drawn) (t':=s.toks) (ch:=[D]) (fun b hb=>?_) (fun b o _ _ _ e _=>e) (fun b o _ _ _ e _=>⟨o.slots,e⟩) (fun b o hb _ e=>?_) (fun b o _ e=>⟨o,e⟩)
  (fun b xs e=>?_) (fun b o u e=>?_) (fun b ps w e=>?_) (fun m hm=>hm) (fun b u e=>?_) I.bare
 ·have e:b=D:=by simpa using hb
  subst e;exact⟨.inr h1,hL,hc,hp⟩
 ·rw[Ab (by simpa using hb)];exact e
 ·rw[Ab (Gg e hn)];exact e
 ·rw[Ab (Gg e hn)];exact e
 ·rw[Ab (Gg e hn)];exact e
 ·by_cases hb:b=D
  ·subst hb
   rw[Hd] at e;cases e;exact⟨hz,its,n,r,ho⟩
  ·rw[Ab hb] at e
   exact(I.hok b u e).stay (fun c v _ q=>q) (fun c q=>by rw[Ab (Gg q hn)];exact q) fun c xs q=>by rw[Ab (Gg q hn)];exact q
variable {scope:Scope}
theorem S7(h:scope.names.lookup y=some .free): ∃c,(Jh scope X.env).lookup y=some c:=by
 have hm:=PySem.mem_of_lookup h;refine BX (b:=(X.env.cells.lookup y).getD 0) ?_;unfold Jh;exact Ze.mpr ⟨(y,.free),YO.mpr (Wl.mpr ⟨hm,rfl⟩),rfl⟩
end
end L2
namespace HL
open PySem PyProof.Rows
section
open PySem.SeqAt
open PySem.AutoSeq1 (wpAny_loadPart')
open PySem.MeetsSeq PySem.MeetsSeq2 PySem.MeetsSeq3 SeqRoads2
end
section
end
end HL
namespace L2
open PySem PySem.Spec PyProof.Rows
section
variable {X:Cx}
theorem Zer(hc:X.calm=true):Xf X (.builtin "sum") (fun xs H Q=>∃p,∃ns:LI0,xs=[.ref p]/\Uc X.K H p (ns.map V.int)/\Q (.int ns.sum) H):=by
 intro Za s σ H xs us Q I r h;obtain⟨p,ns,rfl,hq,q⟩:=h;obtain⟨u,rfl,rx⟩:=Np r;cases rx;obtain⟨its,r',pl,hz⟩:=I.list hq;have hi:IntsAre its ns:=Zh4 r';obtain⟨xs,hx⟩:=hi.allInts.items;have hl':s.heap.IsList p (intItems xs):=hx▸pl.isList;refine sum_intListG (I.ok.hd hc) hl' fun h' tk t' hk=>?_;have e1:ns=xs.toList.map (·.1):=by
  rw[<- nums_intItems,<- hx];exact(show numsOf its.toArray.toList=ns from hi.numsOf).symm
 have e2:preSum (numAt xs) xs.size=ns.sum:=by
  rw[preSum_eq,Ho (by simp),e1]
 rw[e2];exact⟨.int ns.sum,H,I.kept hk,⟨_,rfl⟩,q⟩
theorem AH:∀{bs:List Bool}{us:LI3},Ub (bs.map V.bl) us->LSm.BoolsAre us bs
 |[],_,.nil=>.nil
 |b::bs,_,.cons r t=>by
  cases r;exact .cons b (AH t)
theorem Zee(hc:X.calm=true):Xf X (.builtin "all") (fun xs H Q=>∃p,∃bs:List Bool,xs=[.ref p]/\Uc X.K H p (bs.map V.bl)/\Q (.bl (bs.all id)) H):=by
 intro Za s σ H xs us Q I r h;obtain⟨p,bs,rfl,hq,q⟩:=h;obtain⟨u,rfl,rx⟩:=Np r;cases rx;obtain⟨its,r',pl,hz⟩:=I.list hq;have hb:=AH r';have hlt:p<s.heap.objs.size:=by obtain⟨_,e,_⟩:=pl.isList;exact Heap.lt_size e
 refine call_all_walk (KP pl.isList ?_);refine⟨s.heap.objs.size,[s.heap.objs.size,p],[s.heap.objs.size],its.toArray.size,_,_,fun i=>(bs[i]?).getD true,rfl,Walks.list (A:=X.A.in1) (I.ok.hd hc) _ p (Vf hlt) its.toArray,
  ⟨⟨_,Heap.get?_push_size _ rfl,rfl,rfl⟩,pl.isList.push _⟩,fun i v s' Q' E' hP hQ=>?_,fun h' tk hk=>?_⟩
 ·obtain⟨b,e,rfl⟩:=hb.get i v (by simpa using hP)
  dsimp only at hQ;rw[e,Vw] at hQ;exact Zu hQ
 ·rw[Ld,hb.length,LSm.range_all]
  exact⟨.bl (bs.all id),H,I.kept (LSm.kept_iter hk),rfl,q⟩
end
end L2
namespace HL
open PySem PyProof.Rows
section
end
section
open PySem.SeqAt
open PySem.AutoSeq1 (wpAny_loadPart')
open PySem.MeetsSeq PySem.MeetsSeq2 PySem.MeetsSeq3
end
end HL
namespace HL
open PySem
theorem SJ:∀a:LI0,HT.Jc a a=false
 |[]=>rfl
 |x::xs=>by rw[HT.W3,Ba rfl];exact SJ xs
theorem TJ:∀{a b c:LI0},HT.Jc a b=true->HT.Jc b c=true->HT.Jc a c=true
 |[],[],_,h,_=>by simp[HT.Jc] at h
 |[],_::_,[],_,h=>by simp[HT.Jc] at h
 |[],_::_,_::_,_,_=>rfl
 |_::_,[],_,h,_=>by simp[HT.Jc] at h
 |_::_,_::_,[],_,h=>by simp[HT.Jc] at h
 |x::xs,y::ys,z::zs,h1,h2=>by
  rw[HT.W3] at h1 h2 ⊢;by_cases e1:x=y
  ·rw[Ba e1] at h1
   subst e1;by_cases e2:x=z
   ·rw[Ba e2] at h2 ⊢
    exact TJ h1 h2
   ·rw[Aa e2] at h2 ⊢
    exact h2
  ·rw[Aa e1] at h1
   have h1':=Wi h1;by_cases e2:y=z
   ·subst e2
    rw[Aa e1];exact h1
   ·rw[Aa e2] at h2
    have h2':=Wi h2;rw[Aa (by lia)];exact Hb (by lia)
theorem L9:∀{a b:LI0},HT.Jc a b=false->HT.Jc b a=false->a=b
 |[],[],_,_=>rfl
 |[],_::_,h,_=>by simp[HT.Jc] at h
 |_::_,[],_,h=>by simp[HT.Jc] at h
 |x::xs,y::ys,h1,h2=>by
  rw[HT.W3] at h1 h2;by_cases e:x=y
  ·subst e
   rw[Ba rfl] at h1 h2;rw[L9 h1 h2]
  ·rw[Aa e] at h1
   rw[Aa (Ne.symm e)] at h2;have:=F6 h1;have:=F6 h2;lia
end HL
namespace L2
open PySem PySem.Spec PyProof.Rows
section
end
def Wc(K:ZmM)(mg:Str->Option Va)(x:Str)(st:Fb):Prop:=∃f fd,Zc K x x st f fd/\mg x=some (.ref f)
abbrev Qd(x:Str)(st:Fb)(ps:List Str):Prop:=∀(kV doc pm:Va) (an:Option Ja) (Ib ct:Va) (us:LI3),us.length=ps.length ->
 bindArgs (PySem.W.fnOf x x (Ou st) (Bm st) (Ob st) .none kV doc pm an Ib ct) ⟨us,[]⟩=pure (ps.zip us)
def Ok(P:Qc)(w:Xb)(K:ZmM)(mg:Str->Option Va)(base:Heap)(k:Nat)(x:Str)(ps:List Str)(sp:Sp):Prop:=
 ∃f fd,Yb P w K mg base Ic k f fd ps sp/\mg x=some (.ref f)/\PySem.W.keepIn K (.ref f)=true/\Vq K fd ps []
theorem Zju{P:Qc}{w:Xb}{K:ZmM}{mg:Str->Option Va}{base:Heap}{k:Nat}{x:Str}{st:Fb}{ps:List Str}{sp:Sp}(d:Wc K mg x st)(b:Qd x st ps)(h:∀{f fd},Zc K x x st f fd->Yb P w K mg base Ic k f fd ps sp):Ok P w K mg base k x ps sp:=by
 obtain⟨f,fd,F,hm⟩:=d;exact⟨f,fd,h F,hm,F.kp,F.binds b⟩
section
variable {X:Cx}{k:Nat}{x:Str}{ps:List Str}{sp:Sp}{p pos:Pos}{e:Expr}{es:List Expr}{t:TA}
def Nm(sp:Sp)(t:TA):TE:=fun σ H Q=>t σ H fun vs H1=>sp vs H1 Q E0
theorem VZ(G:Ok X.prog X.w X.K X.mg X.base k x ps sp)(hr:He k X.A)(hg:Gl X x)(ha:PA X (e::es) t)(hdb:(x==("__debug__":Str))=false:=by decide)(he:Ed (e::es) X.env=(false,eval e X.env)::Ed es X.env:=by rfl)(hpl:(Ti pos (Ed es X.env)).any (·.1)=false:=by rfl):PE X (.Call (.Name x p) (e::es) [] pos) (Nm sp t):=by
 obtain⟨f,fd,F,hm,hk,hb⟩:=G;intro Za s σ H Q I h;refine Zk1 (CX:=Ic) (E:=E0) (dvs:=[]) F hr hg hm hk hb .nil GL ha hdb he hpl Za s σ H Q I ?_;have e:(fun vs H1=>sp (vs++[]) H1 Q E0)=fun vs H1=>sp vs H1 Q E0:=by funext vs H1;rw[Dt]
 show t σ H (fun vs H1=>sp (vs++[]) H1 Q E0);rw[e];exact h
theorem Zk3(G:Ok X.prog X.w X.K X.mg X.base k x ps sp)(hr:He k X.A)(hg:Gl X x)(hdb:(x==("__debug__":Str))=false:=by decide):PE X (.Call (.Name x p) [] [] pos) (Nm sp Rj):=by
 obtain⟨f,fd,F,hm,hk,hb⟩:=G;exact Zk2 (CX:=Ic) (E:=E0) (dvs:=[]) F hr hg hm hk hb .nil GL hdb
theorem LL{i:Int}(hm:∃t,X.mg x=some (.int i t))(hg:Gl X x)(hd:(x==("__debug__":Str))=false:=by decide):PE X (.Name x pos) (tC (.int i)):=by
 obtain⟨t,hm⟩:=hm;exact Hk (v:=.int i) hg hm ⟨t,rfl⟩ hd
theorem ZgJ:CG X (P4 X.K):=by
 intro Za s σ H o i ov iv Q I ro ri h;obtain⟨p,xs,i,z,rfl,rfl,hq,he,q⟩:=h;cases ro;obtain⟨t,rfl⟩:=ri;obtain⟨its,r,pl,hz⟩:=I.list hq;obtain⟨j,h1,h2,h3,h4,h5⟩:=E7 he;obtain⟨w,ew,rw'⟩:=r.get h2;have hl:=r.length;have hn:=Zv;have fin:EP X Za σ Q w s:=⟨z,H,I,rw',q⟩
 by_cases h0:0<=i
 ·have hj:i.toNat=j:=by
   rw[seqIndex_of h0 h5] at h1;exact Option.some.inj h1
  exact wpAny_getItem_list pl.isList h0 (by lia) (by rw[hj];simpa using ew) fin
 ·have hj:(i+(its.toArray.size:Int)).toNat=j:=by
   rw[seqIndex_neg (by lia) h4] at h1;rw[Ld,<- hl];exact Option.some.inj h1
  exact wpAny_getItem_list_neg pl.isList (by lia) (by rw[Ld]<;>lia) (by lia) (by rw[hj];simpa using ew) fin
end
theorem Zeh: Xf X (.builtin "len") (fun xs H Q=>∃p ys,xs=[.ref p]/\(Uc X.K H p ys\/Re X.K H p ys)/\Q (.int ys.length) H):=Zej
theorem ZcV:Fh "len"=some (.builtin "len"):=by decide +kernel
theorem Xo:Fh "isinstance"=some (.builtin "isinstance"):=by decide +kernel
theorem F7:Fh "sum"=some (.builtin "sum"):=by decide +kernel
theorem XG:Fh "all"=some (.builtin "all"):=by decide +kernel
theorem Zs:Fh "list"=some (.type "list"):=by decide +kernel
theorem ZdA:Fh "int"=some (.type "int"):=by decide +kernel
theorem Zd8:Fh "bool"=some (.type "bool"):=by decide +kernel
section
variable {X:Cx}{K:ZmM}
theorem ZhH(e:X.K=K:=by rfl):Oo X (Jt K):=by subst e;exact ZhG
theorem Zei(e:X.K=K:=by rfl):Xf X (.builtin "len") (fun xs H Q=>∃p ys,xs=[.ref p]/\(Uc K H p ys\/Re K H p ys)/\Q (.int ys.length) H):=by subst e;exact Zeh
theorem R7(hc:X.calm=true)(e:X.K=K:=by rfl):Xf X (.builtin "sum") (fun xs H Q=>∃p,∃ns:LI0,xs=[.ref p]/\Uc K H p (ns.map V.int)/\Q (.int ns.sum) H):=by subst e;exact Zer hc
theorem GH(hc:X.calm=true)(e:X.K=K:=by rfl):Xf X (.builtin "all") (fun xs H Q=>∃p,∃bs:List Bool,xs=[.ref p]/\Uc K H p (bs.map V.bl)/\Q (.bl (bs.all id)) H):=by subst e;exact Zee hc
theorem P7(e:X.K=K:=by rfl):Xf X (.type "list") (fun xs H Q=>∃p ys,xs=[.ref p]/\(Uc K H p ys\/Re K H p ys)/\∀l,H l=none->Q (.ref l) (upd H l (.lst ys))):=by subst e;exact Zem
theorem JN(e:X.K=K:=by rfl):IG X (BM K):=by subst e;exact Zly
theorem Y8(e:X.K=K:=by rfl):CG X (P4 K):=by subst e;exact ZgJ
theorem Zl(hl:PE X l tl)(e:X.K=K:=by rfl): PI X tg l (Kx K tl):=by subst e;exact QZ hl
variable {u:TS}{H:Hp}{b:TA}
theorem P3{n:Nat}{k:Int}(h0:0<=k)(h1:k<n):Lj n k=some k.toNat:=by unfold Lj;rw[Ba h0,Ba h1]
theorem Ia.upd(h:Ia H H')(hp:H p=none): Ia H (upd H' p o):=fun b u e=>by
 rw[Ab (Gg e hp)];exact h b u e
theorem Ia.new(hp:H p=none): Ia H (L2.upd H p o):=Ia.upd (Ia.refl H) hp
theorem Jv(h:n<=1000): n<=Rb:=Oe h (by decide)
end
inductive Sh where
 |dk (ks:List Sb)|dt (ks:List (List Sb))|ob (n:Str) (fs:List Str)
  |jk
  |ls
inductive PV where
 |non|bl (b:Bool)|int (i:Int)|str (x:Str)|lst (xs:List PV)|tup (xs:List PV)
  |exc (n:Str)
  |exa (n:Str) (i:Int)
  |box (p:Option Ja) (s:Sh) (xs:List PV)
  |fz (xs:List PV)
  |any
abbrev LI5:=List PV
mutual
noncomputable def PV.flat:PV->Bool
 |.lst _=>false
 |.tup xs=>PV.flats xs
 |.non=>true
 |.bl _=>true
 |.int _=>true
 |.str _=>true
 |.exc _=>true
 |.exa _ _=>true
 |.box _ _ _=>false
 |.fz xs=>PV.flats xs
 |.any=>true
noncomputable def PV.flats:LI5->Bool
 |[]=>true
 |x::xs=>x.flat&&PV.flats xs
end
def KL(K:ZmM)(a:Ja)(xs:List V):Prop:=
 ∃(o:Obj) (its:Array Va) (n:Nat),K.lookup a=some o/\o.cls=.type "list"/\o.dict=none/\o.data=.seq its n/\its.size<=Rb/\Ub xs its.toList
def OQ:HO->Prop
 |.tup _=>True
 |.frz _ _=>True
 |.xd _=>True
 |_=>False
def Im(K:ZmM)(H:Hp)(a:Ja)(u:HO):Prop:=H a=some u/\OQ u
def R1:HO->Prop
 |.lst _=>True
 |.dK _=>True
 |.dT _=>True
 |.ins _ _ _=>True
 |_=>False
abbrev Qn:={ u:HO // R1 u }
def Ig(K:ZmM)(n:Str)(C:Ja):Prop:=PySem.W.nsIn K Pg n=some (some (.ref C))
def MF(K:ZmM)(H:Hp)(n:Str)(v:V):Prop:=∃a o C,v=.ref a/\Im K H a (.frz o (.own a))/\o.cls=.ref C/\o.dict=none/\PySem.W.notCls o=true/\Ig K n C
def LF(K:ZmM)(H:Hp)(n:Str)(i:Int)(v:V):Prop:=∃a o C d fs,v=.ref a/\Im K H a (.frz o (.own a))/\Im K H d (.xd fs)/\o.cls=.ref C/\o.dict=some d/\PySem.W.notCls o=true/\Ig K n C/\fs=[(("at":Str),V.int i)]
def Cw(K:ZmM):Sh->List V->HO->Prop
 |.dk ks,vs,u=>ks.length=vs.length/\u=.dK (ks.zip vs)
 |.dt ks,vs,u=>ks.length=vs.length/\u=.dT (ks.zip vs)
 |.ob n fs,vs,u=>fs.length=vs.length/\∃C dx,u=.ins C dx (fs.zip vs)/\Ig K n C
 |.jk,vs,u=>vs=[]/\∃ws,u=.lst ws
 |.ls,vs,u=>u=.lst vs
def Z7(p:Option Ja)(a:Ja):Prop:=match p with
 |none=>True
 |some b=>a=b
theorem Cw.lv{K:ZmM}{s:Sh}{vs:List V}{u:HO}(h:Cw K s vs u):R1 u:=by
 cases s with
 |dk ks=>obtain⟨_,rfl⟩:=h;trivial
 |dt ks=>obtain⟨_,rfl⟩:=h;trivial
 |ob n fs=>obtain⟨_,C,dx,rfl,_⟩:=h;trivial
 |jk=>obtain⟨_,ws,rfl⟩:=h;trivial
 |ls=>cases h;trivial
theorem JK(h:R1 u)(h':OQ o): o≠u:=by
 intro e;subst e;cases o<;>first|exact h|exact h'
def ZQ(K:ZmM)(H:Hp)(a:Ja)(vs:List V):Prop:=∃o,Im K H a (.frz o (.lst vs))
mutual
def Ya(K:ZmM)(H:Hp)(S:Ja->Prop):PV->V->Prop
 |.non,v=>v=.non
 |.bl b,v=>v=.bl b
 |.int i,v=>v=.int i
 |.str x,v=>v=.str x
 |.exc n,v=>MF K H n v
 |.exa n i,v=>LF K H n i v
 |.box p s xs,v=>∃a vs u,v=.ref a/\(Rd H a u/\S a)/\(Z7 p a/\Cw K s vs u)/\Reps K H S xs vs
 |.lst xs,v=>∃a vs,v=.ref a/\((Rd H a (.lst vs)/\S a)\/KL K a vs)/\Reps K H S xs vs
 |.tup xs,v=>∃a vs,v=.ref a/\Im K H a (.tup vs)/\Reps K H S xs vs
 |.fz xs,v=>∃a vs,v=.ref a/\ZQ K H a vs/\Reps K H S xs vs
 |.any,v=>∃a:Ja,v=.ref a
def Reps(K:ZmM)(H:Hp)(S:Ja->Prop):LI5->List V->Prop
 |[],vs=>vs=[]
 |x::xs,vs=>∃v r,vs=v::r/\Ya K H S x v/\Reps K H S xs r
end
mutual
def Pb(K:ZmM)(H:Hp):PV->V->LI2->Prop
 |.non,v,F=>v=.non/\F=[]
 |.bl b,v,F=>v=.bl b/\F=[]
 |.int i,v,F=>v=.int i/\F=[]
 |.str x,v,F=>v=.str x/\F=[]
 |.exc n,v,F=>MF K H n v/\F=[]
 |.exa n i,v,F=>LF K H n i v/\F=[]
 |.box p s xs,v,F=>∃a vs u G,v=.ref a/\H a=some u/\(Z7 p a/\Cw K s vs u)/\Trees K H xs vs G/\a ∉ G/\F=a::G
 |.lst xs,v,F=>∃a vs G,v=.ref a/\H a=some (.lst vs)/\Trees K H xs vs G/\a ∉ G/\F=a::G
 |.tup xs,v,F=>∃a vs,v=.ref a/\Im K H a (.tup vs)/\Trees K H xs vs F
 |.fz xs,v,F=>∃a vs,v=.ref a/\ZQ K H a vs/\Trees K H xs vs F
 |.any,v,F=>(∃a:Ja,v=.ref a)/\F=[]
def Trees(K:ZmM)(H:Hp):LI5->List V->LI2->Prop
 |[],vs,F=>vs=[]/\F=[]
 |x::xs,vs,F=>∃v r G1 G2,vs=v::r/\Pb K H x v G1/\Trees K H xs r G2/\(∀a∈G1,a ∉ G2)/\F=G1++G2
end
section
variable {K:ZmM}{H H':Hp}{S S':Ja->Prop}
mutual
theorem Ya.mono(h1:∀a u,S a->Rd H a u->Rd H' a u/\S' a)(h2:∀a u,Im K H a u->Im K H' a u):∀{x:PV}{v:V},Ya K H S x v->Ya K H' S' x v
 |.non,_,h=>h
 |.bl _,_,h=>h
 |.int _,_,h=>h
 |.str _,_,h=>h
 |.any,_,h=>h
 |.exc n,_,h=>let ⟨a,o,C,e1,e2,e3⟩:=h;⟨a,o,C,e1,h2 a _ e2,e3⟩
 |.exa n i,_,h=>let ⟨a,o,C,d,fs,e1,e2,e2',e3⟩:=h;⟨a,o,C,d,fs,e1,h2 a _ e2,h2 d _ e2',e3⟩
 |.box p s xs,_,h=>by
  obtain⟨a,vs,u,rfl,⟨n1,n2⟩,hb,hr⟩:=h;exact⟨a,vs,u,rfl,h1 a u n2 n1,hb,Reps.mono h1 h2 hr⟩
 |.lst xs,_,h=>by
  obtain⟨a,vs,rfl,hn,hr⟩:=h;refine⟨a,vs,rfl, ?_,Reps.mono h1 h2 hr⟩;rcases hn with ⟨n1,n2⟩|n
  ·exact .inl (h1 a _ n2 n1)
  ·exact .inr n
 |.tup xs,_,h=>by
  obtain⟨a,vs,rfl,hn,hr⟩:=h;exact⟨a,vs,rfl,h2 a _ hn,Reps.mono h1 h2 hr⟩
 |.fz xs,_,h=>by
  obtain⟨a,vs,rfl,⟨o,hn⟩,hr⟩:=h;exact⟨a,vs,rfl,⟨o,h2 a _ hn⟩,Reps.mono h1 h2 hr⟩
theorem Reps.mono(h1:∀a u,S a->Rd H a u->Rd H' a u/\S' a)(h2:∀a u,Im K H a u->Im K H' a u):∀{xs:LI5}{vs:List V},Reps K H S xs vs->Reps K H' S' xs vs
 |[],_,h=>h
 |x::xs,_,h=>by
  obtain⟨v,r,rfl,h3,h4⟩:=h;exact⟨v,r,rfl,Ya.mono h1 h2 h3,Reps.mono h1 h2 h4⟩
end
mutual
theorem Pb.mono:∀{x:PV}{v:V}{F:LI2},(∀a∈F,∀o,H a=some o->H' a=some o)->(∀a vs,Im K H a vs->Im K H' a vs)->Pb K H x v F->Pb K H' x v F
 |.non,_,_,_,_,h=>h
 |.bl _,_,_,_,_,h=>h
 |.int _,_,_,_,_,h=>h
 |.str _,_,_,_,_,h=>h
 |.any,_,_,_,_,h=>h
 |.exc n,_,_,_,h2,h=>let ⟨⟨a,o,C,e1,e2,e3⟩,e4⟩:=h;⟨⟨a,o,C,e1,h2 a _ e2,e3⟩,e4⟩
 |.exa n i,_,_,_,h2,h=>let ⟨⟨a,o,C,d,fs,e1,e2,e2',e3⟩,e4⟩:=h;⟨⟨a,o,C,d,fs,e1,h2 a _ e2,h2 d _ e2',e3⟩,e4⟩
 |.box p s xs,_,_,h1,h2,h=>by
  obtain⟨a,vs,u,G,rfl,ha,hb,ht,hn,rfl⟩:=h;exact⟨a,vs,u,G,rfl,h1 a (by simp) _ ha,hb,Trees.mono (fun b hb o e=>h1 b (by simp[hb]) o e) h2 ht,hn,rfl⟩
 |.lst xs,_,_,h1,h2,h=>by
  obtain⟨a,vs,G,rfl,ha,ht,hn,rfl⟩:=h;exact⟨a,vs,G,rfl,h1 a (by simp) _ ha,Trees.mono (fun b hb o e=>h1 b (by simp[hb]) o e) h2 ht,hn,rfl⟩
 |.tup xs,_,_,h1,h2,h=>by
  obtain⟨a,vs,rfl,ha,ht⟩:=h;exact⟨a,vs,rfl,h2 a _ ha,Trees.mono h1 h2 ht⟩
 |.fz xs,_,_,h1,h2,h=>by
  obtain⟨a,vs,rfl,⟨o,ha⟩,ht⟩:=h;exact⟨a,vs,rfl,⟨o,h2 a _ ha⟩,Trees.mono h1 h2 ht⟩
theorem Trees.mono:∀{xs:LI5}{vs:List V}{F:LI2},(∀a∈F,∀o,H a=some o->H' a=some o)->(∀a vs,Im K H a vs->Im K H' a vs)->Trees K H xs vs F->Trees K H' xs vs F
 |[],_,_,_,_,h=>h
 |x::xs,_,_,h1,h2,h=>by
  obtain⟨v,r,G1,G2,rfl,h3,h4,hd,rfl⟩:=h;exact⟨v,r,G1,G2,rfl,Pb.mono (fun b hb o e=>h1 b (by simp[hb]) o e) h2 h3,Trees.mono (fun b hb o e=>h1 b (by simp[hb]) o e) h2 h4,hd,rfl⟩
end
mutual
theorem Pb.rep:∀{x:PV}{v:V}{F:LI2},(∀a∈F,S a)->Pb K H x v F->Ya K H S x v
 |.non,_,_,_,h=>h.1
 |.bl _,_,_,_,h=>h.1
 |.int _,_,_,_,h=>h.1
 |.str _,_,_,_,h=>h.1
 |.any,_,_,_,h=>h.1
 |.exc _,_,_,_,h=>h.1
 |.exa _ _,_,_,_,h=>h.1
 |.box p s xs,_,_,h1,h=>by
  obtain⟨a,vs,u,G,rfl,ha,hb,ht,hn,rfl⟩:=h;exact⟨a,vs,u,rfl,⟨.inl ha,h1 a (by simp)⟩,hb,Trees.reps (fun b hb=>h1 b (by simp[hb])) ht⟩
 |.lst xs,_,_,h1,h=>by
  obtain⟨a,vs,G,rfl,ha,ht,hn,rfl⟩:=h;exact⟨a,vs,rfl,.inl ⟨.inl ha,h1 a (by simp)⟩,Trees.reps (fun b hb=>h1 b (by simp[hb])) ht⟩
 |.tup xs,_,_,h1,h=>by
  obtain⟨a,vs,rfl,ha,ht⟩:=h;exact⟨a,vs,rfl,ha,Trees.reps h1 ht⟩
 |.fz xs,_,_,h1,h=>by
  obtain⟨a,vs,rfl,ha,ht⟩:=h;exact⟨a,vs,rfl,ha,Trees.reps h1 ht⟩
theorem Trees.reps:∀{xs:LI5}{vs:List V}{F:LI2},(∀a∈F,S a)->Trees K H xs vs F->Reps K H S xs vs
 |[],_,_,_,h=>h.1
 |x::xs,_,_,h1,h=>by
  obtain⟨v,r,G1,G2,rfl,h3,h4,hd,rfl⟩:=h;exact⟨v,r,rfl,Pb.rep (fun b hb=>h1 b (by simp[hb])) h3,Trees.reps (fun b hb=>h1 b (by simp[hb])) h4⟩
end
mutual
theorem Pb.alive:∀{x:PV}{v:V}{F:LI2},Pb K H x v F->∀a∈F,∃vs:Qn,H a=some vs.1
 |.non,_,_,h=>by rw[h.2];simp
 |.bl _,_,_,h=>by rw[h.2];simp
 |.int _,_,_,h=>by rw[h.2];simp
 |.str _,_,_,h=>by rw[h.2];simp
 |.any,_,_,h=>by rw[h.2];simp
 |.exc _,_,_,h=>by rw[h.2];simp
 |.exa _ _,_,_,h=>by rw[h.2];simp
 |.box p s xs,_,_,h=>by
  obtain⟨a,vs,u,G,rfl,ha,hb,ht,hn,rfl⟩:=h;intro b hb';rcases Lc.mp hb' with rfl|hb'
  ·exact⟨⟨u,hb.2.lv⟩,ha⟩
  ·exact Trees.alive ht b hb'
 |.lst xs,_,_,h=>by
  obtain⟨a,vs,G,rfl,ha,ht,hn,rfl⟩:=h;intro b hb;rcases Lc.mp hb with rfl|hb
  ·exact⟨⟨.lst vs,trivial⟩,ha⟩
  ·exact Trees.alive ht b hb
 |.tup xs,_,_,h=>by
  obtain⟨a,vs,rfl,ha,ht⟩:=h;exact Trees.alive ht
 |.fz xs,_,_,h=>by
  obtain⟨a,vs,rfl,ha,ht⟩:=h;exact Trees.alive ht
theorem Trees.alive:∀{xs:LI5}{vs:List V}{F:LI2},Trees K H xs vs F->∀a∈F,∃vs:Qn,H a=some vs.1
 |[],_,_,h=>by rw[h.2];simp
 |x::xs,_,_,h=>by
  obtain⟨v,r,G1,G2,rfl,h3,h4,hd,rfl⟩:=h;intro b hb;rcases Ud.mp hb with hb|hb
  ·exact Pb.alive h3 b hb
  ·exact Trees.alive h4 b hb
end
mutual
theorem Ya.tree:∀{x:PV}{v:V},x.flat=true->Ya K H S x v->Pb K H x v []
 |.non,_,_,h=>⟨h,rfl⟩
 |.bl _,_,_,h=>⟨h,rfl⟩
 |.int _,_,_,h=>⟨h,rfl⟩
 |.str _,_,_,h=>⟨h,rfl⟩
 |.any,_,_,h=>⟨h,rfl⟩
 |.exc _,_,_,h=>⟨h,rfl⟩
 |.exa _ _,_,_,h=>⟨h,rfl⟩
 |.box p s xs,_,f,_=>by simp[PV.flat] at f
 |.lst xs,_,f,_=>by simp[PV.flat] at f
 |.tup xs,_,f,h=>by
  obtain⟨a,vs,rfl,ha,ht⟩:=h;exact⟨a,vs,rfl,ha,Reps.trees (by simpa[PV.flat] using f) ht⟩
 |.fz xs,_,f,h=>by
  obtain⟨a,vs,rfl,ha,ht⟩:=h;exact⟨a,vs,rfl,ha,Reps.trees (by simpa[PV.flat] using f) ht⟩
theorem Reps.trees:∀{xs:LI5}{vs:List V},PV.flats xs=true->Reps K H S xs vs->Trees K H xs vs []
 |[],_,_,h=>⟨h,rfl⟩
 |x::xs,_,f,h=>by
  obtain⟨v,r,rfl,h3,h4⟩:=h;simp only[PV.flats,Bool.and_eq_true] at f;exact⟨v,r,[],[],rfl,Ya.tree f.1 h3,Reps.trees f.2 h4,by simp,rfl⟩
end
theorem Ya.any(h:Ya K H S x v):Ya K H (fun _=>True) x v:=Ya.mono (fun a vs _ r=>⟨r,trivial⟩) (fun a vs r=>r) h
theorem Reps.any(h:Reps K H S xs vs):Reps K H (fun _=>True) xs vs:=Reps.mono (fun a vs _ r=>⟨r,trivial⟩) (fun a vs r=>r) h
theorem Ya.flatS(f:x.flat=true)(h:Ya K H S x v): Ya K H S' x v:=Pb.rep (F:=[]) (by simp) (Ya.tree f h)
theorem Reps.length:∀{xs:LI5}{vs:List V},Reps K H S xs vs->vs.length=xs.length
 |[],_,h=>by rw[h];rfl
 |x::xs,_,h=>by
  obtain⟨v,r,rfl,h3,h4⟩:=h;simp[Reps.length h4]
theorem Trees.length(h:Trees K H xs vs F): vs.length=xs.length:=(Trees.reps (S:=fun _=>True) (fun _ _=>trivial) h).length
theorem Reps.get:∀{xs:LI5}{vs:List V}{i:Nat}{x:PV},Reps K H S xs vs->xs[i]?=some x->∃v,vs[i]?=some v/\Ya K H S x v
 |[],_,_,_,_,e=>by simp at e
 |y::xs,_,0,x,h,e=>by
  obtain⟨v,r,rfl,h3,h4⟩:=h;simp at e;subst e;exact⟨v,rfl,h3⟩
 |y::xs,_,i+1,x,h,e=>by
  obtain⟨v,r,rfl,h3,h4⟩:=h;obtain⟨w,e1,e2⟩:=Reps.get (i:=i) h4 (by simpa using e);exact⟨w,by simpa using e1,e2⟩
theorem Reps.append:∀{xs ys:LI5}{vs ws:List V},Reps K H S xs vs->Reps K H S ys ws->Reps K H S (xs++ys) (vs++ws)
 |[],_,_,_,h,h'=>by rw[h];exact h'
 |x::xs,_,_,_,h,h'=>by
  obtain⟨v,r,rfl,h3,h4⟩:=h;exact⟨v,r++_,rfl,h3,Reps.append h4 h'⟩
theorem Reps.one(h:Ya K H S x v): Reps K H S [x] [v]:=⟨v,[],rfl,h,rfl⟩
theorem Reps.take:∀{xs:LI5}{vs:List V} (n:Nat),Reps K H S xs vs->Reps K H S (xs.take n) (vs.take n)
 |_,_,0,_=>by simp[Reps]
 |[],_,n+1,h=>by rw[h];rfl
 |y::xs,_,n+1,h=>by
  obtain⟨w,r,rfl,h3,h4⟩:=h;exact⟨w,r.take n,rfl,h3,Reps.take n h4⟩
theorem Reps.drop:∀{xs:LI5}{vs:List V} (n:Nat),Reps K H S xs vs->Reps K H S (xs.drop n) (vs.drop n)
 |_,_,0,h=>h
 |[],_,n+1,h=>by rw[h];rfl
 |y::xs,_,n+1,h=>by
  obtain⟨w,r,rfl,h3,h4⟩:=h;exact Reps.drop n h4
theorem Trees.append:∀{xs ys:LI5}{vs ws:List V}{F G:LI2},Trees K H xs vs F->Trees K H ys ws G->(∀a∈F,a ∉ G)->Trees K H (xs++ys) (vs++ws) (F++G)
 |[],_,_,_,_,_,h,h',_=>by rw[h.1,h.2];exact h'
 |x::xs,_,_,_,_,_,h,h',hd=>by
  obtain⟨v,r,G1,G2,rfl,h3,h4,hd',rfl⟩:=h;refine⟨v,r++_,G1,G2++_,rfl,h3,Trees.append h4 h' (fun a ha=>hd a (by simp[ha])),fun a ha z=>?_,by simp⟩;rcases Ud.mp z with z|z
  ·exact hd' a ha z
  ·exact hd a (by simp[ha]) z
theorem Trees.one(h:Pb K H x v F): Trees K H [x] [v] F:=⟨v,[],F,[],rfl,h,⟨rfl,rfl⟩,by simp,by simp⟩
theorem PV.flats_all:∀{xs:LI5},PV.flats xs=true ↔ ∀x∈xs,x.flat=true
 |[]=>by simp[PV.flats]
 |x::xs=>by simp[PV.flats,PV.flats_all (xs:=xs)]
theorem PV.flats_ints(ns:LI0):PV.flats (ns.map PV.int)=true:=PV.flats_all.mpr (by simp[PV.flat])
theorem Rd.same(e:Ia H H')(h:Rd H a u):Rd H' a u:=by
 rcases h with h|⟨o,h⟩
 ·exact .inl (e _ _ h)
 ·exact .inr ⟨o,e _ _ h⟩
theorem Ia.im(e:Ia H H')(h:Im K H a k): Im K H' a k:=⟨e _ _ h.1,h.2⟩
theorem Im.sqT(h:Im K H a (.tup vs)): Re K H a vs:=.inl (.inl h.1)
theorem Ya.same(e:Ia H H')(h:Ya K H S x v):Ya K H' S x v:=Ya.mono (fun a vs s r=>⟨r.same e,s⟩) (fun a vs r=>e.im r) h
theorem Reps.same(e:Ia H H')(h:Reps K H S xs vs):Reps K H' S xs vs:=Reps.mono (fun a vs s r=>⟨r.same e,s⟩) (fun a vs r=>e.im r) h
theorem Pb.same(e:Ia H H')(h:Pb K H x v F):Pb K H' x v F:=Pb.mono (fun a _ o q=>e a o q) (fun a vs r=>e.im r) h
theorem Trees.same(e:Ia H H')(h:Trees K H xs vs F):Trees K H' xs vs F:=Trees.mono (fun a _ o q=>e a o q) (fun a vs r=>e.im r) h
theorem Im.putL{us: Qn}(hp:H p=some us.1)(h:Im K H a k): Im K (upd H p o) a k:=
 ⟨by rw[Ab (IK h.1 hp (JK us.2 h.2))];exact h.1,h.2⟩
theorem Trees.putL{us: Qn}(hp:H p=some us.1)(hS:p ∉ F)(h:Trees K H xs vs F): Trees K (upd H p o) xs vs F:=
 Trees.mono (fun a ha o q=>by
  have hne:a≠p:=fun z=>hS (z▸ha);rw[Ab hne];exact q) (fun a vs r=>Im.putL hp r) h
theorem Trees.put{p:Ja}{us:List V}{o:HO}(hp:H p=some (.lst us))(hS:p ∉ F)(h:Trees K H xs vs F):Trees K (upd H p o) xs vs F:=Trees.putL (us:=⟨.lst us,trivial⟩) hp hS h
end
inductive Md|U|P|S|T|O
 deriving DecidableEq
def NO(B:Ja->Prop)(F:Nat->LI2)(R:LI2)(a:Ja):Prop:=B a/\a ∉ R/\∀i,a ∉ F i
def Ro(K:ZmM)(H:Hp)(S:Ja->Prop)(m:Md)(x:PV)(o:Option (Option V))(G:LI2):Prop:=match m with
 |.U=>G=[]
 |.P=>G=[]/\∃v,o=some (some v)/\x.flat=true/\Ya K H (fun _=>True) x v
 |.S=>G=[]/\∃v,o=some (some v)/\Ya K H S x v
 |.T=>∃a vs xs,o=some (some (.ref a))/\x=.lst xs/\H a=some (.lst vs)/\Reps K H S xs vs/\G=[a]
 |.O=>∃v,o=some (some v)/\Pb K H x v G
structure Ag(K:ZmM)(B:Ja->Prop)(H0 H:Hp)(σ:St)(Γ:List Md)(ρ:LI5)(F:Nat->LI2)(R:LI2):Prop where
 same:Ia H0 H
 own:∀a,H0 a=none->B a
 young:∀i,∀a∈F i,H0 a=none
 youngR:∀a∈R,H0 a=none
 live:∀i,∀a∈F i,∃vs:Qn,H a=some vs.1
 liveR:∀a∈R,∃vs:Qn,H a=some vs.1
 disj:∀i j,i≠j->∀a∈F i,a ∉ F j
 disjR:∀i,∀a∈F i,a ∉ R
 lenS:σ.length=Γ.length
 lenR:ρ.length=Γ.length
 slot:∀i,Ro K H (NO B F R) (Γ.getD i .U) (ρ.getD i .non) σ[i]? (F i)
theorem Ro.mono{K:ZmM}{H H':Hp}{S S':Ja->Prop}{m:Md}{x:PV}{o:Option (Option V)}{G:LI2}(h:Ro K H S m x o G)(h1:∀a u,S a->Rd H a u->Rd H' a u/\S' a)(h2:∀a u,Im K H a u->Im K H' a u)(h3:∀a∈G,∀u,H a=some u->H' a=some u):Ro K H' S' m x o G:=by
 cases m with
 |U=>exact h
 |P =>
  obtain⟨e,v,h4,h5,h6⟩:=h;exact⟨e,v,h4,h5,Pb.rep (F:=[]) (by simp) (Pb.mono (by simp) h2 (Ya.tree h5 h6))⟩
 |S =>
  obtain⟨e,v,h4,h5⟩:=h;exact⟨e,v,h4,Ya.mono h1 h2 h5⟩
 |T =>
  obtain⟨a,vs,xs,h4,h5,h6,h7,rfl⟩:=h;exact⟨a,vs,xs,h4,h5,h3 a (by simp) _ h6,Reps.mono h1 h2 h7,rfl⟩
 |O =>
  obtain⟨v,h4,h5⟩:=h;exact⟨v,h4,Pb.mono (fun a ha o q=>h3 a ha o q) h2 h5⟩
section
variable {K:ZmM}{B:Ja->Prop}{H0 H H':Hp}{σ:St}{Γ:List Md}{ρ:LI5}{F:Nat->LI2}{R R':LI2}
theorem Ag.grow(A:Ag K B H0 H σ Γ ρ F R)(e:Ia H H'):Ag K B H0 H' σ Γ ρ F R:=
 ⟨A.same.trans e,A.own,A.young,A.youngR,fun i a ha=>let ⟨vs,q⟩:=A.live i a ha;⟨vs,e _ _ q⟩,fun a ha=>let ⟨vs,q⟩:=A.liveR a ha;⟨vs,e _ _ q⟩,A.disj,A.disjR,A.lenS,A.lenR,
  fun i=>(A.slot i).mono (fun a vs s r=>⟨r.same e,s⟩) (fun a vs r=>e.im r) fun a ha vs q=>e _ _ q⟩
theorem Ag.less(A:Ag K B H0 H σ Γ ρ F R)(h:∀a∈R',a∈R):Ag K B H0 H σ Γ ρ F R':=
 ⟨A.same,A.own,A.young,fun a ha=>A.youngR a (h a ha),A.live,fun a ha=>A.liveR a (h a ha),A.disj,fun i a ha z=>A.disjR i a ha (h a z),A.lenS,A.lenR,
  fun i=>(A.slot i).mono (fun a vs s r=>⟨r,s.1,fun z=>s.2.1 (h a z),s.2.2⟩) (fun a vs r=>r) fun a ha vs q=>q⟩
theorem Ag.more{G:LI2}(A:Ag K B H0 H σ Γ ρ F R)(e:Ia H H')(hf:∀a∈G,H a=none)(hl:∀a∈G,∃vs:Qn,H' a=some vs.1):Ag K B H0 H' σ Γ ρ F (G++R):=by
 refine⟨A.same.trans e,A.own,A.young,fun a ha=>?_,fun i a ha=>let ⟨vs,q⟩:=A.live i a ha;⟨vs,e _ _ q⟩,fun a ha=>?_,A.disj,fun i a ha z=>?_,A.lenS,A.lenR,fun i=>?_⟩
 ·rcases Ud.mp ha with z|z
  ·exact A.same.free (hf a z)
  ·exact A.youngR a z
 ·rcases Ud.mp ha with z|z
  ·exact hl a z
  ·obtain⟨vs,q⟩:=A.liveR a z
   exact⟨vs,e _ _ q⟩
 ·rcases Ud.mp z with z|z
  ·obtain⟨vs,q⟩:=A.live i a ha
   rw[hf a z] at q;cases q
  ·exact A.disjR i a ha z
 ·refine(A.slot i).mono (fun a vs s r=>⟨r.same e,s.1,fun z=>?_,s.2.2⟩) (fun a vs r=>e.im r) fun a ha vs q=>e _ _ q
  rcases Ud.mp z with z|z
  ·have:=hf a z
   rcases r with r|⟨o,r⟩<;>(rw[this] at r;cases r)
  ·exact s.2.1 z
theorem Ag.fresh(A:Ag K B H0 H σ Γ ρ F R)(hp:H p=none): p ∉ R/\(∀i,p ∉ F i)/\H0 p=none/\B p:=by
 refine⟨fun z=>?_,fun i z=>?_,A.same.free hp,A.own p (A.same.free hp)⟩
 ·obtain⟨vs,q⟩:=A.liveR p z
  rw[hp] at q;cases q
 ·obtain⟨vs,q⟩:=A.live i p z
  rw[hp] at q;cases q
theorem Ag.new(A:Ag K B H0 H σ Γ ρ F R)(hp:H p=none): Ag K B H0 (upd H p (.lst xs)) σ Γ ρ F (p::R):=
 A.more (G:=[p]) (Ia.new hp) (fun a ha=>by rw[Gi.mp ha];exact hp) fun a ha=>⟨⟨.lst xs,trivial⟩,by rw[Gi.mp ha,Hd]⟩
theorem Ag.newB(hu:R1 u)(A:Ag K B H0 H σ Γ ρ F R)(hp:H p=none): Ag K B H0 (upd H p u) σ Γ ρ F (p::R):=
 A.more (G:=[p]) (Ia.new hp) (fun a ha=>by rw[Gi.mp ha];exact hp) fun a ha=>⟨⟨u,hu⟩,by rw[Gi.mp ha,Hd]⟩
theorem Ag.getO(A:Ag K B H0 H σ Γ ρ F R)(h:Γ[i]?=some .O): ∃v,σ[i]?=some (some v)/\Pb K H (ρ.getD i .non) v (F i):=by
 have:=A.slot i;rw[Bb,h] at this;exact this
theorem Ag.getT(A:Ag K B H0 H σ Γ ρ F R)(h:Γ[i]?=some .T): ∃a vs xs,σ[i]?=some (some (.ref a))/\ρ.getD i .non=.lst xs/\H a=some (.lst vs)/\Reps K H (NO B F R) xs vs/\F i=[a]:=by
 have:=A.slot i;rw[Bb (l:=Γ),h] at this;exact this
theorem Ag.getS(A:Ag K B H0 H σ Γ ρ F R)(h:Γ[i]?=some .S): ∃v,σ[i]?=some (some v)/\Ya K H (NO B F R) (ρ.getD i .non) v:=by
 have:=A.slot i;rw[Bb (l:=Γ),h] at this;exact this.2
theorem Ag.getP(A:Ag K B H0 H σ Γ ρ F R)(h:Γ[i]?=some .P): ∃v,σ[i]?=some (some v)/\(ρ.getD i .non).flat=true/\Ya K H (fun _=>True) (ρ.getD i .non) v:=by
 have:=A.slot i;rw[Bb (l:=Γ),h] at this;exact this.2
theorem Ag.getA(A:Ag K B H0 H σ Γ ρ F R)(h:Γ[i]?=some m)(hm:m≠.U): ∃v,σ[i]?=some (some v)/\Ya K H (fun _=>True) (ρ.getD i .non) v:=by
 cases m with
 |U=>exact Gb rfl hm
 |P=>obtain⟨v,h1,h2,h3⟩:=A.getP h;exact⟨v,h1,h3⟩
 |S=>obtain⟨v,h1,h2⟩:=A.getS h;exact⟨v,h1,h2.any⟩
 |T =>
  obtain⟨a,vs,xs,h1,h2,h3,h4,h5⟩:=A.getT h;exact⟨_,h1,by rw[h2];exact⟨a,vs,rfl,.inl ⟨.inl h3,trivial⟩,h4.any⟩⟩
 |O=>obtain⟨v,h1,h2⟩:=A.getO h;exact⟨v,h1,h2.rep (fun _ _=>trivial)⟩
theorem Ag.lt(A:Ag K B H0 H σ Γ ρ F R)(h:Γ[i]?=some m): i<Γ.length:=(Pd.mp h).1
noncomputable def Se(F:Nat->LI2)(i:Nat)(G:LI2):Nat->LI2:=fun j=>if j=i then G else F j
theorem Jf: Se F i G i=G:=Ba rfl
theorem Ee(h:j≠i): Se F i G j=F j:=Aa h
theorem Ag.put{i:Nat}{m:Md}{x:PV}{v:V}{G:LI2}(A:Ag K B H0 H σ Γ ρ F (G++R))(hi:i<Γ.length)(hG:∀a∈G,a ∉ R)(hs:Ro K H (NO B (Se F i G) R) m x (some (some v)) G) :
  Ag K B H0 H (σ.set i (some v)) (Γ.set i m) (ρ.set i x) (Se F i G) R:=by
 refine⟨A.same,A.own,fun j a ha=>?_,fun a ha=>A.youngR a (Fe _ ha),fun j a ha=>?_,fun a ha=>A.liveR a (Fe _ ha),fun j k hjk a ha z=>?_,fun j a ha z=>?_,by simp[A.lenS],by simp[A.lenR],fun j=>?_⟩
 ·by_cases h:j=i
  ·subst h;rw[Jf] at ha;exact A.youngR a (Bf _ ha)
  ·rw[Ee h] at ha;exact A.young j a ha
 ·by_cases h:j=i
  ·subst h;rw[Jf] at ha;exact A.liveR a (Bf _ ha)
  ·rw[Ee h] at ha;exact A.live j a ha
 ·by_cases h:j=i
  ·subst h
   rw[Jf] at ha;rw[Ee (Ne.symm hjk)] at z;exact A.disjR k a z (Bf _ ha)
  ·rw[Ee h] at ha
   by_cases h':k=i
   ·subst h'
    rw[Jf] at z;exact A.disjR j a ha (Bf _ z)
   ·rw[Ee h'] at z
    exact A.disj j k hjk a ha z
 ·by_cases h:j=i
  ·subst h;rw[Jf] at ha;exact hG a ha z
  ·rw[Ee h] at ha;exact A.disjR j a ha (Fe _ z)
 ·by_cases h:j=i
  ·subst h
   rw[Jf,Bb,Bb,Fj hi,Fj (by rw[A.lenR];exact hi),Fj (by rw[A.lenS];exact hi)];exact hs
  ·rw[Ee h,Bb,Bb,Il (Ne.symm h),Il (Ne.symm h),Il (Ne.symm h),<- Bb,<- Bb]
   refine(A.slot j).mono (fun a vs s r=>⟨r,s.1,fun z=>s.2.1 (Fe _ z),fun k z=>?_⟩) (fun a vs r=>r) fun a ha vs q=>q;by_cases h':k=i
   ·subst h';rw[Jf] at z;exact s.2.1 (Bf _ z)
   ·rw[Ee h'] at z;exact s.2.2 k z
theorem Ag.turn{i:Nat}{m m':Md}{G:LI2}(A:Ag K B H0 H σ Γ ρ F R)(h:Γ[i]?=some m)(hG:∀a∈G,a∈F i)(hs:Ro K H (NO B (Se F i []) (G++R)) m' (ρ.getD i .non) σ[i]? []) :
  Ag K B H0 H σ (Γ.set i m') ρ (Se F i []) (G++R):=by
 have hi:=A.lt h;refine⟨A.same,A.own,fun j a ha=>?_,fun a ha=>?_,fun j a ha=>?_,fun a ha=>?_,fun j k hjk a ha z=>?_,fun j a ha z=>?_,by simp[A.lenS],by simp[A.lenR],fun j=>?_⟩
 ·by_cases h:j=i
  ·subst h;rw[Jf] at ha;simp at ha
  ·rw[Ee h] at ha;exact A.young j a ha
 ·rcases Ud.mp ha with z|z
  ·exact A.young i a (hG a z)
  ·exact A.youngR a z
 ·by_cases h:j=i
  ·subst h;rw[Jf] at ha;simp at ha
  ·rw[Ee h] at ha;exact A.live j a ha
 ·rcases Ud.mp ha with z|z
  ·exact A.live i a (hG a z)
  ·exact A.liveR a z
 ·by_cases h:j=i
  ·subst h;rw[Jf] at ha;simp at ha
  ·by_cases h':k=i
   ·subst h';rw[Jf] at z;simp at z
   ·rw[Ee h] at ha;rw[Ee h'] at z;exact A.disj j k hjk a ha z
 ·by_cases h:j=i
  ·subst h;rw[Jf] at ha;simp at ha
  ·rw[Ee h] at ha
   rcases Ud.mp z with z|z
   ·exact A.disj j i h a ha (hG a z)
   ·exact A.disjR j a ha z
 ·by_cases h:j=i
  ·subst h
   rw[Jf,Bb (l:=Γ.set _ _),Fj hi];exact hs
  ·rw[Ee h,Bb (l:=Γ.set _ _),Il (Ne.symm h),<- Bb]
   refine(A.slot j).mono (fun a vs s r=>⟨r,s.1,fun z=>?_,fun k z=>?_⟩) (fun a vs r=>r) fun a ha vs q=>q
   ·rcases Ud.mp z with z|z
    ·exact s.2.2 i (hG a z)
    ·exact s.2.1 z
   ·by_cases h':k=i
    ·subst h';rw[Jf] at z;simp at z
    ·rw[Ee h'] at z;exact s.2.2 k z
theorem Ag.noF(A:Ag K B H0 H σ Γ ρ F R)(ha:a∈F i): NO B (Se F i []) R a:=⟨A.own a (A.young i a ha),A.disjR i a ha,fun j z=>by
 by_cases h:j=i
 ·subst h;rw[Jf] at z;simp at z
 ·rw[Ee h] at z;exact A.disj j i h a z ha⟩
theorem Ag.freeze(A:Ag K B H0 H σ Γ ρ F R)(h:Γ[i]?=some m)(hm:m≠.U): Ag K B H0 H σ (Γ.set i .S) ρ (Se F i []) R:=by
 refine A.turn (G:=[]) h (by simp) ?_;show Ro K H (NO B (Se F i []) R) .S (ρ.getD i .non) σ[i]? [];have up:∀{a vs},NO B F R a->Rd H a vs->Rd H a vs/\NO B (Se F i []) R a:=fun {a vs} s r=>⟨r,s.1,s.2.1,fun j z=>by
  by_cases h:j=i
  ·subst h;rw[Jf] at z;simp at z
  ·rw[Ee h] at z;exact s.2.2 j z⟩
 cases m with
 |U=>exact Gb rfl hm
 |P=>obtain⟨v,h1,h2,h3⟩:=A.getP h;exact⟨rfl,v,h1,h3.flatS h2⟩
 |S=>obtain⟨v,h1,h2⟩:=A.getS h;exact⟨rfl,v,h1,Ya.mono (fun a vs s r=>up s r) (fun a vs r=>r) h2⟩
 |T =>
  obtain⟨a,vs,xs,h1,h2,h3,h4,h5⟩:=A.getT h;refine⟨rfl,_,h1, ?_⟩;rw[h2];exact⟨a,vs,rfl,.inl ⟨.inl h3,A.noF (by rw[h5];simp)⟩,Reps.mono (fun a vs s r=>up s r) (fun a vs r=>r) h4⟩
 |O =>
  obtain⟨v,h1,h2⟩:=A.getO h;exact⟨rfl,v,h1,h2.rep fun a ha=>A.noF ha⟩
theorem Ag.move(A:Ag K B H0 H σ Γ ρ F R)(h:Γ[i]?=some .O): Ag K B H0 H σ (Γ.set i .U) ρ (Se F i []) (F i++R):=A.turn (G:=F i) h (fun a ha=>ha) rfl
end
abbrev PX:=Str×PV
inductive Rr(α:Type) where
 |ok (a:α)|exc (e:PX)|bad
noncomputable def Rr.bind{α β:Type}:Rr α->(α->Rr β)->Rr β
 |.ok a,f=>f a
 |.exc e,_=>.exc e
 |.bad,_=>.bad
def Dn{α:Type}(r:Rr α)(ok:α->Prop)(ex:PX->Prop):Prop:=match r with
 |.ok a=>ok a
 |.exc e=>ex e
 |.bad=>False
theorem Dn.bind(h:Dn (r.bind f) ok ex): Dn r (fun a=>Dn (f a) ok ex) ex:=by
 cases r with
 |ok a=>exact h
 |exc e=>exact h
 |bad=>exact h
theorem Dn.imp(h:Dn r ok ex)(h1:∀a,r=.ok a->ok a->ok' a)(h2:∀e,ex e->ex' e): Dn r ok' ex':=by
 cases r with
 |ok a=>exact h1 a rfl h
 |exc e=>exact h2 e h
 |bad=>exact h
@[simp] theorem Rr.bind_ok: (Rr.ok a).bind f=f a:=rfl
@[simp] theorem Rr.bind_exc: (Rr.exc e:Rr α).bind f=.exc e:=rfl
@[simp] theorem Rr.bind_bad: (Rr.bad:Rr α).bind f=.bad:=rfl
inductive Kd|P|F|T|Z|A|N|M
def Cc(K:ZmM)(B:Ja->Prop)(H0 H:Hp)(σ:St)(Γ':List Md)(ρ:LI5)(F:Nat->LI2)(R:LI2)(k:Kd)(x:PV)(v:V)(H':Hp):Prop:=
 ∃F',(∀i,∀a∈F' i,a∈F i)/\match k with
 |.P=>x.flat=true/\Ya K H' (fun _=>True) x v/\Ag K B H0 H' σ Γ' ρ F' R
 |.F=>∃G,Pb K H' x v G/\(∀a∈G,a ∉ R/\(H a=none\/∃i,a∈F i))/\Ag K B H0 H' σ Γ' ρ F' (G++R)
 |.T=>∃a vs xs,x=.lst xs/\v=.ref a/\H' a=some (.lst vs)/\Reps K H' (NO B F' (a::R)) xs vs/\a ∉ R/\(H a=none\/∃i,a∈F i)/\Ag K B H0 H' σ Γ' ρ F' (a::R)
 |.Z=>Ya K H' (NO B F' R) x v/\Ag K B H0 H' σ Γ' ρ F' R
 |.A=>Ya K H' (fun _=>True) x v/\Ag K B H0 H' σ Γ' ρ F' R
 |.N=>False
 |.M=>False
def DE(K:ZmM)(EX:PX->Hp->Prop)(Γ Γ':List Md)(k:Kd)(te:TE)(f:LI5->Rr PV):Prop:=
 ∀(B:Ja->Prop) (H0 H:Hp) (σ:St) (ρ:LI5) (F:Nat->LI2) (R:LI2) (Q:VK),Ag K B H0 H σ Γ ρ F R ->
  Dn (f ρ) (fun x=>∀v H',Ia H H'->Cc K B H0 H σ Γ' ρ F R k x v H'->Q v H') (fun e=>∀H',Ia H0 H'->EX e H')->te σ H Q
def DT(K:ZmM)(EX:PX->Hp->Prop)(Γ Γ':List Md)(tt:TT)(f:LI5->Rr Bool):Prop:=
 ∀(B:Ja->Prop) (H0 H:Hp) (σ:St) (ρ:LI5) (F:Nat->LI2) (R:LI2) (Q:Bool->Hp->Prop),Ag K B H0 H σ Γ ρ F R ->
  Dn (f ρ) (fun b=>∀H' F',Ia H H'->(∀i,∀a∈F' i,a∈F i)->Ag K B H0 H' σ Γ' ρ F' R->Q b H') (fun e=>∀H',Ia H0 H'->EX e H')->tt σ H Q
section
variable {K:ZmM}{B:Ja->Prop}{EX:PX->Hp->Prop}{H0 H H':Hp}{σ:St}{Γ Γ' Γ1 Γ2:List Md}{ρ:LI5}{F F':Nat->LI2}{R:LI2}{k:Kd}{x:PV}{v:V}{te ta tb:TE}{f fa fb:LI5->Rr PV}
theorem Cc.ag(h:Cc K B H0 H σ Γ' ρ F R k x v H'):∃F',(∀i,∀a∈F' i,a∈F i)/\Ya K H' (fun _=>True) x v/\Ag K B H0 H' σ Γ' ρ F' R:=by
 obtain⟨F',hF,h⟩:=h;refine⟨F',hF, ?_⟩;cases k with
 |P=>exact⟨h.2.1,h.2.2⟩
 |F=>obtain⟨G,h1,h2,h3⟩:=h;exact⟨h1.rep fun _ _=>trivial,h3.less fun a ha=>Fe _ ha⟩
 |T=>obtain⟨a,vs,xs,rfl,rfl,h1,h2,h3,h4,h5⟩:=h;exact⟨⟨a,vs,rfl,.inl ⟨.inl h1,trivial⟩,h2.any⟩,h5.less fun a ha=>Fi _ ha⟩
 |Z=>exact⟨h.1.any,h.2⟩
 |A=>exact h
 |N=>exact h.elim
 |M=>exact h.elim
theorem Cc.toA(h:Cc K B H0 H σ Γ' ρ F R k x v H'):Cc K B H0 H σ Γ' ρ F R .A x v H':=let ⟨F',a,b,c⟩:=h.ag;⟨F',a,b,c⟩
theorem Cc.PF(h:Cc K B H0 H σ Γ' ρ F R .P x v H'):Cc K B H0 H σ Γ' ρ F R .F x v H':=by
 obtain⟨F',hF,h1,h2,h3⟩:=h;exact⟨F',hF,[],h2.tree h1,by simp,h3⟩
theorem Cc.PZ(h:Cc K B H0 H σ Γ' ρ F R .P x v H'):Cc K B H0 H σ Γ' ρ F R .Z x v H':=by
 obtain⟨F',hF,h1,h2,h3⟩:=h;exact⟨F',hF,h2.flatS h1,h3⟩
theorem Cc.FZ(h:Cc K B H0 H σ Γ' ρ F R .F x v H'):Cc K B H0 H σ Γ' ρ F R .Z x v H':=by
 obtain⟨F',hF,G,h1,h2,h3⟩:=h;exact⟨F',hF,h1.rep fun a ha=>⟨h3.own a (h3.youngR a (Bf _ ha)),(h2 a ha).1,fun i z=>h3.disjR i a z (Bf _ ha)⟩,h3.less fun a ha=>Fe _ ha⟩
theorem DE.imp(h:DE K EX Γ Γ' k te f)(hr:∀{B:Ja->Prop}{H0 H H':Hp}{σ:St}{ρ:LI5}{F:Nat->LI2}{R:LI2}{x:PV}{v:V},Cc K B H0 H σ Γ' ρ F R k x v H'->Cc K B H0 H σ Γ' ρ F R k' x v H'): DE K EX Γ Γ' k' te f:=
 fun B H0 H σ ρ F R Q A d=>h B H0 H σ ρ F R Q A (d.imp (fun x _ q v H' s r=>q v H' s (hr r)) fun e q=>q)
theorem DE.toA(h:DE K EX Γ Γ' k te f):DE K EX Γ Γ' .A te f:=h.imp Cc.toA
theorem DE.PF(h:DE K EX Γ Γ' .P te f):DE K EX Γ Γ' .F te f:=h.imp Cc.PF
theorem DE.PZ(h:DE K EX Γ Γ' .P te f):DE K EX Γ Γ' .Z te f:=h.imp Cc.PZ
theorem DE.FZ(h:DE K EX Γ Γ' .F te f):DE K EX Γ Γ' .Z te f:=h.imp Cc.FZ
def grd(x:PV):Rr PV:=if x.flat=true then .ok x else .bad
theorem DE.grd(h:DE K EX Γ Γ' .A te f):DE K EX Γ Γ' .P te (fun ρ=>(f ρ).bind grd):=fun B H0 H σ ρ F R Q A d=>by
 refine h B H0 H σ ρ F R Q A (d.bind.imp (fun x _ q v H' s r=>?_) fun e q=>q);unfold L2.grd at q;by_cases hx:x.flat=true
 ·rw[Ba hx] at q
  obtain⟨F',h1,h2,h3⟩:=r;exact q v H' s ⟨F',h1,hx,h2,h3⟩
 ·rw[Aa hx] at q;exact q.elim
theorem Z8(hf:x.flat=true)(hr:∀H,Ya K H (fun _=>True) x v): DE K EX Γ Γ .P (tC v) (fun _=>.ok x):=fun B H0 H σ ρ F R Q A d =>
 d v H (Ia.refl H) ⟨F,fun _ _ h=>h,hf,hr H,A⟩
theorem Ak{i:Int}:DE K EX Γ Γ .P (tC (.int i)) (fun _=>.ok (.int i)):=Z8 rfl fun _=>rfl
theorem Ku: DE K EX Γ Γ .P (tC (.bl b)) (fun _=>.ok (.bl b)):=Z8 rfl fun _=>rfl
theorem B8:DE K EX Γ Γ .P (tC .non) (fun _=>.ok .non):=Z8 rfl fun _=>rfl
theorem Zg{x:Str}:DE K EX Γ Γ .P (tC (.str x)) (fun _=>.ok (.str x)):=Z8 rfl fun _=>rfl
noncomputable def gv(i:Nat)(ρ:LI5):PV:=ρ.getD i .non
theorem FI(h:Γ[i]?=some m)(hm:m≠.U): DE K EX Γ Γ .A (Wg i) (fun ρ=>.ok (gv i ρ)):=fun B H0 H σ ρ F R Q A d=>by
 obtain⟨v,h1,h2⟩:=A.getA h hm;exact⟨v,h1,d v H (Ia.refl H) ⟨F,fun _ _ h=>h,h2,A⟩⟩
theorem Fn(h:Γ[i]?=some .P): DE K EX Γ Γ .P (Wg i) (fun ρ=>.ok (gv i ρ)):=fun B H0 H σ ρ F R Q A d=>by
 obtain⟨v,h1,h2,h3⟩:=A.getP h;exact⟨v,h1,d v H (Ia.refl H) ⟨F,fun _ _ h=>h,h2,h3,A⟩⟩
theorem Ji(h:Γ[i]?=some .S): DE K EX Γ Γ .Z (Wg i) (fun ρ=>.ok (gv i ρ)):=fun B H0 H σ ρ F R Q A d=>by
 obtain⟨v,h1,h2⟩:=A.getS h;exact⟨v,h1,d v H (Ia.refl H) ⟨F,fun _ _ h=>h,h2,A⟩⟩
theorem AA: ∀j,∀a∈Se F i [] j,a∈F j:=fun j a ha=>by
 by_cases h:j=i
 ·subst h;rw[Jf] at ha;simp at ha
 ·rw[Ee h] at ha;exact ha
theorem Zf4(h:Γ[i]?=some .O): DE K EX Γ (Γ.set i .U) .F (Wg i) (fun ρ=>.ok (gv i ρ)):=fun B H0 H σ ρ F R Q A d=>by
 obtain⟨v,h1,h2⟩:=A.getO h;exact⟨v,h1,d v H (Ia.refl H) ⟨Se F i [],AA,F i,h2,fun a ha=>⟨A.disjR i a ha,.inr ⟨i,ha⟩⟩,A.move h⟩⟩
theorem C3(h:Γ[i]?=some m)(hm:m≠.U): DE K EX Γ (Γ.set i .S) .Z (Wg i) (fun ρ=>.ok (gv i ρ)):=fun B H0 H σ ρ F R Q A d=>by
 have A':=A.freeze h hm;obtain⟨v,h1,h2⟩:=A'.getS (Fj (A.lt h));exact⟨v,h1,d v H (Ia.refl H) ⟨Se F i [],AA,h2,A'⟩⟩
def BG(K:ZmM)(r:R2)(o:PV->PV->Rr PV):Prop:=∀{H:Hp}{x y:PV}{v w:V}{Q:VK},Ya K H (fun _=>True) x v->Ya K H (fun _=>True) y w ->
 (∃z,o x y=.ok z/\(z.flat=true->∀u,Ya K H (fun _=>True) z u->Q u H))->r v w H Q
theorem Dn.bind2{α β γ:Type}{r:Rr α}{q:Rr β}{f:α->β->Rr γ}{ok:γ->Prop}{ex:PX->Prop}(h:Dn (r.bind fun a=>q.bind fun b=>f a b) ok ex):Dn r (fun a=>Dn q (fun b=>Dn (f a b) ok ex) ex) ex:=
 h.bind.imp (fun a _ h=>h.bind) fun e h=>h
theorem Dr{Q:V->V->Hp->Prop}{ok:PV->PV->Prop}(ha:DE K EX Γ Γ1 .A ta fa)(hb:DE K EX Γ1 Γ2 .A tb fb)(A:Ag K B H0 H σ Γ ρ F R)(d:Dn (fa ρ) (fun x=>Dn (fb ρ) (fun y=>ok x y) (fun e=>∀H',Ia H0 H'->EX e H')) (fun e=>∀H',Ia H0 H'->EX e H'))(hq:∀x y v w H' F',ok x y->Ia H H'->(∀i,∀a∈F' i,a∈F i)->Ya K H' (fun _=>True) x v->Ya K H' (fun _=>True) y w->Ag K B H0 H' σ Γ2 ρ F' R->Q v w H') :
  ta σ H fun v H1=>tb σ H1 fun w H2=>Q v w H2:=by
 refine ha B H0 H σ ρ F R _ A (d.imp (fun x _ d v H1 s1 r1=>?_) fun e q=>q);obtain⟨F1,f1,p1,A1⟩:=r1;refine hb B H0 H1 σ ρ F1 R _ A1 (d.imp (fun y _ q w H2 s2 r2=>?_) fun e q=>q);obtain⟨F2,f2,p2,A2⟩:=r2;exact hq x y v w H2 F2 q (s1.trans s2) (fun i a h=>f1 i a (f2 i a h)) (p1.same s2) p2 A2
theorem D8(hr:BG K r o)(ho:∀x y z,o x y=.ok z->z.flat=true)(hx:∀x y e,o x y≠.exc e)(ha:DE K EX Γ Γ1 .A ta fa)(hb:DE K EX Γ1 Γ2 .A tb fb):
  DE K EX Γ Γ2 .P (Ff r ta tb) (fun ρ=>(fa ρ).bind fun x=>(fb ρ).bind fun y=>o x y):=fun B H0 H σ ρ F R Q A d=>by
 refine Dr ha hb A d.bind2 fun x y v w H' F' d s hF p1 p2 A'=>?_;cases e:o x y with
 |ok z=>rw[e] at d;exact hr p1 p2 ⟨z,e,fun hf u hu=>d u H' s ⟨F',hF,hf,hu,A'⟩⟩
 |exc q=>exact Gb e (hx x y q)
 |bad=>rw[e] at d;exact d.elim
def UnP(K:ZmM)(r:V->Hp->VK->Prop)(o:PV->Rr PV):Prop:=∀{H:Hp}{x:PV}{v:V}{Q:VK},Ya K H (fun _=>True) x v->(∃z,o x=.ok z/\(z.flat=true->∀u,Ya K H (fun _=>True) z u->Q u H))->r v H Q
theorem Zf3(hr:UnP K r o)(hx:∀x e,o x≠.exc e)(ha:DE K EX Γ Γ1 .A ta fa): DE K EX Γ Γ1 .P (NN r ta) (fun ρ=>(fa ρ).bind o):=fun B H0 H σ ρ F R Q A d=>by
 refine ha B H0 H σ ρ F R _ A (d.bind.imp (fun x _ d v H1 s1 r1=>?_) fun e q=>q);obtain⟨F1,f1,p1,A1⟩:=r1;cases e:o x with
 |ok z=>rw[e] at d;exact hr p1 ⟨z,e,fun hf u hu=>d u H1 s1 ⟨F1,f1,hf,hu,A1⟩⟩
 |exc q=>exact Gb e (hx x q)
 |bad=>rw[e] at d;exact d.elim
noncomputable def oI(C:Int->Int->Bool)(g:Int->Int->PV)(x y:PV):Rr PV:=match x,y with
 |.int i,.int j=>if C i j=true then .ok (g i j) else .bad
 |_,_=>.bad
theorem ZA{i j: Int}(h:C i j=true): oI C g (.int i) (.int j)=.ok (g i j):=Ba h
theorem Zjv(hC:∀i j,C i j=true->D i j)(hg:∀H i j,Ya K H (fun _=>True) (g i j) (g' i j))(hf:∀i j,(g i j).flat=true): BG K (rI D g') (oI C g):=by
 intro H x y v w Q rx ry ⟨z,e,q⟩;cases x<;>cases y<;>first|(simp only[oI] at e;cases e;done)|skip
 rename_i i j;simp only[oI] at e;by_cases h:C i j=true
 ·rw[Ba h] at e;cases e
  cases rx;cases ry;exact⟨i,j,rfl,rfl,hC i j h,q (hf i j) _ (hg H i j)⟩
 ·rw[Aa h] at e;cases e
theorem Zjw(hg:∀H i j,Ya K H (fun _=>True) (g i j) (g' i j))(hf:∀i j,(g i j).flat=true): BG K (Oj g') (oI (fun _ _=>true) g):=by
 intro H x y v w Q rx ry ⟨z,e,q⟩;cases x<;>cases y<;>first|(simp only[oI] at e;cases e;done)|skip
 rename_i i j;simp only[oI,if_true] at e;cases e;cases rx;cases ry;exact⟨i,j,rfl,rfl,q (hf i j) _ (hg H i j)⟩
theorem QY(x y:PV)(e:PX): oI C g x y≠.exc e:=by
 cases x<;>cases y<;>first|(intro h;simp only[oI] at h;cases h;done)|skip
 intro h;simp only[oI] at h
 split at h<;>cases h
theorem UY(hf:∀i j,(g i j).flat=true)(x y z:PV)(h:oI C g x y=.ok z): z.flat=true:=by
 cases x<;>cases y<;>first|(simp only[oI] at h;cases h;done)|skip
 simp only[oI] at h
 split at h
 ·cases h;exact hf _ _
 ·cases h
end
mutual
noncomputable def PV.noX:PV->Bool
 |.exc _=>false
 |.exa _ _=>false
 |.box _ _ _=>false
 |.fz xs=>PV.noXs xs
 |.any=>false
 |.lst xs=>PV.noXs xs
 |.tup xs=>PV.noXs xs
 |.non=>true
 |.bl _=>true
 |.int _=>true
 |.str _=>true
noncomputable def PV.noXs:LI5->Bool
 |[]=>true
 |x::xs=>x.noX&&PV.noXs xs
end
theorem PV.noXs_ints:∀(ns:LI0),PV.noXs (ns.map PV.int)=true
 |[]=>rfl
 |n::ns=>by simp[PV.noXs,PV.noX,PV.noXs_ints ns]
mutual
noncomputable def PV.dat:PV->PyData
 |.non=>.none
 |.bl b=>.bool b
 |.int i=>.int i
 |.str x=>.str x
 |.exc _=>.none
 |.exa _ _=>.none
 |.box _ _ _=>.none
 |.fz xs=>.list (PV.dats xs)
 |.any=>.none
 |.lst xs=>.list (PV.dats xs)
 |.tup xs=>.tuple (PV.dats xs)
noncomputable def PV.dats:LI5->List PyData
 |[]=>[]
 |x::xs=>x.dat::PV.dats xs
end
section
variable {X:Cx}{Za:List (Ja×Obj)}{σ:St}{H:Hp}{s:Ha}{S:Ja->Prop}
theorem Vg{K:ZmM}{a:Ja}{vs:List V}(h:(Rd H a (.lst vs)/\S a)\/KL K a vs):Uc K H a vs:=by
 rcases h with h|h
 ·exact .inl h.1
 ·exact .inr h
mutual
theorem Ya.reads(I:Da X Za σ H s):∀{x:PV}{v:V}{u:Va},x.noX=true->Ya X.K H S x v->Nb v u->∃as,Reads s.heap u x.dat as
 |.non,_,_,_,h,r=>by cases h;cases r;exact⟨_,.none⟩
 |.bl _,_,_,_,h,r=>by cases h;cases r;exact⟨_,.bool _⟩
 |.int _,_,_,_,h,r=>by cases h;obtain⟨t,rfl⟩:=r;exact⟨_,.int _ _⟩
 |.str _,_,_,_,h,r=>by cases h;obtain⟨t,rfl⟩:=r;exact⟨_,.str _ _⟩
 |.exc _,_,_,z,_,_=>by simp[PV.noX] at z
 |.exa _ _,_,_,z,_,_=>by simp[PV.noX] at z
 |.box _ _ _,_,_,z,_,_=>by simp[PV.noX] at z
 |.any,_,_,z,_,_=>by simp[PV.noX] at z
 |.fz xs,_,_,z,h,r=>by
  obtain⟨a,vs,rfl,⟨o,hn⟩,hr⟩:=h;cases r;obtain⟨its,rv,pl,_⟩:=I.list (Vg (S:=fun _=>True) (.inl ⟨.inr ⟨o,hn.1⟩,trivial⟩));obtain⟨as,ra⟩:=Reps.reads I (by simpa[PV.noX] using z) hr rv;obtain⟨o,ho,hc,n,hd⟩:=pl.isList;exact⟨_,.list ho hc hd (by simpa using ra)⟩
 |.lst xs,_,_,z,h,r=>by
  obtain⟨a,vs,rfl,hn,hr⟩:=h;cases r;obtain⟨its,rv,pl,_⟩:=I.list (Vg hn);obtain⟨as,ra⟩:=Reps.reads I (by simpa[PV.noX] using z) hr rv;obtain⟨o,ho,hc,n,hd⟩:=pl.isList;exact⟨_,.list ho hc hd (by simpa using ra)⟩
 |.tup xs,_,_,z,h,r=>by
  obtain⟨a,vs,rfl,hn,hr⟩:=h;cases r;obtain⟨its,rv,⟨o,ho,hc,n,hd⟩,_⟩:=I.tuple hn.sqT;obtain⟨as,ra⟩:=Reps.reads I (by simpa[PV.noX] using z) hr rv;exact⟨_,.tuple ho hc hd (by simpa using ra)⟩
theorem Reps.reads(I:Da X Za σ H s):∀{xs:LI5}{vs:List V}{us:LI3},PV.noXs xs=true->Reps X.K H S xs vs->Ub vs us->∃as,ReadsAll s.heap us (PV.dats xs) as
 |[],_,_,_,h,r=>by rw[h] at r;cases r;exact⟨_,.nil⟩
 |x::xs,_,_,z,h,r=>by
  simp only[PV.noXs,Bool.and_eq_true] at z;obtain⟨v,vs,rfl,h1,h2⟩:=h;cases r with
  |cons r1 r2 =>
   obtain⟨as,a1⟩:=Ya.reads I z.1 h1 r1;obtain⟨bs,b1⟩:=Reps.reads I z.2 h2 r2;exact⟨_,.cons a1 b1⟩
end
def Ni(x:PV):Bool:=x.noX&&x.dat.canLay0&&decide (x.dat.depth<=64)
def BB(K:ZmM)(g:Bool->Bool):R2:=fun x y H Q=>∃p q,Ya K H (fun _=>True) p x/\Ya K H (fun _=>True) q y/\Ni p=true/\Ni q=true/\Q (.bl (g (PyData.eqv p.dat q.dat))) H
theorem PK{K:ZmM}(hu:X.A.units+64<cLine)(e:X.K=K:=by rfl):Cg X (Xl .Eq) (BB K id):=by
 subst e;intro Za s σ H x y v u Q I rx ry h;obtain⟨p,q,h1,h2,h3,h4,hq⟩:=h;simp only[Ni,Bool.and_eq_true,decide_eq_true_eq] at h3 h4;obtain⟨as,ra⟩:=h1.reads I h3.1.1 rx;obtain⟨bs,rb⟩:=h2.reads I h4.1.1 ry;exact SeqAt.rcAt_reads ra rb h3.1.2 h4.1.2 (by have:=UF p.dat.depth q.dat.depth;lia) _ _ _ _ ⟨.bl (PyData.eqv p.dat q.dat),H,I,rfl,hq⟩
theorem U4{K:ZmM}(hu:X.A.units+64<cLine)(e:X.K=K:=by rfl):Cg X (Xl .NotEq) (BB K (!·)):=by
 subst e;intro Za s σ H x y v u Q I rx ry h;obtain⟨p,q,h1,h2,h3,h4,hq⟩:=h;simp only[Ni,Bool.and_eq_true,decide_eq_true_eq] at h3 h4;obtain⟨as,ra⟩:=h1.reads I h3.1.1 rx;obtain⟨bs,rb⟩:=h2.reads I h4.1.1 ry;exact SeqAt.rcNeAt_reads ra rb h3.1.2 h4.1.2 (by have:=UF p.dat.depth q.dat.depth;lia) _ _ _ _ ⟨.bl (!PyData.eqv p.dat q.dat),H,I,rfl,hq⟩
end
def Mf(g:Bool->Bool)(x y:PV):Rr PV:=if (Ni x&&Ni y)=true then .ok (.bl (g (PyData.eqv x.dat y.dat))) else .bad
def Vu(i j:Int):Prop:=i.natAbs<2^60000/\j.natAbs<2^60000
def Ju(i j:Int):Prop:=0<j/\j.natAbs<2^9000
noncomputable instance (i j:Int):Decidable (Vu i j):=by unfold Vu;infer_instance
noncomputable instance (i j:Int):Decidable (Ju i j):=by unfold Ju;infer_instance
noncomputable instance (i j:Int):Decidable (Dw i j):=by unfold Dw;infer_instance
theorem BS{i: Int}(h:i.natAbs<2^n): Builtin.Int.intBits i<=n:=by
 unfold Builtin.Int.intBits
 split
 ·exact Og _
 ·rename_i h0
  have:i.natAbs≠0:=by simpa using h0
  exact Nat.succ_le_of_lt ((Nat.log2_lt this).mpr h)
section
variable {X:Cx}
theorem Bj:Cg X (Wp .Mult) (rI Vu fun i j=>.int (i*j)):=VA fun _ _ _ _ _ _ _ hc q=>mul_int q (PyProof.Rows.mulOk_of_bits (BS hc.1) (BS hc.2) (by decide))
theorem Fk:Cg X (Wp .FloorDiv) (rI Ju fun i j=>.int (i/j)):=VA fun i j _ _ _ _ _ hc q=>by
 refine floordiv_int (by have:=hc.1;lia) ?_ (.inl (PyProof.noPylong_of_log2 ?_))
 ·rw[Int.fdiv_eq_ediv_of_nonneg _ (by have:=hc.1;lia)];exact q
 ·have h0:j.natAbs≠0:=by have:=hc.1;lia
  exact(Nat.log2_lt h0).mpr hc.2
variable {K:ZmM}{B:Ja->Prop}{EX:PX->Hp->Prop}{H0 H:Hp}{σ:St}{Γ Γ' Γ1 Γ2:List Md}{ρ:LI5}{F:Nat->LI2}{R:LI2}{k:Kd}{x:PV}{v:V}{ta tb:TE}{fa fb fc:LI5->Rr PV}
noncomputable abbrev RK:PV->PV->Rr PV:=oI (fun _ _=>true) fun i j=>.int (i+j)
noncomputable abbrev XY:PV->PV->Rr PV:=oI (fun _ _=>true) fun i j=>.int (i-j)
abbrev BL:PV->PV->Rr PV:=oI (fun i j=>decide (Vu i j)) fun i j=>.int (i*j)
abbrev TK:PV->PV->Rr PV:=oI (fun i j=>decide (Ju i j)) fun i j=>.int (i/j)
noncomputable abbrev SY:PV->PV->Rr PV:=oI (fun _ j=>decide (0<j)) fun i j=>.int (i%j)
abbrev Uy:PV->PV->Rr PV:=oI (fun i j=>decide (Dw i j)) fun i j=>.int (i^j.toNat)
noncomputable abbrev RY:PV->PV->Rr PV:=oI (fun _ _=>true) fun i j=>.bl (decide (i<j))
noncomputable abbrev pLe:PV->PV->Rr PV:=oI (fun _ _=>true) fun i j=>.bl (decide (i<=j))
noncomputable abbrev LY:PV->PV->Rr PV:=oI (fun _ _=>true) fun i j=>.bl (decide (j<i))
noncomputable abbrev KY:PV->PV->Rr PV:=oI (fun _ _=>true) fun i j=>.bl (decide (j<=i))
theorem C8(hC:∀i j,C i j=true->D i j)(hg:∀H i j,Ya K H (fun _=>True) (g i j) (g' i j))(hf:∀i j,(g i j).flat=true)(ha:DE K EX Γ Γ1 .A ta fa)(hb:DE K EX Γ1 Γ2 .A tb fb): DE K EX Γ Γ2 .P (Ff (rI D g') ta tb) (fun ρ=>(fa ρ).bind fun x=>(fb ρ).bind fun y=>oI C g x y):=
 D8 (Zjv hC hg hf) (UY hf) QY ha hb
theorem Zx(hg:∀H i j,Ya K H (fun _=>True) (g i j) (g' i j))(hf:∀i j,(g i j).flat=true)(ha:DE K EX Γ Γ1 .A ta fa)(hb:DE K EX Γ1 Γ2 .A tb fb): DE K EX Γ Γ2 .P (Ff (Oj g') ta tb) (fun ρ=>(fa ρ).bind fun x=>(fb ρ).bind fun y=>oI (fun _ _=>true) g x y):=
 D8 (Zjw hg hf) (UY hf) QY ha hb
theorem Ve(ha:DE K EX Γ Γ1 .A ta fa)(hb:DE K EX Γ1 Γ2 .A tb fb):DE K EX Γ Γ2 .P (Ff (Oj fun i j=>.int (i+j)) ta tb) (fun ρ=>(fa ρ).bind fun x=>(fb ρ).bind fun y=>RK x y):=Zx (fun _ _ _=>rfl) (fun _ _=>rfl) ha hb
theorem Nu(ha:DE K EX Γ Γ1 .A ta fa)(hb:DE K EX Γ1 Γ2 .A tb fb):DE K EX Γ Γ2 .P (Ff (Oj fun i j=>.int (i-j)) ta tb) (fun ρ=>(fa ρ).bind fun x=>(fb ρ).bind fun y=>XY x y):=Zx (fun _ _ _=>rfl) (fun _ _=>rfl) ha hb
theorem A8(ha:DE K EX Γ Γ1 .A ta fa)(hb:DE K EX Γ1 Γ2 .A tb fb):DE K EX Γ Γ2 .P (Ff (Oj fun i j=>.bl (decide (i<j))) ta tb) (fun ρ=>(fa ρ).bind fun x=>(fb ρ).bind fun y=>RY x y):=Zx (fun _ _ _=>rfl) (fun _ _=>rfl) ha hb
theorem Zfu(ha:DE K EX Γ Γ1 .A ta fa)(hb:DE K EX Γ1 Γ2 .A tb fb):DE K EX Γ Γ2 .P (Ff (Oj fun i j=>.bl (decide (i<=j))) ta tb) (fun ρ=>(fa ρ).bind fun x=>(fb ρ).bind fun y=>pLe x y):=Zx (fun _ _ _=>rfl) (fun _ _=>rfl) ha hb
theorem Us(ha:DE K EX Γ Γ1 .A ta fa)(hb:DE K EX Γ1 Γ2 .A tb fb):DE K EX Γ Γ2 .P (Ff (Oj fun i j=>.bl (decide (j<i))) ta tb) (fun ρ=>(fa ρ).bind fun x=>(fb ρ).bind fun y=>LY x y):=Zx (fun _ _ _=>rfl) (fun _ _=>rfl) ha hb
theorem Zfq(ha:DE K EX Γ Γ1 .A ta fa)(hb:DE K EX Γ1 Γ2 .A tb fb):DE K EX Γ Γ2 .P (Ff (Oj fun i j=>.bl (decide (j<=i))) ta tb) (fun ρ=>(fa ρ).bind fun x=>(fb ρ).bind fun y=>KY x y):=Zx (fun _ _ _=>rfl) (fun _ _=>rfl) ha hb
theorem Jj(ha:DE K EX Γ Γ1 .A ta fa)(hb:DE K EX Γ1 Γ2 .A tb fb):DE K EX Γ Γ2 .P (Ff (rI Vu fun i j=>.int (i*j)) ta tb) (fun ρ=>(fa ρ).bind fun x=>(fb ρ).bind fun y=>BL x y):=C8 (fun _ _ h=>Wi h) (fun _ _ _=>rfl) (fun _ _=>rfl) ha hb
theorem Qk(ha:DE K EX Γ Γ1 .A ta fa)(hb:DE K EX Γ1 Γ2 .A tb fb):DE K EX Γ Γ2 .P (Ff (rI Ju fun i j=>.int (i/j)) ta tb) (fun ρ=>(fa ρ).bind fun x=>(fb ρ).bind fun y=>TK x y):=C8 (fun _ _ h=>Wi h) (fun _ _ _=>rfl) (fun _ _=>rfl) ha hb
theorem Nd(ha:DE K EX Γ Γ1 .A ta fa)(hb:DE K EX Γ1 Γ2 .A tb fb):DE K EX Γ Γ2 .P (Ff (rI (fun _ j=>0<j) fun i j=>.int (i%j)) ta tb) (fun ρ=>(fa ρ).bind fun x=>(fb ρ).bind fun y=>SY x y):=C8 (fun _ _ h=>Wi h) (fun _ _ _=>rfl) (fun _ _=>rfl) ha hb
theorem Jx(ha:DE K EX Γ Γ1 .A ta fa)(hb:DE K EX Γ1 Γ2 .A tb fb):DE K EX Γ Γ2 .P (Ff (rI Dw fun i j=>.int (i^j.toNat)) ta tb) (fun ρ=>(fa ρ).bind fun x=>(fb ρ).bind fun y=>Uy x y):=C8 (fun _ _ h=>Wi h) (fun _ _ _=>rfl) (fun _ _=>rfl) ha hb
noncomputable def KA(x:PV):Rr PV:=match x with
 |.int i=>.ok (.int (-i))
 |_=>.bad
theorem BI(ha:DE K EX Γ Γ1 .A ta fa):DE K EX Γ Γ1 .P (NN (rU fun i=>.int (-i)) ta) (fun ρ=>(fa ρ).bind KA):=by
 refine Zf3 (fun {H x v Q} rx ⟨z,e,q⟩=>?_) (fun x e h=>?_) ha
 ·cases x<;>first|(simp only[KA] at e;cases e;done)|skip
  cases e;cases rx;exact⟨_,rfl,q rfl _ rfl⟩
 ·cases x<;>(simp only[KA] at h;cases h)
theorem ZjJ(x y:PV)(e:PX): Mf g x y≠.exc e:=by
 unfold Mf;intro h
 split at h<;>cases h
theorem ZjI(x y z:PV)(h:Mf g x y=.ok z): z.flat=true:=by
 unfold Mf at h
 split at h
 ·cases h;rfl
 ·cases h
theorem Ke(ha:DE K EX Γ Γ1 .A ta fa)(hb:DE K EX Γ1 Γ2 .A tb fb): DE K EX Γ Γ2 .P (Ff (BB K g) ta tb) (fun ρ=>(fa ρ).bind fun x=>(fb ρ).bind fun y=>Mf g x y):=by
 refine D8 (fun {H x y v w Q} rx ry ⟨z,e,q⟩=>?_) ZjI ZjJ ha hb;unfold Mf at e;by_cases h:(Ni x&&Ni y)=true
 ·rw[Ba h] at e;cases e
  rw[Bool.and_eq_true] at h;exact⟨x,y,rx,ry,h.1,h.2,q rfl _ rfl⟩
 ·rw[Aa h] at e;cases e
noncomputable def YK(g:Bool->Bool)(x:PV):Rr PV:=match x with
 |.non=>.ok (.bl (g true))
 |_=>.ok (.bl (g false))
theorem Zla(h:Ya K H S x v): decide (v=.non)=match x with|.non=>true|_=>false:=by
 cases x<;>first|(cases h;rfl)|(obtain⟨a,vs,rfl,_⟩:=h;rfl)|(obtain⟨a,vs,c,rfl,_⟩:=h;rfl)|(obtain⟨a,o,c,d,fs,rfl,_⟩:=h;rfl)|(obtain⟨a,rfl⟩:=h;rfl)
theorem Zfr(ha:DE K EX Γ Γ1 .A ta fa):DE K EX Γ Γ1 .P (Ff (fun x y H Q=>y=.non/\Q (.bl (decide (x=.non))) H) ta (tC .non)) (fun ρ=>(fa ρ).bind (YK id)):=fun B H0 H σ ρ F R Q A d=>by
 refine ha B H0 H σ ρ F R _ A (d.bind.imp (fun x _ d v H1 s1 r1=>?_) fun e q=>q);obtain⟨F1,f1,p1,A1⟩:=r1;have e:=Zla p1;refine⟨rfl, ?_⟩;rw[e];cases x<;>exact d _ H1 s1 ⟨F1,f1,rfl,rfl,A1⟩
noncomputable def asB(x:PV):Rr Bool:=match x with
 |.bl b=>.ok b
 |_=>.bad
theorem Dn.asB(d:Dn (asB x) ok ex): ∃b,x=.bl b/\ok b:=by
 cases x with
 |bl b=>exact⟨b,rfl,d⟩
 |_=>exact d.elim
theorem Zfx(ha:DE K EX Γ Γ1 .A ta fa):DE K EX Γ Γ1 .P (Zbb ta) (fun ρ=>(fa ρ).bind fun x=>(asB x).bind fun b=>.ok (.bl (!b))):=fun B H0 H σ ρ F R Q A d=>by
 refine ha B H0 H σ ρ F R _ A (d.bind.imp (fun x _ d v H1 s1 r1=>?_) fun e q=>q);obtain⟨b,rfl,d⟩:=d.bind.asB;obtain⟨F1,f1,p1,A1⟩:=r1;cases p1;exact⟨b,rfl,d _ H1 s1 ⟨F1,f1,rfl,rfl,A1⟩⟩
theorem Cc.shift(s1:Ia H H1)(f1:∀i,∀a∈F1 i,a∈F i)(h:Cc K B H0 H1 σ Γ2 ρ F1 R k y w H2): Cc K B H0 H σ Γ2 ρ F R k y w H2:=by
 obtain⟨F2,f2,h⟩:=h;refine⟨F2,fun i a ha=>f1 i a (f2 i a ha), ?_⟩;have org:∀a,(H1 a=none\/∃i,a∈F1 i)->(H a=none\/∃i,a∈F i):=fun a h=>h.elim (fun z=>.inl (s1.free z)) fun⟨i,z⟩=>.inr ⟨i,f1 i a z⟩;cases k with
 |P=>exact h
 |F=>obtain⟨G,h1,h2,h3⟩:=h;exact⟨G,h1,fun a ha=>⟨(h2 a ha).1,org a (h2 a ha).2⟩,h3⟩
 |T=>obtain⟨a,vs,xs,h1,h2,h3,h4,h5,h6,h7⟩:=h;exact⟨a,vs,xs,h1,h2,h3,h4,h5,org a h6,h7⟩
 |Z=>exact h
 |A=>exact h
 |N=>exact h.elim
 |M=>exact h.elim
theorem Y7(ha:DE K EX Γ Γ .A ta fa)(hb:DE K EX Γ Γ .P tb fb):DE K EX Γ Γ .P (ZaJ ta tb) (fun ρ=>(fa ρ).bind fun x=>(asB x).bind fun b=>if b=true then fb ρ else .ok (.bl false)):=fun B H0 H σ ρ F R Q A d=>by
 refine ha B H0 H σ ρ F R _ A (d.bind.imp (fun x _ d v H1 s1 r1=>?_) fun e q=>q);obtain⟨b,rfl,d⟩:=d.bind.asB;obtain⟨F1,f1,p1,A1⟩:=r1;cases p1;refine⟨b,rfl, ?_⟩;cases b with
 |true=>exact hb B H0 H1 σ ρ F1 R _ A1 (d.imp (fun y _ q w H2 s2 r2=>q w H2 (s1.trans s2) (r2.shift s1 f1)) fun e q=>q)
 |false=>exact d _ H1 s1 ⟨F1,f1,rfl,rfl,A1⟩
theorem Pc(ha:DE K EX Γ Γ' .A ta fa):DT K EX Γ Γ' (MN ta) (fun ρ=>(fa ρ).bind asB):=fun B H0 H σ ρ F R Q A d=>by
 refine ha B H0 H σ ρ F R _ A (d.bind.imp (fun x _ d v H1 s1 r1=>?_) fun e q=>q);obtain⟨b,rfl,d⟩:=d.asB;obtain⟨F1,f1,p1,A1⟩:=r1;cases p1;exact⟨b,rfl,d H1 F1 s1 f1 A1⟩
theorem Zp(ha:DE K EX Γ Γ' .A ta fa):DT K EX Γ Γ' (tB ta) (fun ρ=>(fa ρ).bind asB):=Pc ha
theorem ZfL{fc fd: LI5->Rr Bool}(hc:DT K EX Γ Γ c fc)(hd:DT K EX Γ Γ d fd): DT K EX Γ Γ (ZaI c d) (fun ρ=>(fc ρ).bind fun b=>if b=true then fd ρ else .ok false):=fun B H0 H σ ρ F R Q A dn=>by
 refine hc B H0 H σ ρ F R _ A (dn.bind.imp (fun b _ dn H1 F1 s1 f1 A1=>?_) fun e q=>q);cases b with
 |true=>exact hd B H0 H1 σ ρ F1 R _ A1 (dn.imp (fun y _ q H2 F2 s2 f2 A2=>q H2 F2 (s1.trans s2) (fun i a h=>f1 i a (f2 i a h)) A2) fun e q=>q)
 |false=>exact dn H1 F1 s1 f1 A1
theorem L8{fc fd: LI5->Rr Bool}(hc:DT K EX Γ Γ c fc)(hd:DT K EX Γ Γ d fd): DT K EX Γ Γ (tOr c d) (fun ρ=>(fc ρ).bind fun b=>if b=true then .ok true else fd ρ):=fun B H0 H σ ρ F R Q A dn=>by
 refine hc B H0 H σ ρ F R _ A (dn.bind.imp (fun b _ dn H1 F1 s1 f1 A1=>?_) fun e q=>q);cases b with
 |false=>exact hd B H0 H1 σ ρ F1 R _ A1 (dn.imp (fun y _ q H2 F2 s2 f2 A2=>q H2 F2 (s1.trans s2) (fun i a h=>f1 i a (f2 i a h)) A2) fun e q=>q)
 |true=>exact dn H1 F1 s1 f1 A1
theorem Ax{fc: LI5->Rr Bool}(hc:DT K EX Γ Γ' c fc): DT K EX Γ Γ' (Zba c) (fun ρ=>(fc ρ).bind fun b=>.ok (!b)):=fun B H0 H σ ρ F R Q A dn =>
 hc B H0 H σ ρ F R _ A (dn.bind.imp (fun b _ dn H1 F1 s1 f1 A1=>dn H1 F1 s1 f1 A1) fun e q=>q)
end
def Ge(K:ZmM)(EX:PX->Hp->Prop)(Γ Γ':List Md)(ta:TA)(f:LI5->Rr LI5):Prop:=
 ∀(B:Ja->Prop) (H0 H:Hp) (σ:St) (ρ:LI5) (F:Nat->LI2) (R:LI2) (Q:List V->Hp->Prop),Ag K B H0 H σ Γ ρ F R ->
  Dn (f ρ) (fun xs=>∀vs H' F',Ia H H'->(∀i,∀a∈F' i,a∈F i)->Reps K H' (fun _=>True) xs vs->Ag K B H0 H' σ Γ' ρ F' R->Q vs H') (fun e=>∀H',Ia H0 H'->EX e H')->ta σ H Q
def Fw(K:ZmM)(EX:PX->Hp->Prop)(Γ Γ':List Md)(ta:TA)(f:LI5->Rr LI5):Prop:=
 ∀(B:Ja->Prop) (H0 H:Hp) (σ:St) (ρ:LI5) (F:Nat->LI2) (R:LI2) (Q:List V->Hp->Prop),Ag K B H0 H σ Γ ρ F R ->
  Dn (f ρ) (fun xs=>∀vs H' F' G,Ia H H'->(∀i,∀a∈F' i,a∈F i)->Trees K H' xs vs G->(∀a∈G,a ∉ R/\(H a=none\/∃i,a∈F i))->Ag K B H0 H' σ Γ' ρ F' (G++R)->Q vs H') (fun e=>∀H',Ia H0 H'->EX e H')->ta σ H Q
def Mr(K:ZmM)(EX:PX->Hp->Prop)(Γ Γ':List Md)(ta:TA)(f:LI5->Rr LI5):Prop:=
 ∀(B:Ja->Prop) (H0 H:Hp) (σ:St) (ρ:LI5) (F:Nat->LI2) (R:LI2) (Q:List V->Hp->Prop),Ag K B H0 H σ Γ ρ F R ->
  Dn (f ρ) (fun xs=>∀vs H' F',Ia H H'->(∀i,∀a∈F' i,a∈F i)->Reps K H' (NO B F' R) xs vs->Ag K B H0 H' σ Γ' ρ F' R->Q vs H') (fun e=>∀H',Ia H0 H'->EX e H')->ta σ H Q
section
variable {K:ZmM}{B:Ja->Prop}{EX:PX->Hp->Prop}{H0 H H':Hp}{σ:St}{Γ Γ' Γ1 Γ2:List Md}{ρ:LI5}{F F':Nat->LI2}{R:LI2}{x:PV}{v:V}{te tb:TE}{ta:TA}{f fb:LI5->Rr PV}{fa:LI5->Rr LI5}
theorem Oa:Ge K EX Γ Γ Rj (fun _=>.ok []):=fun B H0 H σ ρ F R Q A d=>d [] H F (Ia.refl H) (fun _ _ h=>h) rfl A
theorem Fa(he:DE K EX Γ Γ1 .A te f)(ha:Ge K EX Γ1 Γ2 ta fa):Ge K EX Γ Γ2 (Di te ta) (fun ρ=>(f ρ).bind fun x=>(fa ρ).bind fun xs=>.ok (x::xs)):=fun B H0 H σ ρ F R Q A d=>by
 refine he B H0 H σ ρ F R _ A (d.bind.imp (fun x _ d v H1 s1 r1=>?_) fun e q=>q);obtain⟨F1,f1,p1,A1⟩:=r1;refine ha B H0 H1 σ ρ F1 R _ A1 (d.bind.imp (fun xs _ d vs H2 F2 s2 f2 p2 A2=>?_) fun e q=>q);exact d (v::vs) H2 F2 (s1.trans s2) (fun i a h=>f1 i a (f2 i a h)) ⟨v,vs,rfl,p1.same s2,p2⟩ A2
theorem Lf:Fw K EX Γ Γ Rj (fun _=>.ok []):=fun B H0 H σ ρ F R Q A d=>d [] H F [] (Ia.refl H) (fun _ _ h=>h) ⟨rfl,rfl⟩ (by simp) A
theorem Kc(he:DE K EX Γ Γ1 .F te f)(ha:Fw K EX Γ1 Γ2 ta fa):Fw K EX Γ Γ2 (Di te ta) (fun ρ=>(f ρ).bind fun x=>(fa ρ).bind fun xs=>.ok (x::xs)):=fun B H0 H σ ρ F R Q A d=>by
 refine he B H0 H σ ρ F R _ A (d.bind.imp (fun x _ d v H1 s1 r1=>?_) fun e q=>q);obtain⟨F1,f1,G1,p1,o1,A1⟩:=r1;refine ha B H0 H1 σ ρ F1 (G1++R) _ A1 (d.bind.imp (fun xs _ d vs H2 F2 G2 s2 f2 p2 o2 A2=>?_) fun e q=>q);refine d (v::vs) H2 F2 (G1++G2) (s1.trans s2) (fun i a h=>f1 i a (f2 i a h)) ⟨v,vs,G1,G2,rfl,p1.same s2,p2,fun a ha z=>(o2 a z).1 (Bf _ ha),rfl⟩ (fun a ha=>?_) (A2.less fun a ha=>?_)
 ·rcases Ud.mp ha with z|z
  ·exact o1 a z
  ·obtain⟨o3,o4⟩:=o2 a z
   exact⟨fun q=>o3 (Fe _ q),o4.elim (fun q=>.inl (s1.free q)) fun⟨i,q⟩=>.inr ⟨i,f1 i a q⟩⟩
 ·simp only[Ud] at ha ⊢
  rcases ha with (z|z)|z
  ·exact .inr (.inl z)
  ·exact .inl z
  ·exact .inr (.inr z)
theorem Iu:Mr K EX Γ Γ Rj (fun _=>.ok []):=fun B H0 H σ ρ F R Q A d=>d [] H F (Ia.refl H) (fun _ _ h=>h) rfl A
theorem Li(he:DE K EX Γ Γ1 .Z te f)(ha:Mr K EX Γ1 Γ2 ta fa):Mr K EX Γ Γ2 (Di te ta) (fun ρ=>(f ρ).bind fun x=>(fa ρ).bind fun xs=>.ok (x::xs)):=fun B H0 H σ ρ F R Q A d=>by
 refine he B H0 H σ ρ F R _ A (d.bind.imp (fun x _ d v H1 s1 r1=>?_) fun e q=>q);obtain⟨F1,f1,p1,A1⟩:=r1;refine ha B H0 H1 σ ρ F1 R _ A1 (d.bind.imp (fun xs _ d vs H2 F2 s2 f2 p2 A2=>?_) fun e q=>q);refine d (v::vs) H2 F2 (s1.trans s2) (fun i a h=>f1 i a (f2 i a h)) ⟨v,vs,rfl, ?_,p2⟩ A2;exact Ya.mono (fun a us s r=>⟨r.same s2,s.1,s.2.1,fun i z=>s.2.2 i (f2 i a z)⟩) (fun a us r=>s2.im r) p1
def mkT(xs:LI5):Rr PV:=if xs.length<=1000 then .ok (.tup xs) else .bad
def mkL(xs:LI5):Rr PV:=if xs.length<=1000 then .ok (.lst xs) else .bad
theorem Dn.mkT(d:Dn (mkT xs) ok ex): xs.length<=1000/\ok (.tup xs):=by
 unfold L2.mkT at d;by_cases h:xs.length<=1000
 ·rw[Ba h] at d;exact⟨h,d⟩
 ·rw[Aa h] at d;exact d.elim
theorem Dn.mkL(d:Dn (mkL xs) ok ex): xs.length<=1000/\ok (.lst xs):=by
 unfold L2.mkL at d;by_cases h:xs.length<=1000
 ·rw[Ba h] at d;exact⟨h,d⟩
 ·rw[Aa h] at d;exact d.elim
theorem G8(ha:Fw K EX Γ Γ' ta fa):DE K EX Γ Γ' .F (M5 ta) (fun ρ=>(fa ρ).bind mkT):=fun B H0 H σ ρ F R Q A d=>by
 refine ha B H0 H σ ρ F R _ A (d.bind.imp (fun xs _ d vs H1 F1 G s1 f1 p1 o1 A1=>?_) fun e q=>q);obtain⟨hl,d⟩:=d.mkT;refine⟨by rw[p1.length];exact Jv hl,fun p hp=>?_⟩;have e:Ia H1 (upd H1 p (.tup vs)):=Ia.new hp;exact d _ _ (s1.trans e) ⟨F1,f1,G,⟨p,vs,rfl,⟨Hd,trivial⟩,p1.same e⟩,o1,A1.grow e⟩
theorem Zf2(ha:Mr K EX Γ Γ' ta fa):DE K EX Γ Γ' .Z (M5 ta) (fun ρ=>(fa ρ).bind mkT):=fun B H0 H σ ρ F R Q A d=>by
 refine ha B H0 H σ ρ F R _ A (d.bind.imp (fun xs _ d vs H1 F1 s1 f1 p1 A1=>?_) fun e q=>q);obtain⟨hl,d⟩:=d.mkT;refine⟨by rw[p1.length];exact Jv hl,fun p hp=>?_⟩;have e:Ia H1 (upd H1 p (.tup vs)):=Ia.new hp;exact d _ _ (s1.trans e) ⟨F1,f1,⟨p,vs,rfl,⟨Hd,trivial⟩,p1.same e⟩,A1.grow e⟩
theorem B3(ha:Ge K EX Γ Γ' ta fa):DE K EX Γ Γ' .A (M5 ta) (fun ρ=>(fa ρ).bind mkT):=fun B H0 H σ ρ F R Q A d=>by
 refine ha B H0 H σ ρ F R _ A (d.bind.imp (fun xs _ d vs H1 F1 s1 f1 p1 A1=>?_) fun e q=>q);obtain⟨hl,d⟩:=d.mkT;refine⟨by rw[p1.length];exact Jv hl,fun p hp=>?_⟩;have e:Ia H1 (upd H1 p (.tup vs)):=Ia.new hp;exact d _ _ (s1.trans e) ⟨F1,f1,⟨p,vs,rfl,⟨Hd,trivial⟩,p1.same e⟩,A1.grow e⟩
theorem Cc.newF(s1:Ia H H1)(f1:∀i,∀a∈F1 i,a∈F i)(p1:Trees K H1 xs vs G)(o1:∀a∈G,a ∉ R/\(H a=none\/∃i,a∈F i))(A1:Ag K B H0 H1 σ Γ' ρ F1 (G++R))(hp:H1 p=none):
  Cc K B H0 H σ Γ' ρ F R .F (.lst xs) (.ref p) (upd H1 p (.lst vs)):=by
 have e:Ia H1 (upd H1 p (.lst vs)):=Ia.new hp;have hf:=A1.fresh hp;refine⟨F1,f1,p::G,⟨p,vs,G,rfl,Hd,p1.same e,fun z=>hf.1 (Bf _ z),rfl⟩,fun a ha=>?_,A1.new hp⟩;rcases Lc.mp ha with rfl|z
 ·exact⟨fun z=>hf.1 (Fe _ z),.inl (s1.free hp)⟩
 ·exact o1 a z
theorem Cc.newP(s1:Ia H H1)(f1:∀i,∀a∈F1 i,a∈F i)(p1:Reps K H1 S xs vs)(hx:PV.flats xs=true)(A1:Ag K B H0 H1 σ Γ' ρ F1 R)(hp:H1 p=none):
  Cc K B H0 H σ Γ' ρ F R .F (.lst xs) (.ref p) (upd H1 p (.lst vs)):=Cc.newF (G:=[]) s1 f1 (p1.trees hx) (by simp) A1 hp
theorem Cc.newT(s1:Ia H H1)(f1:∀i,∀a∈F1 i,a∈F i)(p1:Reps K H1 (NO B F1 R) xs vs)(A1:Ag K B H0 H1 σ Γ' ρ F1 R)(hp:H1 p=none):
  Cc K B H0 H σ Γ' ρ F R .T (.lst xs) (.ref p) (upd H1 p (.lst vs)):=by
 have e:Ia H1 (upd H1 p (.lst vs)):=Ia.new hp;have hf:=A1.fresh hp;refine⟨F1,f1,p,vs,xs,rfl,rfl,Hd, ?_,hf.1,.inl (s1.free hp),A1.new hp⟩;refine Reps.mono (fun a us s r=>⟨r.same e,s.1,fun z=>?_,s.2.2⟩) (fun a us r=>e.im r) p1;rcases Lc.mp z with rfl|z
 ·rcases r with r|⟨o,r⟩<;>(rw[hp] at r;cases r)
 ·exact s.2.1 z
theorem Yf(ha:Fw K EX Γ Γ' ta fa):DE K EX Γ Γ' .F (K5 ta) (fun ρ=>(fa ρ).bind mkL):=fun B H0 H σ ρ F R Q A d=>by
 refine ha B H0 H σ ρ F R _ A (d.bind.imp (fun xs _ d vs H1 F1 G s1 f1 p1 o1 A1=>?_) fun e q=>q);obtain⟨hl,d⟩:=d.mkL;refine⟨by rw[p1.length];exact Jv hl,fun p hp=>d _ _ (s1.trans (Ia.new hp)) (Cc.newF s1 f1 p1 o1 A1 hp)⟩
theorem QU(ha:Mr K EX Γ Γ' ta fa):DE K EX Γ Γ' .T (K5 ta) (fun ρ=>(fa ρ).bind mkL):=fun B H0 H σ ρ F R Q A d=>by
 refine ha B H0 H σ ρ F R _ A (d.bind.imp (fun xs _ d vs H1 F1 s1 f1 p1 A1=>?_) fun e q=>q);obtain⟨hl,d⟩:=d.mkL;refine⟨by rw[p1.length];exact Jv hl,fun p hp=>d _ _ (s1.trans (Ia.new hp)) (Cc.newT s1 f1 p1 A1 hp)⟩
noncomputable def pIx(x y:PV):Rr PV:=match x,y with
 |.lst xs,.int i=>match Ef xs i with
  |some z=>.ok z
  |none=>.bad
 |.tup xs,.int i=>match Ef xs i with
  |some z=>.ok z
  |none=>.bad
 |_,_=>.bad
theorem Zam{i: Int}(h:Reps K H S xs vs)(e:Ef xs i=some z): ∃u,Ef vs i=some u/\Ya K H S z u:=by
 unfold Ef at e ⊢;rw[h.length];cases q:Lj xs.length i with
 |none=>rw[q] at e;cases e
 |some j =>
  rw[q] at e;obtain⟨u,e1,e2⟩:=h.get e;exact⟨u,e1,e2⟩
theorem Zas(hx:Ya K H S x v)(hy:Ya K H (fun _=>True) y w)(e:pIx x y=.ok z)(q:∀u,Ya K H S z u->Q u H): Jt K v w H Q:=by
 cases x<;>cases y<;>first|(simp only[pIx] at e;cases e;done)|skip
 ·rename_i xs i
  obtain⟨a,vs,rfl,hn,hr⟩:=hx;cases hy;simp only[pIx] at e;cases e1:Ef xs i with
  |none=>rw[e1] at e;cases e
  |some z' =>
   rw[e1] at e;cases e;obtain⟨u,e2,e3⟩:=Zam hr e1;exact .inl ⟨a,vs,i,u,rfl,rfl,Vg hn,e2,q u e3⟩
 ·rename_i xs i
  obtain⟨a,vs,rfl,hn,hr⟩:=hx;cases hy;simp only[pIx] at e;cases e1:Ef xs i with
  |none=>rw[e1] at e;cases e
  |some z' =>
   rw[e1] at e;cases e;obtain⟨u,e2,e3⟩:=Zam hr e1;exact .inr (.inl ⟨a,vs,i,u,rfl,rfl,hn.sqT,e2,q u e3⟩)
theorem ZjY(x y:PV)(e:PX):pIx x y≠.exc e:=by
 cases x<;>cases y<;>first|(intro h;simp only[pIx] at h;cases h;done)|skip
 all_goals
  intro h;simp only[pIx] at h
  split at h<;>cases h
theorem Dn.pIx(d:Dn (pIx x y) ok ex): ∃z,pIx x y=.ok z/\ok z:=by
 cases e:L2.pIx x y with
 |ok z=>rw[e] at d;exact⟨z,rfl,d⟩
 |exc q=>exact Gb e (ZjY x y q)
 |bad=>rw[e] at d;exact d.elim
theorem Zfs(ha:DE K EX Γ Γ1 .A ta' fa')(hb:DE K EX Γ1 Γ2 .A tb fb): DE K EX Γ Γ2 .A (Ff (Jt K) ta' tb) (fun ρ=>(fa' ρ).bind fun x=>(fb ρ).bind fun y=>pIx x y):=fun B H0 H σ ρ F R Q A d=>by
 refine Dr ha hb A d.bind2 fun x y v w H' F' d s hF p1 p2 A'=>?_;obtain⟨z,e,d⟩:=d.pIx;exact Zas p1 p2 e fun u hu=>d u H' s ⟨F',hF,hu,A'⟩
theorem Yw(ha:DE K EX Γ Γ1 .Z ta' fa')(hb:DE K EX Γ1 Γ2 .A tb fb): DE K EX Γ Γ2 .Z (Ff (Jt K) ta' tb) (fun ρ=>(fa' ρ).bind fun x=>(fb ρ).bind fun y=>pIx x y):=fun B H0 H σ ρ F R Q A d=>by
 refine ha B H0 H σ ρ F R _ A (d.bind.imp (fun x _ d v H1 s1 r1=>?_) fun e q=>q);obtain⟨F1,f1,p1,A1⟩:=r1;refine hb B H0 H1 σ ρ F1 R _ A1 (d.bind.imp (fun y _ d w H2 s2 r2=>?_) fun e q=>q);obtain⟨F2,f2,p2,A2⟩:=r2;obtain⟨z,e,d⟩:=d.pIx;have p1':Ya K H2 (NO B F2 R) x v:=Ya.mono (fun a us s r=>⟨r.same s2,s.1,s.2.1,fun i z=>s.2.2 i (f2 i a z)⟩) (fun a us r=>s2.im r) p1;exact Zas p1' p2 e fun u hu=>d u H2 (s1.trans s2) ⟨F2,fun i a h=>f1 i a (f2 i a h),hu,A2⟩
def CbP(K:ZmM)(r:List V->Hp->VK->Prop)(o:LI5->Rr PV):Prop:=∀{H:Hp}{xs:LI5}{vs:List V}{Q:VK},Reps K H (fun _=>True) xs vs->∀z,o xs=.ok z->z.flat=true/\((∀u,Ya K H (fun _=>True) z u->Q u H)->r vs H Q)
theorem Q3(hr:CbP K r o)(hx:∀xs e,o xs≠.exc e)(ha:Ge K EX Γ Γ' ta fa): DE K EX Γ Γ' .P (Ci r ta) (fun ρ=>(fa ρ).bind o):=fun B H0 H σ ρ F R Q A d=>by
 refine ha B H0 H σ ρ F R _ A (d.bind.imp (fun xs _ d vs H1 F1 s1 f1 p1 A1=>?_) fun e q=>q);cases e:o xs with
 |ok z =>
  rw[e] at d;obtain⟨hf,h⟩:=hr (Q:=Q) p1 z e;exact h fun u hu=>d u H1 s1 ⟨F1,f1,hf,hu,A1⟩
 |exc q=>exact Gb e (hx xs q)
 |bad=>rw[e] at d;exact d.elim
noncomputable def Pq(xs:LI5):Rr PV:=match xs with
 |[.lst ys]=>.ok (.int ys.length)
 |[.tup ys]=>.ok (.int ys.length)
 |_=>.bad
theorem Ik(h:Reps K H S [x] vs): ∃v,vs=[v]/\Ya K H S x v:=by
 obtain⟨v,r,rfl,h1,h2⟩:=h;cases h2;exact⟨v,rfl,h1⟩
theorem FM(h:Reps K H S [x,y] vs): ∃v w,vs=[v,w]/\Ya K H S x v/\Ya K H S y w:=by
 obtain⟨v,r,rfl,h1,w,r',rfl,h2,h3⟩:=h;cases h3;exact⟨v,w,rfl,h1,h2⟩
theorem Zi(ha:Ge K EX Γ Γ' ta fa):DE K EX Γ Γ' .P (Ci (fun xs H Q=>∃p ys,xs=[.ref p]/\(Uc K H p ys\/Re K H p ys)/\Q (.int ys.length) H) ta) (fun ρ=>(fa ρ).bind Pq):=by
 refine Q3 (fun {H xs vs Q} h z e=>?_) (fun xs e h=>?_) ha
 ·unfold Pq at e
  split at e<;>first|(cases e;done)|skip
  all_goals
   cases e;refine⟨rfl,fun q=>?_⟩;obtain⟨v,rfl,a,ws,rfl,hn,hr⟩:=Ik h;refine⟨a,ws,rfl, ?_,by rw[hr.length];exact q _ rfl⟩
   first|exact .inl (Vg (S:=fun _=>True) hn)|exact .inr hn.sqT
 ·unfold Pq at h;split at h<;>cases h
noncomputable def Fs:LI5->Option LI0
 |[]=>some []
 |.int i::xs=>(Fs xs).map (i::·)
 |_::_=>none
@[simp] theorem ZmK(ns:LI0):Fs (ns.map PV.int)=some ns:=by
 induction ns with
 |nil=>rfl
 |cons n ns ih=>simp[Fs,ih]
theorem FW:∀{xs:LI5}{ns:LI0},Fs xs=some ns->xs=ns.map PV.int
 |[],_,h=>by cases h;rfl
 |.int i::xs,ns,h=>by
  simp only[Fs] at h;cases e:Fs xs with
  |none=>rw[e] at h;cases h
  |some ms=>rw[e] at h;cases h;rw[FW e];rfl
 |.non::_,_,h=>by cases h
 |.bl _::_,_,h=>by cases h
 |.str _::_,_,h=>by cases h
 |.exc _::_,_,h=>by cases h
 |.exa _ _::_,_,h=>by cases h
 |.box _ _ _::_,_,h=>by cases h
 |.fz _::_,_,h=>by cases h
 |.any::_,_,h=>by cases h
 |.lst _::_,_,h=>by cases h
 |.tup _::_,_,h=>by cases h
theorem T4: ∀{ns:LI0}{vs:List V},Reps K H S (ns.map PV.int) vs->vs=ns.map V.int
 |[],_,h=>h
 |n::ns,_,h=>by
  obtain⟨v,r,rfl,h1,h2⟩:=h;cases h1;rw[T4 h2];rfl
theorem GW: ∀(ns:LI0),Reps K H S (ns.map PV.int) (ns.map V.int)
 |[]=>rfl
 |n::ns=>⟨_,_,rfl,rfl,GW ns⟩
theorem ZkZ{ns: LI0}(h:Ya K H S (.lst (ns.map PV.int)) v): ∃a,v=.ref a/\Uc K H a (ns.map V.int):=by
 obtain⟨a,vs,rfl,hn,hr⟩:=h;rw[T4 hr] at hn;exact⟨a,rfl,Vg hn⟩
noncomputable def Jy(g:LI0->Rr PV)(xs:LI5):Rr PV:=match xs with
 |[.lst ys]=>match Fs ys with
  |some ns=>g ns
  |none=>.bad
 |_=>.bad
theorem Rr.ints(e:Jy g xs=.ok z): ∃ns,xs=[.lst (ns.map PV.int)]/\g ns=.ok z:=by
 unfold Jy at e
 split at e
 ·split at e
  ·rename_i ns h
   exact⟨ns,by rw[FW h],e⟩
  ·cases e
 ·cases e
theorem ZjS(hg:∀ns e,g ns≠.exc e)(xs:LI5)(e:PX): Jy g xs≠.exc e:=by
 intro h;unfold Jy at h
 split at h
 ·split at h
  ·exact hg _ _ h
  ·cases h
 ·cases h
abbrev EL:=Jy fun ns=>.ok (.int ns.sum)
theorem F8(ha:Ge K EX Γ Γ' ta fa):DE K EX Γ Γ' .P (Ci (fun xs H Q=>∃p,∃ns:LI0,xs=[.ref p]/\Uc K H p (ns.map V.int)/\Q (.int ns.sum) H) ta) (fun ρ=>(fa ρ).bind EL):=by
 refine Q3 (fun {H xs vs Q} h z e=>?_) (ZjS fun ns e h=>by cases h) ha;obtain⟨ns,rfl,e'⟩:=Rr.ints e;cases e';obtain⟨v,rfl,h1⟩:=Ik h;obtain⟨a,rfl,h2⟩:=ZkZ h1;exact⟨rfl,fun q=>⟨a,ns,rfl,h2,q _ rfl⟩⟩
noncomputable def Yr:LI5->Option (List Bool)
 |[]=>some []
 |.bl i::xs=>(Yr xs).map (i::·)
 |_::_=>none
@[simp] theorem CS(ns:List Bool):Yr (ns.map PV.bl)=some ns:=by
 induction ns with
 |nil=>rfl
 |cons n ns ih=>simp[Yr,ih]
theorem UH:∀{xs:LI5}{ns:List Bool},Yr xs=some ns->xs=ns.map PV.bl
 |[],_,h=>by cases h;rfl
 |.bl i::xs,ns,h=>by
  simp only[Yr] at h;cases e:Yr xs with
  |none=>rw[e] at h;cases h
  |some ms=>rw[e] at h;cases h;rw[UH e];rfl
 |.non::_,_,h=>by cases h
 |.int _::_,_,h=>by cases h
 |.str _::_,_,h=>by cases h
 |.exc _::_,_,h=>by cases h
 |.exa _ _::_,_,h=>by cases h
 |.box _ _ _::_,_,h=>by cases h
 |.fz _::_,_,h=>by cases h
 |.any::_,_,h=>by cases h
 |.lst _::_,_,h=>by cases h
 |.tup _::_,_,h=>by cases h
theorem GM: ∀{ns:List Bool}{vs:List V},Reps K H S (ns.map PV.bl) vs->vs=ns.map V.bl
 |[],_,h=>h
 |n::ns,_,h=>by
  obtain⟨v,r,rfl,h1,h2⟩:=h;cases h1;rw[GM h2];rfl
def Q4(xs:LI5):Rr PV:=match xs with
 |[.lst ys]=>match Yr ys with
  |some bs=>.ok (.bl (bs.all id))
  |none=>.bad
 |_=>.bad
theorem UI(ha:Ge K EX Γ Γ' ta fa):DE K EX Γ Γ' .P (Ci (fun xs H Q=>∃p,∃bs:List Bool,xs=[.ref p]/\Uc K H p (bs.map V.bl)/\Q (.bl (bs.all id)) H) ta) (fun ρ=>(fa ρ).bind Q4):=by
 refine Q3 (fun {H xs vs Q} h z e=>?_) (fun xs e h=>?_) ha
 ·unfold Q4 at e
  split at e
  ·split at e
   ·rename_i bs hb
    cases e;rw[UH hb] at h;obtain⟨v,rfl,a,ws,rfl,hn,hr⟩:=Ik h;rw[GM hr] at hn;exact⟨rfl,fun q=>⟨a,bs,rfl,Vg (S:=fun _=>True) hn,q _ rfl⟩⟩
   ·cases e
  ·cases e
 ·unfold Q4 at h
  split at h
  ·split at h<;>cases h
  ·cases h
end
theorem Ek(h:n<=1000000): n<=Rb:=Oe h (by decide)
def LX(K:ZmM)(H:Hp)(a:Ja)(vs:List V):Prop:=Rd H a (.lst vs)\/KL K a vs
def JM(K:ZmM):R2:=fun x y H Q=>∃l b xs zs,x=.ref l/\y=.ref b/\LX K H l xs/\LX K H b zs/\xs.length+zs.length<=Rb/\∀p,H p=none->Q (.ref p) (upd H p (.lst (xs++zs)))
section
variable {X:Cx}{K:ZmM}
theorem S9{S: Ja->Prop}(h:(Rd H a (.lst vs)/\S a)\/KL K a vs): LX K H a vs:=h.elim (fun z=>.inl z.1) .inr
theorem Qv(e:X.K=K:=by rfl):Cg X (Wp .Add) (JM K):=by
 subst e;intro Za s σ H x y v u Q I rx ry h;obtain⟨l,b,xs,zs,rfl,rfl,hH,hB,hz,q⟩:=h;cases rx;cases ry;obtain⟨its,r,pl,_⟩:=I.list (show Uc X.K H l xs from hH);obtain⟨its2,r2,pl2,_⟩:=I.list (show Uc X.K H b zs from hB);have hl:=r.length;have hl2:=r2.length;obtain⟨⟨cls,dd,data,sl⟩,ho,hc,n,hd⟩:=pl.isList;obtain⟨⟨cls2,dd2,data2,sl2⟩,ho2,hc2,n2,hd2⟩:=pl2.isList;simp only at hc hd hc2 hd2;subst hc hd hc2 hd2;have ea:its.toArray++its2.toArray=(its++its2).toArray:=by simp
 refine concat_meets ⟨_,ho,rfl⟩ ⟨_,ho2,rfl⟩ noFill_list_add seq_list_add PySem.F.slot_list_add PySem.F.entry_list_add (PySem.F.args_list_add_2 _ _) (list_addW l b its.toArray its2.toArray n n2 dd dd2 sl sl2 (by rw[Ld,Ld];lia)) ⟨ho,ho2, ?_⟩;rw[ea];exact⟨.ref _,_,I.lnew (t':=s.toks) (r.append r2) (by rw[Nh];lia),rfl,q _ I.fresh⟩
end
def Ec(H:Hp)(F:Nat->LI2)(H':Hp)(F':Nat->LI2):Prop:=∀a o,H a=some o->(∀i,a ∉ F i)->H' a=some o/\∀i,a ∉ F' i
theorem Ec.refl: Ec H F H F:=fun a o h n=>⟨h,n⟩
theorem Ec.trans(h1:Ec H F H1 F1)(h2:Ec H1 F1 H2 F2): Ec H F H2 F2:=fun a o h n=>let ⟨h3,n3⟩:=h1 a o h n;h2 a o h3 n3
theorem Ec.of(s:Ia H H')(f:∀i,∀a∈F' i,a∈F i): Ec H F H' F':=fun a o h n=>⟨s a o h,fun i z=>n i (f i a z)⟩
def Mo(K:ZmM)(S:Ja->Prop)(J:It)(xs:LI5)(H:Hp):Prop:=
 ∀i,(∀x,xs[i]?=some x->J.go i H/\∀v H',J.yld i H v H'->Ia H H'/\Ya K H' S x v)/\(xs[i]?=none->J.stop i H)
def DI(K:ZmM)(EX:PX->Hp->Prop)(Γ Γ':List Md)(wi:TI)(f:LI5->Rr LI5):Prop:=
 ∀(B:Ja->Prop) (H0 H:Hp) (σ:St) (ρ:LI5) (F:Nat->LI2) (R:LI2) (Q:It->Hp->Prop),Ag K B H0 H σ Γ ρ F R ->
  Dn (f ρ) (fun xs=>∀J H' F',Ia H H'->(∀i,∀a∈F' i,a∈F i)->Ag K B H0 H' σ Γ' ρ F' R->(∀H2 F2,Ec H' F' H2 F2->Mo K (fun a=>NO B F2 R a/\H' a≠none/\∀i,a ∉ F' i) J xs H2)->Q J H') (fun e=>∀H',Ia H0 H'->EX e H')->wi σ H Q
def Q1(K:ZmM)(EX:PX->Hp->Prop)(Γ Γ':List Md)(wi:TI)(f:LI5->Rr LI5):Prop:=
 ∀(B:Ja->Prop) (H0 H:Hp) (σ:St) (ρ:LI5) (F:Nat->LI2) (R:LI2) (Q:It->Hp->Prop),Ag K B H0 H σ Γ ρ F R ->
  Dn (f ρ) (fun xs=>∀J H' F',Ia H H'->(∀i,∀a∈F' i,a∈F i)->Ag K B H0 H' σ Γ' ρ F' R->(∀H2 F2,Ia H' H2->(∀i,∀a∈F2 i,a∈F' i)->Mo K (fun a=>NO B F2 R a/\H' a≠none/\∀i,a ∉ F' i) J xs H2)->Q J H') (fun e=>∀H',Ia H0 H'->EX e H')->wi σ H Q
theorem DI.c{K:ZmM}{EX:PX->Hp->Prop}{Γ Γ':List Md}{wi:TI}{f:LI5->Rr LI5}(h:DI K EX Γ Γ' wi f):Q1 K EX Γ Γ' wi f:=fun B H0 H σ ρ F R Q A d =>
 h B H0 H σ ρ F R Q A (d.imp (fun xs _ d J H' F' s1 f1 A1 it=>d J H' F' s1 f1 A1 fun H2 F2 s2 f2=>it H2 F2 (Ec.of s2 f2)) fun e q=>q)
theorem Mo.flat{K:ZmM}{S S':Ja->Prop}{J:It}{xs:LI5}{H:Hp}(f:PV.flats xs=true)(h:Mo K S J xs H):Mo K S' J xs H:=fun i=>by
 refine⟨fun x hx=>?_,(h i).2⟩;obtain⟨h1,h2⟩:=(h i).1 x hx;have fx:∀(xs:LI5) (i:Nat),PV.flats xs=true->xs[i]?=some x->x.flat=true:=by
  intro xs
  induction xs with
  |nil=>intro i _ h;simp at h
  |cons y ys ih =>
   intro i hf hx;simp only[PV.flats,Bool.and_eq_true] at hf;cases i with
   |zero=>simp at hx;rw[<- hx];exact hf.1
   |succ i=>exact ih i hf.2 (by simpa using hx)
 exact⟨h1,fun v H' y=>⟨(h2 v H' y).1,(h2 v H' y).2.flatS (fx xs i f hx)⟩⟩
section
variable {K:ZmM}{B:Ja->Prop}{EX:PX->Hp->Prop}{H0 H H':Hp}{σ:St}{Γ Γ' Γ1 Γ2 Γ3:List Md}{ρ:LI5}{F F':Nat->LI2}{R:LI2}{k:Kd}{x:PV}{v:V}{te tb:TE}{ta:TA}{f fb:LI5->Rr PV}{fa:LI5->Rr LI5}
theorem Ya.frm(h:Ec H F H2 F2)(A:Ag K B H0 H σ Γ ρ F R)(r:Ya K H (NO B F R) x v): Ya K H2 (fun a=>NO B F2 R a/\H a≠none/\∀i,a ∉ F i) x v:=by
 refine Ya.mono (fun a us s r=>?_) (fun a us r=>?_) r
 ·rcases r with r|⟨o,r⟩
  ·obtain⟨h1,h2⟩:=h a _ r s.2.2;exact⟨.inl h1,⟨s.1,s.2.1,h2⟩,by rw[r];simp,s.2.2⟩
  ·obtain⟨h1,h2⟩:=h a _ r s.2.2;exact⟨.inr ⟨o,h1⟩,⟨s.1,s.2.1,h2⟩,by rw[r];simp,s.2.2⟩
 ·refine⟨(h a _ r.1 fun i z=>?_).1,r.2⟩
  obtain⟨vs,q⟩:=A.live i a z;exact JK vs.2 r.2 (by rw[r.1] at q;exact Option.some.inj q)
def Kh(lo:Int)(n:Nat):LI5:=(List.range n).map fun(k:Nat)=>PV.int (lo+(k:Int))
theorem OW{lo: Int}: Mo K S (P1 lo n) (Kh lo n) H:=by
 intro i;constructor
 ·intro x hx
  unfold Kh at hx;rw[Cd] at hx;by_cases h:i<n
  ·rw[Ir h] at hx
   cases hx;exact⟨h,fun v H' ⟨e1,e2⟩=>by subst e1 e2;exact⟨Ia.refl _,rfl⟩⟩
  ·rw[Ch (by simpa using h)] at hx;cases hx
 ·intro hx
  unfold Kh at hx;have:=Kt.mp hx;show n<=i;simpa using this
noncomputable def Pn(j:Int):Bool:=decide (-(2^62)<=j/\j<2^62)
noncomputable def MA(xs:LI5):Rr LI5:=match xs with
 |[.int j]=>if Pn j=true then .ok (Kh 0 j.toNat) else .bad
 |_=>.bad
noncomputable def NA(xs:LI5):Rr LI5:=match xs with
 |[.int i,.int j]=>if (Pn i&&Pn j)=true then .ok (Kh i (j-i).toNat) else .bad
 |_=>.bad
theorem Nk(ha:Ge K EX Γ Γ' ta fa):DI K EX Γ Γ' (QW ta) (fun ρ=>(fa ρ).bind MA):=fun B H0 H σ ρ F R Q A d=>by
 refine ha B H0 H σ ρ F R _ A (d.bind.imp (fun xs _ d vs H1 F1 s1 f1 p1 A1=>?_) fun e q=>q);unfold MA at d
 split at d
 ·rename_i j _
  obtain⟨v,rfl,h1⟩:=Ik p1;cases h1;by_cases h:Pn j=true
  ·rw[Ba h] at d
   have h':=Wi h;exact⟨j,rfl,h'.1,h'.2,d _ H1 F1 s1 f1 A1 fun H2 F2 _=>OW⟩
  ·rw[Aa h] at d;exact d.elim
 ·exact d.elim
theorem Zf8(ha:Ge K EX Γ Γ' ta fa):DI K EX Γ Γ' (AW ta) (fun ρ=>(fa ρ).bind NA):=fun B H0 H σ ρ F R Q A d=>by
 refine ha B H0 H σ ρ F R _ A (d.bind.imp (fun xs _ d vs H1 F1 s1 f1 p1 A1=>?_) fun e q=>q);unfold NA at d
 split at d
 ·rename_i i j _
  obtain⟨v,w,rfl,h1,h2⟩:=FM p1;cases h1;cases h2;by_cases h:(Pn i&&Pn j)=true
  ·rw[Ba h] at d
   rw[Bool.and_eq_true] at h;have h':=Wi h.1;have h'':=Wi h.2;exact⟨i,j,rfl,⟨h'.1,h'.2,h''.1,h''.2⟩,d _ H1 F1 s1 f1 A1 fun H2 F2 _=>OW⟩
  ·rw[Aa h] at d;exact d.elim
 ·exact d.elim
noncomputable def asL(x:PV):Rr LI5:=match x with
 |.lst xs=>.ok xs
 |_=>.bad
theorem NW(h:Ya K H S (.lst xs) (.ref a)): Mo K S (YF K a) xs H:=by
 obtain⟨a',vs,e,hn,hr⟩:=h;cases e;intro i;constructor
 ·intro x hx
  obtain⟨u,e1,e2⟩:=hr.get hx;refine⟨⟨vs,u,Vg hn,e1⟩,fun v H' ⟨e,y⟩=>?_⟩;subst e;have:=y vs (Vg hn);rw[e1] at this;cases this;exact⟨Ia.refl _,e2⟩
 ·intro hx
  exact⟨vs,Vg hn,by rw[hr.length];exact Kt.mp hx⟩
theorem Bk(he:DE K EX Γ Γ' .Z te f):DI K EX Γ Γ' (Kx K te) (fun ρ=>(f ρ).bind asL):=fun B H0 H σ ρ F R Q A d=>by
 refine he B H0 H σ ρ F R _ A (d.bind.imp (fun x _ d v H1 s1 r1=>?_) fun e q=>q);obtain⟨F1,f1,p1,A1⟩:=r1;cases x with
 |lst xs =>
  obtain⟨a,vs,rfl,hn,hr⟩:=id p1;exact⟨a,rfl,⟨vs,Vg hn⟩,d _ H1 F1 s1 f1 A1 fun H2 F2 h=>NW (p1.frm h A1)⟩
 |_=>exact d.elim
def C7(x:PV):Rr LI5:=match x with
 |.lst xs=>if PV.flats xs=true then .ok xs else .bad
 |_=>.bad
theorem Zf7(he:DE K EX Γ Γ' .A te f):Q1 K EX Γ Γ' (Kx K te) (fun ρ=>(f ρ).bind C7):=fun B H0 H σ ρ F R Q A d=>by
 refine he B H0 H σ ρ F R _ A (d.bind.imp (fun x _ d v H1 s1 r1=>?_) fun e q=>q);obtain⟨F1,f1,p1,A1⟩:=r1;cases x with
 |lst xs =>
  unfold C7 at d;by_cases hf:PV.flats xs=true
  ·simp only[hf,if_true] at d
   obtain⟨a,vs,rfl,hn,hr⟩:=id p1;exact⟨a,rfl,⟨vs,Vg (S:=fun _=>True) hn⟩,d _ H1 F1 s1 f1 A1 fun H2 F2 s2 _=>Mo.flat hf (NW (p1.same s2))⟩
  ·simp only[hf] at d;exact d.elim
 |_=>exact d.elim
theorem R8:∀{ns:LI0},PV.flats (ns.map PV.int)=true
 |[]=>rfl
 |n::ns=>by simp only[Dd,PV.flats,PV.flat,R8,Bool.and_self]
theorem ZcN{ns:LI0}:C7 (.lst (ns.map PV.int))=.ok (ns.map PV.int):=by unfold C7;simp only[R8,if_true]
def DO(K:ZmM)(EX:PX->Hp->Prop)(Γ Γ':List Md)(t:TO)(f:LI5->Rr (Option Int)):Prop:=
 ∀(B:Ja->Prop) (H0 H:Hp) (σ:St) (ρ:LI5) (F:Nat->LI2) (R:LI2) (Q:Option Int->Hp->Prop),Ag K B H0 H σ Γ ρ F R ->
  Dn (f ρ) (fun o=>∀H' F',Ia H H'->(∀i,∀a∈F' i,a∈F i)->Ag K B H0 H' σ Γ' ρ F' R->Q o H') (fun e=>∀H',Ia H0 H'->EX e H')->t σ H Q
theorem GI:DO K EX Γ Γ ZaZ (fun _=>.ok none):=fun B H0 H σ ρ F R Q A d=>d H F (Ia.refl H) (fun _ _ h=>h) A
def asI(x:PV):Rr Int:=match x with
 |.int i=>.ok i
 |_=>.bad
theorem Dn.asI(d:Dn (asI x) ok ex): ∃b,x=.int b/\ok b:=by
 cases x with
 |int b=>exact⟨b,rfl,d⟩
 |_=>exact d.elim
theorem HI(he:DE K EX Γ Γ' .A te f):DO K EX Γ Γ' (Zbd te) (fun ρ=>(f ρ).bind fun x=>(asI x).bind fun i=>.ok (some i)):=fun B H0 H σ ρ F R Q A d=>by
 refine he B H0 H σ ρ F R _ A (d.bind.imp (fun x _ d v H1 s1 r1=>?_) fun e q=>q);obtain⟨i,rfl,d⟩:=d.bind.asI;obtain⟨F1,f1,p1,A1⟩:=r1;cases p1;exact⟨i,rfl,d H1 F1 s1 f1 A1⟩
noncomputable def Hu{α:Type}(xs:List α)(lo hi:Option Int):List α:=(xs.drop (HT.Lh xs.length 0 lo)).take (HT.Lh xs.length xs.length hi-HT.Lh xs.length 0 lo)
theorem Reps.cut(h:Reps K H S xs vs)(lo hi:Option Int): Reps K H S (Hu xs lo hi) (Ww vs lo hi):=by
 unfold Hu Ww;rw[h.length];exact(h.drop _).take _
def newF(xs:LI5):Rr PV:=if (PV.flats xs&&decide (xs.length<=1000000))=true then .ok (.lst xs) else .bad
theorem Dn.newF(d:Dn (newF xs) ok ex): PV.flats xs=true/\xs.length<=1000000/\ok (.lst xs):=by
 unfold L2.newF at d;by_cases h:(PV.flats xs&&decide (xs.length<=1000000))=true
 ·rw[Ba h] at d
  rw[Bool.and_eq_true] at h;exact⟨h.1,Wi h.2,d⟩
 ·rw[Aa h] at d;exact d.elim
theorem CI(he:DE K EX Γ Γ1 .A te f)(hl:DO K EX Γ1 Γ2 tl fl)(hh:DO K EX Γ2 Γ3 th fh):
  DE K EX Γ Γ3 .F (tSl (BM K) te tl th) (fun ρ=>(f ρ).bind fun x=>(fl ρ).bind fun lo=>(fh ρ).bind fun hi=>(asL x).bind fun xs=>newF (Hu xs lo hi)):=fun B H0 H σ ρ F R Q A d=>by
 refine he B H0 H σ ρ F R _ A (d.bind.imp (fun x _ d v H1 s1 r1=>?_) fun e q=>q);obtain⟨F1,f1,p1,A1⟩:=r1;refine hl B H0 H1 σ ρ F1 R _ A1 (d.bind.imp (fun lo _ d H2 F2 s2 f2 A2=>?_) fun e q=>q);refine hh B H0 H2 σ ρ F2 R _ A2 (d.bind.imp (fun hi _ d H3 F3 s3 f3 A3=>?_) fun e q=>q);cases x with
 |lst xs =>
  obtain⟨h1,h2,d⟩:=Dn.newF d;obtain⟨a,vs,rfl,hn,hr⟩:=(p1.same s2).same s3;refine⟨a,vs,rfl,Vg (S:=fun _=>True) hn,fun p hp=>?_⟩;exact d _ _ (((s1.trans s2).trans s3).trans (Ia.new hp)) (Cc.newP ((s1.trans s2).trans s3) (fun i a h=>f1 i a (f2 i a (f3 i a h))) (hr.cut lo hi) h1 A3 hp)
 |_=>exact d.elim
theorem J8{fb': LI5->Rr PV}(ha:DE K EX Γ Γ1 .A te f)(hb:DE K EX Γ1 Γ2 .A tb' fb'):
  DE K EX Γ Γ2 .F (Ff (JM K) te tb') (fun ρ=>(f ρ).bind fun x=>(fb' ρ).bind fun y=>(asL x).bind fun xs=>(asL y).bind fun ys=>newF (xs++ys)):=fun B H0 H σ ρ F R Q A d=>by
 refine Dr ha hb A d.bind2 fun x y v w H' F' d s hF p1 p2 A'=>?_;cases x with
 |lst xs =>
  cases y with
  |lst ys =>
   obtain⟨h1,h2,d⟩:=Dn.newF d;obtain⟨a,vs,rfl,hn,hr⟩:=p1;obtain⟨b,ws,rfl,hn',hr'⟩:=p2;refine⟨a,b,vs,ws,rfl,rfl,S9 (S:=fun _=>True) hn,S9 (S:=fun _=>True) hn', ?_,fun p hp=>?_⟩
   ·rw[hr.length,hr'.length,<- Nh];exact Ek h2
   ·exact d _ _ (s.trans (Ia.new hp)) (Cc.newP s hF (hr.append hr') h1 A' hp)
  |_=>exact d.elim
 |_=>exact d.elim
def Ks(xs:LI5)(y:PV):Rr PV:=match y with
 |.int k=>if xs.length*k.toNat<=1000000/\-(2^63)<=k/\k<2^63 then newF (List.replicate k.toNat xs).flatten else .bad
 |_=>.bad
theorem Reps.rep(h:Reps K H S xs vs): ∀n:Nat,Reps K H S (List.replicate n xs).flatten (List.replicate n vs).flatten
 |0=>rfl
 |n+1=>by
  rw[Rt,Rt,Pz,Pz];exact h.append (Reps.rep h n)
theorem E8(ha:Ge K EX Γ Γ1 ta fa)(hb:DE K EX Γ1 Γ2 .A tb fb) :
  DE K EX Γ Γ2 .F (Ff YZ (K5 ta) tb) (fun ρ=>(fa ρ).bind fun xs=>(mkL xs).bind fun _=>(fb ρ).bind fun y=>Ks xs y):=fun B H0 H σ ρ F R Q A d=>by
 refine ha B H0 H σ ρ F R _ A (d.bind.imp (fun xs _ d vs H1 F1 s1 f1 p1 A1=>?_) fun e q=>q);obtain⟨hl,d⟩:=Dn.mkL d.bind;refine⟨by rw[p1.length];exact Jv hl,fun p hp=>?_⟩;have e:Ia H1 (upd H1 p (.lst vs)):=Ia.new hp;refine hb B H0 _ σ ρ F1 R _ (A1.grow e) (d.bind.imp (fun y _ d w H2 s2 r2=>?_) fun e q=>q);obtain⟨F2,f2,p2,A2⟩:=r2;cases y with
 |int k =>
  cases p2;simp only[Ks] at d;by_cases h:xs.length*k.toNat<=1000000/\-(2^63)<=k/\k<2^63
  ·rw[Ba h] at d
   obtain⟨h1,h2,d⟩:=Dn.newF d;refine⟨p,k,vs,rfl,rfl,s2 _ _ Hd,h.2.1,h.2.2,by rw[p1.length];exact Ek h.1,fun q hq=>?_⟩;have st:=(s1.trans e).trans s2;exact d _ _ (st.trans (Ia.new hq)) (Cc.newP st (fun i a h=>f1 i a (f2 i a h)) (((p1.same e).same s2).rep k.toNat) h1 A2 hq)
  ·rw[Aa h] at d;exact d.elim
 |_=>exact d.elim
def Rq(xs:LI5):Rr PV:=match xs with
 |[.lst ys]=>newF ys
 |[.tup ys]=>newF ys
 |_=>.bad
theorem Q8(ha:Ge K EX Γ Γ' ta fa):DE K EX Γ Γ' .F (Ci (fun xs H Q=>∃p ys,xs=[.ref p]/\(Uc K H p ys\/Re K H p ys)/\∀l,H l=none->Q (.ref l) (upd H l (.lst ys))) ta) (fun ρ=>(fa ρ).bind Rq):=fun B H0 H σ ρ F R Q A d=>by
 refine ha B H0 H σ ρ F R _ A (d.bind.imp (fun xs _ d vs H1 F1 s1 f1 p1 A1=>?_) fun e q=>q);unfold Rq at d
 split at d
 ·obtain⟨h1,h2,d⟩:=Dn.newF d
  obtain⟨v,rfl,a,ws,rfl,hn,hr⟩:=Ik p1;exact⟨a,ws,rfl,.inl (Vg (S:=fun _=>True) hn),fun l hl=>d _ _ (s1.trans (Ia.new hl)) (Cc.newP s1 f1 hr h1 A1 hl)⟩
 ·obtain⟨h1,h2,d⟩:=Dn.newF d
  obtain⟨v,rfl,a,ws,rfl,hn,hr⟩:=Ik p1;exact⟨a,ws,rfl,.inr hn.sqT,fun l hl=>d _ _ (s1.trans (Ia.new hl)) (Cc.newP s1 f1 hr h1 A1 hl)⟩
 ·exact d.elim
noncomputable def Mp:PV->String
 |.non => "NoneType"
 |.bl _ => "bool"
 |.int _ => "int"
 |.str _ => "str"
 |.lst _ => "list"
 |.tup _ => "tuple"
 |.exc _ => "?"
 |.exa _ _ => "?"
 |.box _ (.dk _) _ => "dict"
 |.box _ (.dt _) _ => "dict"
 |.box _ (.ob _ _) _ => "?"
 |.box _ .jk _ => "?"
 |.box _ .ls _ => "?"
 |.fz _ => "?"
 |.any => "?"
noncomputable def PV.isX:PV->Bool
 |.exc _=>true
 |.exa _ _=>true
 |.box _ _ _=>true
 |.fz _=>true
 |.any=>true
 |_=>false
noncomputable def Lq(t n:String):Bool:=t==n || (t == "bool" && n == "int")
noncomputable def RN(n:String):Bool:=n == "int" || n == "bool" || n == "str" || n == "list" || n == "tuple"
theorem Zie(K:ZmM)(h:RN n=true)(x:PV)(hx:x.isX=false): PySem.W.kitOne K (.type (Mp x)) (.type n)=some (Lq (Mp x) n):=by
 simp only[RN,Bool.or_eq_true,beq_iff_eq] at h;rcases h with (((rfl|rfl)|rfl)|rfl)|rfl<;>cases x<;>first|rfl|cases hx
def RZ(K:ZmM)(n:String):List V->Hp->VK->Prop:=fun xs H Q=>∃x p,xs=[x,.ty n]/\Ya K H (fun _=>True) p x/\p.isX=false/\Q (.bl (Lq (Mp p) n)) H
theorem O7(hn:RN n=true)(e:X.K=K:=by rfl): Xf X (.builtin "isinstance") (RZ K n):=by
 subst e;intro Za s σ H xs us Q I r h;obtain⟨x,p,rfl,hp,hx,q⟩:=h;obtain⟨u,w',rfl,rx,rn⟩:=ZE r;cases rn;have e:=Zie X.K hn p hx;have fin:∀tk,EP X Za σ Q (.bool (Lq (Mp p) n)) { s with toks:=tk }:=fun tk=>⟨.bl _,H,I.tok _,rfl,q⟩
 cases p with
 |non=>cases hp;cases rx;exact PySem.W.kia_one PySem.W.kitx_none I.kIn True.intro e (fun z=>nomatch z) fin
 |bl y=>cases hp;cases rx;exact PySem.W.kia_one PySem.W.kitx_bool I.kIn True.intro e (fun z=>nomatch z) fin
 |int i=>cases hp;obtain⟨t,rfl⟩:=rx;exact PySem.W.kia_one PySem.W.kitx_int I.kIn True.intro e (fun z=>nomatch z) fin
 |str y=>cases hp;obtain⟨t,rfl⟩:=rx;exact PySem.W.kia_one PySem.W.kitx_str I.kIn True.intro e (fun z=>nomatch z) fin
 |exc y=>cases hx
 |exa y i=>cases hx
 |box p s ps=>cases hx
 |fz ps=>cases hx
 |any=>cases hx
 |lst ps =>
  obtain⟨a,vs,rfl,hn',hr⟩:=hp;cases rx;obtain⟨its,_,pl,_⟩:=I.list (Vg (S:=fun _=>True) hn');obtain⟨o,h1,h2,_⟩:=pl.isList;exact PySem.W.kia_one PySem.W.kitx_list I.kIn ⟨o,h1,h2⟩ e (fun z=>nomatch z) fin
 |tup ps =>
  obtain⟨a,vs,rfl,hn',hr⟩:=hp;cases rx;obtain⟨its,_,⟨o,h1,h2,_⟩,_⟩:=I.tuple hn'.sqT;exact PySem.W.kia_one PySem.W.kitx_tuple I.kIn ⟨o,h1,h2⟩ e (fun z=>nomatch z) fin
def FA(n:String)(x:PV):Rr PV:=if x.isX=true then .bad else .ok (.bl (Lq (Mp x) n))
theorem U8(he:DE K EX Γ Γ' .A te f): DE K EX Γ Γ' .P (Ci (RZ K n) (Di te (Di (tC (.ty n)) Rj))) (fun ρ=>(f ρ).bind (FA n)):=fun B H0 H σ ρ F R Q A d=>by
 refine he B H0 H σ ρ F R _ A (d.bind.imp (fun x _ d v H1 s1 r1=>?_) fun e q=>q);obtain⟨F1,f1,p1,A1⟩:=r1;unfold FA at d;cases hx:x.isX with
 |true=>rw[hx] at d;exact d.elim
 |false=>rw[hx] at d;exact⟨v,x,rfl,p1,hx,d _ H1 s1 ⟨F1,f1,rfl,rfl,A1⟩⟩
def Ph(fa:LI5->Rr LI5)(n:Nat):Prop:=∀ρ xs,fa ρ=.ok xs->xs.length=n
theorem Tg:Ph (fun _=>.ok []) 0:=fun ρ xs h=>by cases h;rfl
theorem Sc(h:Ph fa n): Ph (fun ρ=>(f ρ).bind fun x=>(fa ρ).bind fun xs=>.ok (x::xs)) (n+1):=fun ρ xs e=>by
 dsimp only at e;cases h1:f ρ with
 |ok x =>
  rw[h1] at e;cases h2:fa ρ with
  |ok ys=>simp only[Rr.bind_ok,h2] at e;cases e;simp[h ρ ys h2]
  |exc q=>simp only[Rr.bind_ok,h2,Rr.bind_exc] at e;cases e
  |bad=>simp only[Rr.bind_ok,h2,Rr.bind_bad] at e;cases e
 |exc q=>rw[h1] at e;cases e
 |bad=>rw[h1] at e;cases e
def UG(K:ZmM)(H:Hp)(a:Ja)(xs:LI5):Prop:=PV.flats xs=true/\∃vs,H a=some (.lst vs)/\Reps K H (fun _=>True) xs vs
def LsR(K:ZmM)(H:Hp)(x:PV)(v:V)(H':Hp):Prop:=∃y a0 x0 a1 x1 a2 x2,x=.tup [y,.box (some a0) .ls x0,.box (some a1) .ls x1,.box (some a2) .ls x2]/\y.flat=true/\Ya K H' (fun _=>True) y v /\
 UG K H' a0 x0/\UG K H' a1 x1/\UG K H' a2 x2/\H a0=none/\H a1=none/\H a2=none
def Jm(K:ZmM)(B:Ja->Prop)(H:Hp)(k:Kd)(x:PV)(v:V)(H':Hp):Prop:=match k with
 |.P=>x.flat=true/\Ya K H' (fun _=>True) x v
 |.F=>∃G,Pb K H' x v G/\∀a∈G,H a=none
 |.N=>∃y a s xs G1 G2,x=.tup [y,.box (some a) s xs]/\Pb K H' y v G1/\Pb K H' (.box (some a) s xs) (.ref a) G2/\(∀b∈G1,b ∉ G2)/\(∀b∈G1,H b=none)/\∀b∈G2,H b=none
 |.M=>LsR K H x v H'
 |_=>Ya K H' (fun a=>B a\/H a=none) x v
def Wb(K:ZmM)(n:Nat)(k:Kd)(W:PX->XK->Hp->Prop)(m:LI5->Rr PV):Sp:=fun vs H Q E=>∃B xs,Reps K H B xs vs/\xs.length=n /\
 Dn (m xs) (fun x=>∀v H',Ia H H'->Jm K B H k x v H'->Q v H') (fun e=>∀H',Ia H H'->W e E H')
def W0:PX->XK->Hp->Prop:=fun _ _ _=>False
def X0:PX->Hp->Prop:=fun _ _=>False
section
variable {n:Nat}{W:PX->XK->Hp->Prop}{m:LI5->Rr PV}{E:XK}
theorem JU(ht:∀σ H Q,(ta σ H fun vs H1=>Wb K n .P W m vs H1 Q E)->t σ H Q)(hW:∀e H',EX e H'->W e E H')(hn:Ph fa n)(ha:Ge K EX Γ Γ' ta fa): DE K EX Γ Γ' .P t (fun ρ=>(fa ρ).bind m):=fun B H0 H σ ρ F R Q A d=>by
 refine ht _ _ _ (ha B H0 H σ ρ F R _ A (d.bind.imp (fun xs hx d vs H1 F1 s1 f1 p1 A1=>?_) fun e q=>q));exact⟨fun _=>True,xs,p1,hn ρ xs hx,d.imp (fun x _ d v H2 s2 r=>d v H2 (s1.trans s2) ⟨F1,f1,r.1,r.2,A1.grow s2⟩) fun e q H2 s2=>hW e H2 (q H2 (A1.same.trans s2))⟩
theorem ZU(ht:∀σ H Q,(ta σ H fun vs H1=>Wb K n .F W m vs H1 Q E)->t σ H Q)(hW:∀e H',EX e H'->W e E H')(hn:Ph fa n)(ha:Ge K EX Γ Γ' ta fa): DE K EX Γ Γ' .F t (fun ρ=>(fa ρ).bind m):=fun B H0 H σ ρ F R Q A d=>by
 refine ht _ _ _ (ha B H0 H σ ρ F R _ A (d.bind.imp (fun xs hx d vs H1 F1 s1 f1 p1 A1=>?_) fun e q=>q));refine⟨fun _=>True,xs,p1,hn ρ xs hx,d.imp (fun x _ d v H2 s2 r=>?_) fun e q H2 s2=>hW e H2 (q H2 (A1.same.trans s2))⟩;obtain⟨G,r1,r2⟩:=r;exact d v H2 (s1.trans s2) ⟨F1,f1,G,r1,fun a ha=>⟨(A1.fresh (r2 a ha)).1,.inl (s1.free (r2 a ha))⟩,A1.more s2 r2 r1.alive⟩
theorem Zfk(ht:∀σ H Q,(ta σ H fun vs H1=>Wb K n .Z W m vs H1 Q E)->t σ H Q)(hW:∀e H',EX e H'->W e E H')(hn:Ph fa n)(ha:Mr K EX Γ Γ' ta fa): DE K EX Γ Γ' .Z t (fun ρ=>(fa ρ).bind m):=fun B H0 H σ ρ F R Q A d=>by
 refine ht _ _ _ (ha B H0 H σ ρ F R _ A (d.bind.imp (fun xs hx d vs H1 F1 s1 f1 p1 A1=>?_) fun e q=>q));refine⟨NO B F1 R,xs,p1,hn ρ xs hx,d.imp (fun x _ d v H2 s2 r=>?_) fun e q H2 s2=>hW e H2 (q H2 (A1.same.trans s2))⟩;refine d v H2 (s1.trans s2) ⟨F1,f1,Ya.mono (fun a us s r=>⟨r, ?_⟩) (fun a us r=>r) r,A1.grow s2⟩;rcases s with s|s
 ·exact s
 ·obtain⟨h1,h2,h3,h4⟩:=A1.fresh s
  exact⟨h4,h1,h2⟩
end
end
noncomputable def Fg{α β:Type}(f:α->Rr β):List α->Rr (List β)
 |[]=>.ok []
 |x::xs=>(f x).bind fun y=>(Fg f xs).bind fun ys=>.ok (y::ys)
noncomputable def lenM(xs:LI5):Rr Unit:=if xs.length<=1000000 then .ok () else .bad
theorem Dn.lenM(d:Dn (lenM xs) ok ex): xs.length<=1000000/\ok ():=by
 unfold L2.lenM at d;by_cases h:xs.length<=1000000
 ·rw[Ba h] at d;exact⟨h,d⟩
 ·rw[Aa h] at d;exact d.elim
theorem Rr.assoc{r: Rr α}: (r.bind f).bind g=r.bind fun a=>(f a).bind g:=by cases r<;>rfl
section
variable {K:ZmM}{B:Ja->Prop}{H0 H:Hp}{σ:St}{Γ:List Md}{ρ:LI5}{F:Nat->LI2}{R:LI2}{x:PV}{v:V}
theorem Ag.outF(A:Ag K B H0 H σ Γ ρ F R)(h:Γ.length<=i): F i=[]:=by
 have:=A.slot i;rw[Bb,Ch h] at this;exact this
theorem Ag.push(A:Ag K B H0 H σ Γ ρ F R)(h:Ya K H (NO B F R) x v):Ag K B H0 H (σ++[some v]) (Γ++[.S]) (ρ++[x]) F R:=by
 refine⟨A.same,A.own,A.young,A.youngR,A.live,A.liveR,A.disj,A.disjR,by simp[A.lenS],by simp[A.lenR],fun i=>?_⟩;by_cases h1:i<Γ.length
 ·have:=A.slot i
  rw[Bb,Bb,Pi h1,Pi (by rw[A.lenR];exact h1),Pi (by rw[A.lenS];exact h1),<- Bb,<- Bb];exact this
 ·by_cases h2:i=Γ.length
  ·subst h2
   rw[Bb,Bb,Ei (Cb _),Ei (by rw[A.lenR];exact Cb _),Ei (by rw[A.lenS];exact Cb _),A.lenR,A.lenS];simp only[Nat.sub_self,NE,Vw];exact⟨A.outF (Cb _),v,rfl,h⟩
  ·rw[Bb,Ch (by simp;lia)]
   exact A.outF (by lia)
end
inductive RS where
 |next (ρ:LI5)|ret (x:PV)|brk (ρ:LI5)|cont (ρ:LI5)|exc (e:PX)|bad
noncomputable def Rr.thenS{α:Type}:Rr α->(α->RS)->RS
 |.ok a,f=>f a
 |.exc e,_=>.exc e
 |.bad,_=>.bad
def RS.seq:RS->(LI5->RS)->RS
 |.next ρ,f=>f ρ
 |r,_=>r
@[simp] theorem Rr.thenS_ok: (Rr.ok a).thenS f=f a:=rfl
@[simp] theorem Rr.thenS_exc: (Rr.exc e:Rr α).thenS f=.exc e:=rfl
@[simp] theorem RS.seq_next: (RS.next ρ).seq f=f ρ:=rfl
@[simp] theorem RS.seq_ret: (RS.ret x).seq f=.ret x:=rfl
@[simp] theorem RS.seq_exc: (RS.exc e).seq f=.exc e:=rfl
structure V7 where
 n:List Md
 b:List Md
 c:List Md
 r:Kd
def Xi(K:ZmM)(B:Ja->Prop)(EX:PX->Hp->Prop)(Y:V7)(H0 H:Hp)(F:Nat->LI2)(D:Xm)(r:RS):Prop:=match r with
 |.next ρ=>∀σ' H' F',Ec H F H' F'->Ag K B H0 H' σ' Y.n ρ F' []->D.nx σ' H'
 |.brk ρ=>∀σ' H' F',Ec H F H' F'->Ag K B H0 H' σ' Y.b ρ F' []->D.bk σ' H'
 |.cont ρ=>∀σ' H' F',Ec H F H' F'->Ag K B H0 H' σ' Y.c ρ F' []->D.ct σ' H'
 |.ret x=>∀v H',Ia H0 H'->Jm K B H0 Y.r x v H'->D.rt v H'
 |.exc e=>∀H',Ia H0 H'->EX e H'
 |.bad=>False
def DS(K:ZmM)(EX:PX->Hp->Prop)(Γ:List Md)(Y:V7)(t:TS)(g:LI5->RS):Prop:=
 ∀(B:Ja->Prop) (H0 H:Hp) (σ:St) (ρ:LI5) (F:Nat->LI2) (D:Xm),Ag K B H0 H σ Γ ρ F []->Xi K B EX Y H0 H F D (g ρ)->t D σ H
section
variable {K:ZmM}{B:Ja->Prop}{EX:PX->Hp->Prop}{H0 H H':Hp}{σ:St}{Γ Γ' Γ1 Γ2 Γ3:List Md}{ρ:LI5}{F F':Nat->LI2}{R:LI2}{k:Kd}{x:PV}{v:V}{te:TE}{f fc:LI5->Rr PV}{t u:TS}{g g':LI5->RS}{Y:V7}{D:Xm}
theorem Xi.shift(fr:Ec H F H1 F1)(h:Xi K B EX Y H0 H F D r): Xi K B EX Y H0 H1 F1 D r:=by
 cases r with
 |next ρ=>exact fun σ' H' F' fr' A=>h σ' H' F' (fr.trans fr') A
 |brk ρ=>exact fun σ' H' F' fr' A=>h σ' H' F' (fr.trans fr') A
 |cont ρ=>exact fun σ' H' F' fr' A=>h σ' H' F' (fr.trans fr') A
 |ret x=>exact h
 |exc e=>exact h
 |bad=>exact h
theorem Xi.thenS{α:Type}{r:Rr α}{f:α->RS}(h:Xi K B EX Y H0 H F D (r.thenS f)):Dn r (fun a=>Xi K B EX Y H0 H F D (f a)) (fun e=>∀H',Ia H0 H'->EX e H'):=by
 cases r with
 |ok a=>exact h
 |exc e=>exact h
 |bad=>exact h
theorem Yc:DS K EX Γ ⟨Γ,Γ1,Γ2,k⟩ ZaY (fun ρ=>.next ρ):=fun B H0 H σ ρ F D A d=>d σ H F Ec.refl A
theorem Ta(h1:DS K EX Γ ⟨Γm,Y.b,Y.c,Y.r⟩ t g)(h2:DS K EX Γm Y u g'): DS K EX Γ Y (Zbf t u) (fun ρ=>(g ρ).seq g'):=fun B H0 H σ ρ F D A d=>by
 refine h1 B H0 H σ ρ F _ A ?_;dsimp only at d;cases e:g ρ with
 |next ρ1 =>
  rw[e] at d;exact fun σ' H' F' fr A'=>h2 B H0 H' σ' ρ1 F' D A' (Xi.shift fr d)
 |brk ρ1=>rw[e] at d;exact d
 |cont ρ1=>rw[e] at d;exact d
 |ret x=>rw[e] at d;exact d
 |exc q=>rw[e] at d;exact d
 |bad=>rw[e] at d;exact d
noncomputable def Vv(m m':Md):Bool:=m==m' || m'==.U || (m'==.S&&m != .U) || (m'==.O&&m==.P)
noncomputable def Ui:List Md->List Md->Bool
 |[],[]=>true
 |m::ms,m'::ms'=>Vv m m'&&Ui ms ms'
 |_,_=>false
theorem WX:∀{Γ Γ':List Md},Ui Γ Γ'=true->Γ.length=Γ'.length/\∀i,Vv (Γ.getD i .U) (Γ'.getD i .U)=true
 |[],[],_=>⟨rfl,fun i=>by simp[Vv]⟩
 |m::ms,m'::ms',h=>by
  simp only[Ui,Bool.and_eq_true] at h;obtain⟨h1,h2⟩:=WX h.2;refine⟨by simp[h1],fun i=>?_⟩;cases i with
  |zero=>simpa using h.1
  |succ i=>simpa using h2 i
 |[],_::_,h=>by cases h
 |_::_,[],h=>by cases h
theorem Ag.weak(A:Ag K B H0 H σ Γ ρ F R)(h:Ui Γ Γ'=true):∃F',(∀i,∀a∈F' i,a∈F i)/\Ag K B H0 H σ Γ' ρ F' R:=by
 obtain⟨hl,hm⟩:=WX h
 let F':Nat->LI2:=fun i=>if Γ.getD i .U=Γ'.getD i .U then F i else []
 have hF:∀i,∀a∈F' i,a∈F i:=fun i a ha=>by
  by_cases q:Γ.getD i .U=Γ'.getD i .U
  ·simp only[F',Ba q] at ha;exact ha
  ·simp only[F',Aa q] at ha;simp at ha
 have up:∀{a},NO B F R a->NO B F' R a:=fun {a} s=>⟨s.1,s.2.1,fun j z=>s.2.2 j (hF j a z)⟩
 refine⟨F',hF,A.same,A.own,fun i a ha=>A.young i a (hF i a ha),A.youngR,fun i a ha=>A.live i a (hF i a ha),A.liveR,fun i j hij a ha z=>A.disj i j hij a (hF i a ha) (hF j a z),fun i a ha=>A.disjR i a (hF i a ha),by rw[A.lenS,hl],by rw[A.lenR,hl],fun i=>?_⟩;have sl:=A.slot i;have hmi:=hm i;by_cases q:Γ.getD i .U=Γ'.getD i .U
 ·simp only[F',Ba q]
  rw[<- q];exact sl.mono (fun a vs s r=>⟨r,up s⟩) (fun a vs r=>r) fun a ha vs r=>r
 ·simp only[F',Aa q]
  simp only[Vv,Bool.or_eq_true,beq_iff_eq,Bool.and_eq_true,bne_iff_ne] at hmi;rcases hmi with ((z|z)|z)|z
  ·exact Gb z q
  ·rw[z];exact rfl
  rotate_left
  ·rw[z.1]
   rw[z.2] at sl;obtain⟨e,v,h1,h2,h3⟩:=sl;exact⟨v,h1,h3.tree h2⟩
  ·rw[z.1]
   have own:∀a∈F i,NO B F' R a:=fun a ha=>⟨A.own a (A.young i a ha),A.disjR i a ha,fun j w=>by
    by_cases hj:j=i
    ·subst hj;simp only[F',Aa q] at w;simp at w
    ·exact A.disj j i hj a (hF j a w) ha⟩
   cases hmm:Γ.getD i .U with
   |U=>exact Gb hmm z.2
   |P=>rw[hmm] at sl;obtain⟨e,v,h1,h2,h3⟩:=sl;exact⟨rfl,v,h1,h3.flatS h2⟩
   |S=>rw[hmm] at sl;obtain⟨e,v,h1,h2⟩:=sl;exact⟨rfl,v,h1,Ya.mono (fun a vs s r=>⟨r,up s⟩) (fun a vs r=>r) h2⟩
   |T =>
    rw[hmm] at sl;obtain⟨a,vs,xs,h1,h2,h3,h4,h5⟩:=sl;refine⟨rfl,_,h1, ?_⟩;rw[h2];exact⟨a,vs,rfl,.inl ⟨.inl h3,own a (by rw[h5];simp)⟩,Reps.mono (fun a vs s r=>⟨r,up s⟩) (fun a vs r=>r) h4⟩
   |O=>rw[hmm] at sl;obtain⟨v,h1,h2⟩:=sl;exact⟨rfl,v,h1,h2.rep own⟩
theorem DS.out(h:DS K EX Γ Y t g)(hn:Ui Y.n Y'.n=true)(hb:Ui Y.b Y'.b=true)(hc:Ui Y.c Y'.c=true)(hr:Y.r=Y'.r): DS K EX Γ Y' t g:=fun B H0 H σ ρ F D A d=>by
 refine h B H0 H σ ρ F D A ?_;cases e:g ρ with
 |next ρ1=>rw[e] at d;exact fun σ' H' F' fr A'=>let ⟨F2,f2,A2⟩:=A'.weak hn;d σ' H' F2 (fr.trans (Ec.of (Ia.refl _) f2)) A2
 |brk ρ1=>rw[e] at d;exact fun σ' H' F' fr A'=>let ⟨F2,f2,A2⟩:=A'.weak hb;d σ' H' F2 (fr.trans (Ec.of (Ia.refl _) f2)) A2
 |cont ρ1=>rw[e] at d;exact fun σ' H' F' fr A'=>let ⟨F2,f2,A2⟩:=A'.weak hc;d σ' H' F2 (fr.trans (Ec.of (Ia.refl _) f2)) A2
 |ret x=>rw[e] at d;exact fun v H' s r=>d v H' s (hr▸r)
 |exc q=>rw[e] at d;exact d
 |bad=>rw[e] at d;exact d
theorem Fx(s1:Ia H H1)(f1:∀i,∀a∈F1 i,a∈F i)(o:∀a∈G,H a=none\/∃i,a∈F i): Ec H F H1 (Se F1 i G):=fun a u h n=>by
 refine⟨s1 a u h,fun j z=>?_⟩;by_cases q:j=i
 ·subst q
  rw[Jf] at z;rcases o a z with w|⟨l,w⟩
  ·rw[h] at w;cases w
  ·exact n l w
 ·rw[Ee q] at z;exact n j (f1 j a z)
theorem ZfJ(he:DE K EX Γ Γ' .P te f)(hi:i<Γ'.length): DS K EX Γ ⟨Γ'.set i .P,Γ1,Γ2,k⟩ (Zo te (Aj i)) (fun ρ=>(f ρ).thenS fun x=>.next (ρ.set i x)):=fun B H0 H σ ρ F D A d=>by
 refine he B H0 H σ ρ F [] _ A (d.thenS.imp (fun x _ d v H1 s1 r1=>?_) fun e q=>q);obtain⟨F1,f1,h1,h2,A1⟩:=r1;exact d _ H1 _ (Fx (G:=[]) s1 f1 (by simp)) (Ag.put (G:=[]) (R:=[]) A1 hi (by simp) ⟨rfl,v,rfl,h1,h2⟩)
theorem FU(he:DE K EX Γ Γ' .F te f)(hi:i<Γ'.length): DS K EX Γ ⟨Γ'.set i .O,Γ1,Γ2,k⟩ (Zo te (Aj i)) (fun ρ=>(f ρ).thenS fun x=>.next (ρ.set i x)):=fun B H0 H σ ρ F D A d=>by
 refine he B H0 H σ ρ F [] _ A (d.thenS.imp (fun x _ d v H1 s1 r1=>?_) fun e q=>q);obtain⟨F1,f1,G,h1,h2,A1⟩:=r1;exact d _ H1 _ (Fx s1 f1 fun a ha=>(h2 a ha).2) (Ag.put (R:=[]) A1 hi (by simp) ⟨v,rfl,h1⟩)
theorem KI(he:DE K EX Γ Γ' .Z te f)(hi:i<Γ'.length): DS K EX Γ ⟨Γ'.set i .S,Γ1,Γ2,k⟩ (Zo te (Aj i)) (fun ρ=>(f ρ).thenS fun x=>.next (ρ.set i x)):=fun B H0 H σ ρ F D A d=>by
 refine he B H0 H σ ρ F [] _ A (d.thenS.imp (fun x _ d v H1 s1 r1=>?_) fun e q=>q);obtain⟨F1,f1,h1,A1⟩:=r1;refine d _ H1 _ (Fx (G:=[]) s1 f1 (by simp)) (Ag.put (G:=[]) (R:=[]) A1 hi (by simp) ⟨rfl,v,rfl, ?_⟩);refine Ya.mono (fun a us s r=>⟨r,s.1,s.2.1,fun j z=>?_⟩) (fun a us r=>r) h1;exact s.2.2 j (AA j a z)
theorem GU(he:DE K EX Γ Γ' .T te f)(hi:i<Γ'.length): DS K EX Γ ⟨Γ'.set i .T,Γ1,Γ2,k⟩ (Zo te (Aj i)) (fun ρ=>(f ρ).thenS fun x=>.next (ρ.set i x)):=fun B H0 H σ ρ F D A d=>by
 refine he B H0 H σ ρ F [] _ A (d.thenS.imp (fun x _ d v H1 s1 r1=>?_) fun e q=>q);obtain⟨F1,f1,a,vs,xs,rfl,rfl,h1,h2,h3,h4,A1⟩:=r1;refine d _ H1 _ (Fx (G:=[a]) s1 f1 fun b hb=>by rw[Gi.mp hb];exact h4) (Ag.put (G:=[a]) (R:=[]) A1 hi (by simp) ⟨a,vs,xs,rfl,rfl,h1, ?_,rfl⟩);refine Reps.mono (fun b us s r=>⟨r,s.1,by simp,fun j z=>?_⟩) (fun b us r=>r) h2;by_cases q:j=i
 ·subst q;rw[Jf] at z;exact s.2.1 z
 ·rw[Ee q] at z;exact s.2.2 j z
theorem Cm(he:DE K EX Γ Γ' .A te f):DS K EX Γ ⟨Γ',Γ1,Γ2,k⟩ (HD te) (fun ρ=>(f ρ).thenS fun _=>.next ρ):=fun B H0 H σ ρ F D A d=>by
 refine he B H0 H σ ρ F [] _ A (d.thenS.imp (fun x _ d v H1 s1 r1=>?_) fun e q=>q);obtain⟨F1,f1,h1,A1⟩:=r1;exact d σ H1 F1 (Ec.of s1 f1) A1
theorem Ce(he:DE K EX Γ Γ' .P te f):DS K EX Γ ⟨Γ3,Γ1,Γ2,.P⟩ (L5 te) (fun ρ=>(f ρ).thenS fun x=>.ret x):=fun B H0 H σ ρ F D A d=>by
 refine he B H0 H σ ρ F [] _ A (d.thenS.imp (fun x _ d v H1 s1 r1=>?_) fun e q=>q);obtain⟨F1,f1,h1,h2,A1⟩:=r1;exact d v H1 A1.same ⟨h1,h2⟩
theorem Eg(he:DE K EX Γ Γ' .F te f):DS K EX Γ ⟨Γ3,Γ1,Γ2,.F⟩ (L5 te) (fun ρ=>(f ρ).thenS fun x=>.ret x):=fun B H0 H σ ρ F D A d=>by
 refine he B H0 H σ ρ F [] _ A (d.thenS.imp (fun x _ d v H1 s1 r1=>?_) fun e q=>q);obtain⟨F1,f1,G,h1,h2,A1⟩:=r1;exact d v H1 A1.same ⟨G,h1,fun a ha=>A1.youngR a (by simpa using ha)⟩
theorem Qs(he:DE K EX Γ Γ' .Z te f):DS K EX Γ ⟨Γ3,Γ1,Γ2,.Z⟩ (L5 te) (fun ρ=>(f ρ).thenS fun x=>.ret x):=fun B H0 H σ ρ F D A d=>by
 refine he B H0 H σ ρ F [] _ A (d.thenS.imp (fun x _ d v H1 s1 r1=>?_) fun e q=>q);obtain⟨F1,f1,h1,A1⟩:=r1;exact d v H1 A1.same (Ya.mono (fun a us s r=>⟨r,.inl s.1⟩) (fun a us r=>r) h1)
theorem Xc{fc: LI5->Rr Bool}(hc:DT K EX Γ Γ' c fc)(h1:DS K EX Γ' Y t g)(h2:DS K EX Γ' Y u g'): DS K EX Γ Y (ZaW c t u) (fun ρ=>(fc ρ).thenS fun b=>if b=true then g ρ else g' ρ):=fun B H0 H σ ρ F D A d=>by
 refine hc B H0 H σ ρ F [] _ A (d.thenS.imp (fun b _ d H1 F1 s1 f1 A1=>?_) fun e q=>q);cases b with
 |true=>exact h1 B H0 H1 σ ρ F1 D A1 (Xi.shift (Ec.of s1 f1) d)
 |false=>exact h2 B H0 H1 σ ρ F1 D A1 (Xi.shift (Ec.of s1 f1) d)
theorem DU(hm:Γ[i]?=some .P)(he:DE K EX Γ Γ .A te f): DS K EX Γ ⟨Γ,Γ1,Γ2,k⟩ (ZaK i te (IJ h)) (fun ρ=>(f ρ).thenS fun y=>(oI (fun _ _=>true) (fun i j=>.int (h i j)) (gv i ρ) y).thenS fun z=>.next (ρ.set i z)):=fun B H0 H σ ρ F D A d=>by
 obtain⟨v,h1,h2,h3⟩:=A.getP hm;refine⟨v,h1,he B H0 H σ ρ F [] _ A (d.thenS.imp (fun y _ d w H1 s1 r1=>?_) fun e q=>q)⟩;obtain⟨F1,f1,p1,A1⟩:=r1;have h3':=h3.same s1;change Ya K H1 _ (gv i ρ) v at h3';generalize gv i ρ=gx at h3' d;cases gx<;>cases y<;>first|(exact d.elim;done)|skip
 rename_i p q _;cases h3';cases p1;refine⟨p,q,rfl,rfl,d _ H1 _ (Fx (i:=i) (G:=[]) s1 f1 (by simp)) ?_⟩;have:=Ag.put (i:=i) (m:=.P) (x:=.int (h p q)) (v:=.int (h p q)) (G:=[]) (R:=[]) A1 (A.lt hm) (by simp) ⟨rfl,_,rfl,rfl,rfl⟩;have e:Γ.set i .P=Γ:=by
  apply Qo;intro j;by_cases q:i=j
  ·subst q;rw[Fj (A.lt hm),hm]
  ·rw[Il q]
 rw[e] at this;exact this
variable {ti:TE}{fi:LI5->Rr PV}
theorem Zlw(h:Γ[i]?=some m): Γ.set i m=Γ:=by
 apply Qo;intro j;by_cases q:i=j
 ·subst q;rw[Fj (Pd.mp h).1,h]
 ·rw[Il q]
theorem Ag.chgB(ho:R1 o')(A:Ag K B H0 H σ Γ ρ F (G++R))(hm:Γ[i]?=some m)(ha:a∈F i)(hG:∀b∈G',b∈F i\/b∈G)(hGR:∀b∈G,b ∉ R)(hs:Ro K (upd H a o') (NO B (Se F i G') R) m x' σ[i]? G'): Ag K B H0 (upd H a o') σ Γ (ρ.set i x') (Se F i G') R:=by
 obtain⟨us,hH⟩:=A.live i a ha;have hi:=A.lt hm;have liveU:∀b,(∃us:Qn,H b=some us.1)->∃us:Qn,upd H a o' b=some us.1:=fun b ⟨us,q⟩=>by
  by_cases e:b=a
  ·exact⟨⟨o',ho⟩,by rw[e,Hd]⟩
  ·exact⟨us,by rw[Ab e];exact q⟩
 refine⟨A.same.upd (A.young i a ha),A.own,fun j b hb=>?_,fun b hb=>A.youngR b (Fe _ hb),fun j b hb=>liveU b ?_,fun b hb=>liveU b (A.liveR b (Fe _ hb)),fun j l hjl b hb z=>?_,fun j b hb z=>?_,A.lenS,by simp[A.lenR],fun j=>?_⟩
 ·by_cases q:j=i
  ·subst q;rw[Jf] at hb
   rcases hG b hb with z|z
   ·exact A.young j b z
   ·exact A.youngR b (Bf _ z)
  ·rw[Ee q] at hb;exact A.young j b hb
 ·by_cases q:j=i
  ·subst q;rw[Jf] at hb
   rcases hG b hb with z|z
   ·exact A.live j b z
   ·exact A.liveR b (Bf _ z)
  ·rw[Ee q] at hb;exact A.live j b hb
 ·by_cases q:j=i
  ·subst q
   rw[Jf] at hb;rw[Ee (Ne.symm hjl)] at z;rcases hG b hb with w|w
   ·exact A.disj j l hjl b w z
   ·exact A.disjR l b z (Bf _ w)
  ·rw[Ee q] at hb
   by_cases q':l=i
   ·subst q'
    rw[Jf] at z;rcases hG b z with w|w
    ·exact A.disj j l hjl b hb w
    ·exact A.disjR j b hb (Bf _ w)
   ·rw[Ee q'] at z;exact A.disj j l hjl b hb z
 ·by_cases q:j=i
  ·subst q;rw[Jf] at hb
   rcases hG b hb with w|w
   ·exact A.disjR j b w (Fe _ z)
   ·exact hGR b w z
  ·rw[Ee q] at hb;exact A.disjR j b hb (Fe _ z)
 ·by_cases q:j=i
  ·subst q
   rw[Jf,Bb,Bb,hm,Fj (by rw[A.lenR];exact hi)];exact hs
  ·rw[Ee q,Bb (l:=ρ.set _ _),Il (Ne.symm q),<- Bb]
   refine(A.slot j).mono (fun b us s r=>?_) (fun b us r=>Im.putL hH r) fun b hb us r=>?_
   ·have hne:b≠a:=fun z=>s.2.2 i (z▸ha)
    refine⟨?_,s.1,fun z=>s.2.1 (Fe _ z),fun l z=>?_⟩
    ·rcases r with r|⟨o,r⟩
     ·exact .inl (by rw[Ab hne];exact r)
     ·exact .inr ⟨o,by rw[Ab hne];exact r⟩
    ·by_cases q':l=i
     ·subst q';rw[Jf] at z
      rcases hG b z with w|w
      ·exact s.2.2 l w
      ·exact s.2.1 (Bf _ w)
     ·rw[Ee q'] at z;exact s.2.2 l z
   ·have hne:b≠a:=fun z=>A.disj j i q b hb (z▸ha)
    rw[Ab hne];exact r
theorem Ag.chg(A:Ag K B H0 H σ Γ ρ F (G++R))(hm:Γ[i]?=some m)(ha:a∈F i)(hG:∀b∈G',b∈F i\/b∈G)(hGR:∀b∈G,b ∉ R)(hs:Ro K (upd H a (.lst vs')) (NO B (Se F i G') R) m x' σ[i]? G'): Ag K B H0 (upd H a (.lst vs')) σ Γ (ρ.set i x') (Se F i G') R:=Ag.chgB (o':=.lst vs') trivial A hm ha hG hGR hs
theorem W8(s1:Ia H H1)(f1:∀i,∀b∈F1 i,b∈F i)(ha:a∈F1 i)(hG:∀b∈G',H b=none\/∃j,b∈F j): Ec H F (upd H1 a o) (Se F1 i G'):=fun b u h n=>by
 have hne:b≠a:=fun z=>n i (f1 i b (z▸ha));refine⟨by rw[Ab hne];exact s1 b u h,fun j z=>?_⟩;by_cases q:j=i
 ·subst q;rw[Jf] at z
  rcases hG b z with w|⟨l,w⟩
  ·rw[h] at w;cases w
  ·exact n l w
 ·rw[Ee q] at z;exact n j (f1 j b z)
theorem Trees.setP:∀{xs:LI5}{vs:List V}{G:LI2}{j:Nat}{y:PV}{w:V},Trees K H xs vs G->Pb K H y w []->∃G',(∀a∈G',a∈G)/\Trees K H (xs.set j y) (vs.set j w) G'
 |[],_,_,_,_,_,h,_=>⟨[],by simp,by rw[h.1];exact⟨rfl,rfl⟩⟩
 |x::xs,_,_,0,y,w,h,h'=>by
  obtain⟨v,r,G1,G2,rfl,h1,h2,h3,rfl⟩:=h;exact⟨G2,fun a ha=>by simp[ha],w,r,[],G2,rfl,h',h2,by simp,rfl⟩
 |x::xs,_,_,j+1,y,w,h,h'=>by
  obtain⟨v,r,G1,G2,rfl,h1,h2,h3,rfl⟩:=h;obtain⟨G',h4,h5⟩:=Trees.setP (j:=j) h2 h';refine⟨G1++G',fun a ha=>?_,v,r.set j w,G1,G',rfl,h1,h5,fun a ha z=>h3 a ha (h4 a z),rfl⟩;rcases Ud.mp ha with z|z
  ·simp[z]
  ·simp[h4 a z]
noncomputable def pSet(x i y:PV):Rr PV:=match x,i with
 |.lst xs,.int j=>match Lj xs.length j with
  |some n=>.ok (.lst (xs.set n y))
  |none=>.bad
 |_,_=>.bad
theorem Dn.pSet(d:Dn (pSet x i y) ok ex): ∃xs j n,x=.lst xs/\i=.int j/\Lj xs.length j=some n/\ok (.lst (xs.set n y)):=by
 unfold L2.pSet at d
 split at d
 ·rename_i xs j
  cases e:Lj xs.length j with
  |none=>rw[e] at d;exact d.elim
  |some n=>rw[e] at d;exact⟨xs,j,n,rfl,rfl,e,d⟩
 ·exact d.elim
theorem E3(hm:Γ2[i]?=some .O)(he:DE K EX Γ Γ2 .P te f)(hi:DE K EX Γ2 Γ2 .A ti fi):
  DS K EX Γ ⟨Γ2,Γ1,Γ3,k⟩ (Zo te (LV (Wg i) ti QM)) (fun ρ=>(f ρ).thenS fun y=>(fi ρ).thenS fun j=>(pSet (gv i ρ) j y).thenS fun z=>.next (ρ.set i z)):=fun B H0 H σ ρ F D A d=>by
 refine he B H0 H σ ρ F [] _ A (d.thenS.imp (fun y _ d w H1 s1 r1=>?_) fun e q=>q);obtain⟨F1,f1,y1,y2,A1⟩:=r1;obtain⟨v,h1,h2⟩:=A1.getO hm;refine⟨v,h1,hi B H0 H1 σ ρ F1 [] _ A1 (d.thenS.imp (fun j _ d jv H2 s2 r2=>?_) fun e q=>q)⟩;obtain⟨F2,f2,p2,A2⟩:=r2;obtain⟨xs,jj,n,e1,rfl,e2,d⟩:=Dn.pSet d.thenS;obtain⟨v',h1',h2'⟩:=A2.getO hm;rw[h1] at h1';cases h1';rw[show ρ.getD i .non=.lst xs from e1] at h2';obtain⟨a,vs,G,rfl,hH,ht,hn,hF⟩:=h2';cases p2;refine⟨a,vs,jj,n,rfl,rfl,hH,by rw[ht.length];exact e2, ?_⟩;obtain⟨G',g1,g2⟩:=Trees.setP (j:=n) ht ((y2.same s2).tree y1);have haF:a∈F2 i:=by rw[hF];simp
 have hsub:∀b∈a::G',b∈F2 i:=fun b hb=>by
  rw[hF];rcases Lc.mp hb with rfl|hb
  ·simp
  ·simp[g1 b hb]
 refine d σ _ (Se F2 i (a::G')) (W8 (s1.trans s2) (fun j b hb=>f1 j b (f2 j b hb)) haF fun b hb=>.inr ⟨i,f1 i b (f2 i b (hsub b hb))⟩) (Ag.chg (G:=[]) A2 hm haF (fun b hb=>.inl (hsub b hb)) (by simp) ?_);exact⟨_,h1,a,_,G',rfl,Hd,g2.put hH (fun z=>hn (g1 a z)),fun z=>hn (g1 a z),rfl⟩
def pApp(x y:PV):Rr PV:=match x with
 |.lst xs=>if xs.length<1000000 then .ok (.lst (xs++[y])) else .bad
 |_=>.bad
theorem Dn.pApp(d:Dn (pApp x y) ok ex): ∃xs,x=.lst xs/\xs.length<1000000/\ok (.lst (xs++[y])):=by
 unfold L2.pApp at d
 split at d
 ·rename_i xs
  by_cases h:xs.length<1000000
  ·rw[Ba h] at d;exact⟨xs,rfl,h,d⟩
  ·rw[Aa h] at d;exact d.elim
 ·exact d.elim
theorem Dn.asL(d:Dn (asL x) ok ex): ∃xs,x=.lst xs/\ok xs:=by
 cases x with
 |lst xs=>exact⟨xs,rfl,d⟩
 |_=>exact d.elim
theorem Qx(hm:Γ[i]?=some .O)(hm2:Γ2[i]?=some .O)(he:DE K EX Γ Γ2 .F te f):
  DS K EX Γ ⟨Γ2,Γ1,Γ3,k⟩ (HD (HN K "list" NZ (Wg i) (Di te Rj))) (fun ρ=>(asL (gv i ρ)).thenS fun xs=>(f ρ).thenS fun y=>(pApp (.lst xs) y).thenS fun z=>.next (ρ.set i z)):=fun B H0 H σ ρ F D A d=>by
 obtain⟨v,h1,h2⟩:=A.getO hm;refine⟨v,h1, ?_⟩;obtain⟨xs,e1,d⟩:=Dn.asL d.thenS;rw[show ρ.getD i .non=.lst xs from e1] at h2;obtain⟨a,vs,G,rfl,hH,ht,hn,hF⟩:=h2;refine⟨.inl ⟨rfl,_,Uc.of hH⟩,he B H0 H σ ρ F [] _ A (d.thenS.imp (fun y _ d w H2 s2 r2=>?_) fun e q=>q)⟩;obtain⟨F2,f2,G2,y1,y2,A2⟩:=r2;obtain⟨xs',e2,Ae,d⟩:=Dn.pApp d.thenS;cases e2;obtain⟨v',h1',h2'⟩:=A2.getO hm2;rw[h1] at h1';cases h1';rw[show ρ.getD i .non=.lst xs from e1] at h2';obtain⟨a',vs',G',e,hH',Ad,hn',hF'⟩:=h2';cases e;refine⟨a,vs',w,rfl,rfl,hH',by rw[Ad.length];exact Ng Ae (by decide), ?_⟩;have haF:a∈F2 i:=by rw[hF'];simp
 have dj:∀b∈G',b ∉ G2:=fun b hb z=>A2.disjR i b (by rw[hF'];simp[hb]) (Bf _ z);have na:a ∉ G2:=fun z=>A2.disjR i a haF (Bf _ z);have hsub:∀b∈a::(G'++G2),b∈F2 i\/b∈G2:=fun b hb=>by
  rw[hF'];rcases Lc.mp hb with rfl|hb
  ·simp
  ·rcases Ud.mp hb with z|z
   ·simp[z]
   ·exact .inr z
 have hna:a ∉ G'++G2:=fun z=>(Ud.mp z).elim hn' na;refine d σ _ (Se F2 i (a::(G'++G2))) (W8 s2 f2 haF fun b hb=>?_) (Ag.chg (G:=G2) (R:=[]) A2 hm2 haF hsub (by simp) ?_)
 ·rcases hsub b hb with z|z
  ·exact .inr ⟨i,f2 i b z⟩
  ·exact(y2 b z).2
 ·exact⟨_,h1,a,_,G'++G2,rfl,Hd,(Trees.append Ad (Trees.one y1) dj).put hH' hna,hna,rfl⟩
def DG(K:ZmM)(EX:PX->Hp->Prop)(Γ Γ':List Md)(g:TG)(h:PV->LI5->Rr LI5):Prop:=
 ∀(B:Ja->Prop) (H0 H:Hp) (σ:St) (ρ:LI5) (F:Nat->LI2) (v:V) (x:PV) (N:St->Hp->Prop),Ag K B H0 H σ Γ ρ F []->Ya K H (NO B F []) x v ->
  Dn (h x ρ) (fun ρ'=>∀σ' F',(∀i,∀a∈F' i,a∈F i)->Ag K B H0 H σ' Γ' ρ' F' []->N σ' H) (fun e=>∀H',Ia H0 H'->EX e H')->g v σ H N
theorem Zf5(hi:i<Γ.length): DG K EX Γ (Γ.set i .P) (Aj i) (fun x ρ=>(grd x).bind fun x=>.ok (ρ.set i x)):=fun B H0 H σ ρ F v x N A r d=>by
 unfold grd at d;dsimp only at d;by_cases h:x.flat=true
 ·rw[Ba h] at d
  exact d _ (Se F i []) AA (Ag.put (G:=[]) (R:=[]) A hi (by simp) ⟨rfl,v,rfl,h,r.any⟩)
 ·rw[Aa h] at d;exact d.elim
noncomputable def D7(n:Nat)(x:PV):Rr LI5:=match x with
 |.tup xs=>if xs.length=n then .ok xs else .bad
 |_=>.bad
end
noncomputable def RS.turn:RS->(LI5->RS)->RS
 |.next ρ,f=>f ρ
 |.cont ρ,f=>f ρ
 |.brk ρ,_=>.next ρ
 |r,_=>r
noncomputable def Rf(b:PV->LI5->RS):LI5->LI5->RS
 |[],ρ=>.next ρ
 |x::xs,ρ=>(b x ρ).turn (Rf b xs)
noncomputable def Mi(c:LI5->Rr Bool)(b:LI5->RS):Nat->LI5->Option RS
 |0,_=>none
 |n+1,ρ=>match c ρ with
  |.ok true=>match b ρ with
   |.next ρ'=>Mi c b n ρ'
   |.cont ρ'=>Mi c b n ρ'
   |.brk ρ'=>some (.next ρ')
   |r=>some r
  |.ok false=>some (.next ρ)
  |.exc e=>some (.exc e)
  |.bad=>some .bad
open Classical in
def Op(c:LI5->Rr Bool)(b:LI5->RS)(ρ:LI5):RS:=if h:∃n r,Mi c b n ρ=some r then h.choose_spec.choose else .bad
theorem A9: ∀{n m:Nat}{ρ:LI5}{r:RS},n<=m->Mi c b n ρ=some r->Mi c b m ρ=some r
 |0,_,_,_,_,h=>by cases h
 |n+1,0,_,_,hl,_=>by lia
 |n+1,m+1,ρ,r,hl,h=>by
  unfold Mi at h ⊢;cases hc:c ρ with
  |ok b' =>
   cases b' with
   |true =>
    rw[hc] at h;cases hb:b ρ with
    |next ρ'=>rw[hb] at h;exact A9 (by lia) h
    |cont ρ'=>rw[hb] at h;exact A9 (by lia) h
    |brk ρ'=>rw[hb] at h;exact h
    |ret x=>rw[hb] at h;exact h
    |exc e=>rw[hb] at h;exact h
    |bad=>rw[hb] at h;exact h
   |false=>rw[hc] at h;exact h
  |exc e=>rw[hc] at h;exact h
  |bad=>rw[hc] at h;exact h
theorem ZhC(h:Mi c b n ρ=some r)(h':Mi c b m ρ=some r'): r=r':=by
 rcases Nat.le_total n m with q|q
 ·have:=A9 q h;rw[h'] at this;exact(Option.some.inj this).symm
 ·have:=A9 q h';rw[h] at this;exact Option.some.inj this
theorem Zb1(h:Mi c b n ρ=some r): Op c b ρ=r:=by
 unfold Op;have hx:∃n r,Mi c b n ρ=some r:=⟨n,r,h⟩
 rw[Rm hx];exact ZhC hx.choose_spec.choose_spec h
section
variable {K:ZmM}{B:Ja->Prop}{EX:PX->Hp->Prop}{H0 H H':Hp}{σ:St}{Γ Γ1 Γ2 Γ3 Γl Γt:List Md}{ρ:LI5}{F F':Nat->LI2}{k:Kd}{x:PV}{v:V}{te ti:TE}{f fc fe:LI5->Rr PV}{t u:TS}{g:LI5->RS}{D:Xm}
theorem Pk(hi:DI K EX Γ Γ1 wi fi)(hw:Ui Γ1 Γl=true)(hg:DG K EX Γl Γt gt h)(hb:DS K EX Γt ⟨Γl,Γl,Γl,k⟩ t g):
  DS K EX Γ ⟨Γl,Γ2,Γ3,k⟩ (KN wi gt t) (fun ρ=>(fi ρ).thenS fun xs=>Rf (fun x ρ=>(h x ρ).thenS g) xs ρ):=fun B H0 H σ ρ F D A d=>by
 refine hi B H0 H σ ρ F [] _ A (d.thenS.imp (fun xs _ d J H1 F1 s1 f1 A1 it=>?_) fun e q=>q);obtain⟨Fl,fl,Al⟩:=A1.weak hw;have fr0:Ec H F H1 Fl:=Ec.of s1 fun j a ha=>f1 j a (fl j a ha);have fr1:Ec H1 F1 H1 Fl:=Ec.of (Ia.refl _) fl;refine⟨fun i m σ' H'=>∃ρ' F',m=xs.length-i/\i<=xs.length/\Ec H1 F1 H' F'/\Ag K B H0 H' σ' Γl ρ' F' []/\Xi K B EX ⟨Γl,Γ2,Γ3,k⟩ H0 H' F' D (Rf (fun x ρ=>(h x ρ).thenS g) (xs.drop i) ρ'),
  ⟨xs.length,ρ,Fl,by simp,Og _,fr1,Al,by simpa using Xi.shift fr0 d⟩, ?_⟩
 rintro i m σ' H' ⟨ρ',F',rfl,hi',fr,A',dn⟩;have itp:=it H' F' fr i;cases hx:xs[i]? with
 |none =>
  refine .inl ⟨itp.2 hx, ?_⟩;have hd:xs.drop i=[]:=FO (Kt.mp hx);rw[hd] at dn;exact dn σ' H' F' Ec.refl A'
 |some x =>
  have hlt:i<xs.length:=(Pd.mp hx).1;obtain⟨go,yl⟩:=itp.1 x hx;have hdx:xs.drop i=x::xs.drop (i+1):=by
   rw[Hr hlt];rw[Rc hlt] at hx;cases hx;rfl
  rw[hdx] at dn;simp only[Rf] at dn;refine .inr ⟨go,fun σ2 H2=>∃ρ2 F2,Ec H1 F1 H2 F2/\Ag K B H0 H2 σ2 Γl ρ2 F2 []/\Xi K B EX ⟨Γl,Γ2,Γ3,k⟩ H0 H2 F2 D (Rf (fun x ρ=>(h x ρ).thenS g) (xs.drop (i+1)) ρ2),
   fun σ2 H2 ⟨ρ2,F2,a1,a2,a3⟩=>⟨xs.length-(i+1),by lia,ρ2,F2,rfl,hlt,a1,a2,a3⟩,fun v H3 y=>?_⟩
  obtain⟨s3,rx⟩:=yl v H3 y;have fr3:Ec H' F' H3 F':=Ec.of s3 fun _ _ h=>h;refine hg B H0 H3 σ' ρ' F' v x _ (A'.grow s3) (Ya.mono (fun a us s r=>⟨r,s.1⟩) (fun a us r=>r) rx) ?_;cases e:h x ρ' with
  |ok ρt =>
   rw[e] at dn;refine fun σt Ft ft At=>hb B H0 H3 σt ρt Ft _ At ?_;have frt:Ec H' F' H3 Ft:=Ec.of s3 ft;simp only[Rr.thenS_ok] at dn;cases e2:g ρt with
   |next ρ2=>rw[e2] at dn;exact fun σ2 H2 F2 fr2 A2=>⟨ρ2,F2,fr.trans (frt.trans fr2),A2,Xi.shift (frt.trans fr2) dn⟩
   |cont ρ2=>rw[e2] at dn;exact fun σ2 H2 F2 fr2 A2=>⟨ρ2,F2,fr.trans (frt.trans fr2),A2,Xi.shift (frt.trans fr2) dn⟩
   |brk ρ2=>rw[e2] at dn;exact fun σ2 H2 F2 fr2 A2=>dn σ2 H2 F2 (frt.trans fr2) A2
   |ret y=>rw[e2] at dn;exact dn
   |exc q=>rw[e2] at dn;exact dn
   |bad=>rw[e2] at dn;exact dn
  |exc q=>rw[e] at dn;exact dn
  |bad=>rw[e] at dn;exact dn
theorem LI{fc: LI5->Rr Bool}(hc:DT K EX Γ Γ c fc)(hb:DS K EX Γ ⟨Γ,Γ,Γ,k⟩ t g): DS K EX Γ ⟨Γ,Γ2,Γ3,k⟩ (Zbk c t) (fun ρ=>Op fc g ρ):=fun B H0 H σ ρ F D A d=>by
 dsimp only at d;have ex:∃n,Mi fc g n ρ=some (Op fc g ρ):=by
  by_cases hx:∃n r,Mi fc g n ρ=some r
  ·obtain⟨n,r,e⟩:=hx
   exact⟨n,by rw[Zb1 e];exact e⟩
  ·unfold Op at d
   rw[dif_neg hx] at d;exact d.elim
 obtain⟨n0,e0⟩:=ex;generalize hr:Op fc g ρ=r at e0 d;refine⟨fun m σ' H'=>∃ρ' F',Ec H F H' F'/\Ag K B H0 H' σ' Γ ρ' F' []/\Mi fc g m ρ'=some r,⟨n0,ρ,F,Ec.refl,A,e0⟩, ?_⟩;rintro m σ' H' ⟨ρ',F',fr,A',e⟩;cases m with
 |zero=>cases e
 |succ m =>
  unfold Mi at e;refine hc B H0 H' σ' ρ' F' [] _ A' ?_;cases e1:fc ρ' with
  |ok b =>
   rw[e1] at e;refine fun H2 F2 s2 f2 A2=>?_;have fr2:Ec H' F' H2 F2:=Ec.of s2 f2;cases b with
   |true =>
    refine⟨fun σ3 H3=>∃ρ3 F3,Ec H F H3 F3/\Ag K B H0 H3 σ3 Γ ρ3 F3 []/\Mi fc g m ρ3=some r,fun σ3 H3 h=>⟨m,VF _,h⟩, ?_⟩;refine hb B H0 H2 σ' ρ' F2 _ A2 ?_;cases e2:g ρ' with
    |next ρ2=>rw[e2] at e;exact fun σ3 H3 F3 fr3 A3=>⟨ρ2,F3,fr.trans (fr2.trans fr3),A3,e⟩
    |cont ρ2=>rw[e2] at e;exact fun σ3 H3 F3 fr3 A3=>⟨ρ2,F3,fr.trans (fr2.trans fr3),A3,e⟩
    |brk ρ2 =>
     rw[e2] at e;have e':RS.next ρ2=r:=Option.some.inj e;rw[<- e'] at d;exact fun σ3 H3 F3 fr3 A3=>d σ3 H3 F3 (fr.trans (fr2.trans fr3)) A3
    |ret y =>
     rw[e2] at e;have e':RS.ret y=r:=Option.some.inj e;rw[<- e'] at d;exact d
    |exc q =>
     rw[e2] at e;have e':RS.exc q=r:=Option.some.inj e;rw[<- e'] at d;exact d
    |bad =>
     rw[e2] at e;have e':RS.bad=r:=Option.some.inj e;rw[<- e'] at d;exact d
   |false =>
    have e':RS.next ρ'=r:=Option.some.inj e;rw[<- e'] at d;exact d σ' H2 F2 (fr.trans fr2) A2
  |exc q =>
   rw[e1] at e;have e':RS.exc q=r:=Option.some.inj e;rw[<- e'] at d;exact d
  |bad =>
   rw[e1] at e;have e':RS.bad=r:=Option.some.inj e;rw[<- e'] at d;exact d
theorem Trees.get:∀{xs:LI5}{vs:List V}{G:LI2}{j:Nat}{x:PV},Trees K H xs vs G->xs[j]?=some x->∃v G',vs[j]?=some v/\Pb K H x v G'/\∀a∈G',a∈G
 |[],_,_,_,_,_,e=>by simp at e
 |y::xs,_,_,0,x,h,e=>by
  obtain⟨v,r,G1,G2,rfl,h1,h2,h3,rfl⟩:=h;simp at e;subst e;exact⟨v,G1,rfl,h1,fun a ha=>by simp[ha]⟩
 |y::xs,_,_,j+1,x,h,e=>by
  obtain⟨v,r,G1,G2,rfl,h1,h2,h3,rfl⟩:=h;obtain⟨w,G',e1,e2,e3⟩:=Trees.get (j:=j) h2 (by simpa using e);exact⟨w,G',by simpa using e1,e2,fun a ha=>by simp[e3 a ha]⟩
theorem ZlS{i: Int}(h:Trees K H xs vs G)(e:Ef xs i=some z): ∃u G',Ef vs i=some u/\Pb K H z u G'/\∀a∈G',a∈G:=by
 unfold Ef at e ⊢;rw[h.length];cases q:Lj xs.length i with
 |none=>rw[q] at e;cases e
 |some j=>rw[q] at e;exact h.get e
theorem K8(hm:Γ2[i]?=some .O)(hmΓ:Γ[i]?=some .O)(hi:DE K EX Γ Γ2 .A ti f)(he:DE K EX Γ2 Γ2 .A te fe):
  DS K EX Γ ⟨Γ2,Γ1,Γ3,k⟩ (ZaL (Wg i) ti te (P4 K) (IJ h) QM) (fun ρ=>(f ρ).thenS fun j=>(pIx (gv i ρ) j).thenS fun z=>(asL (gv i ρ)).thenS fun _=>(fe ρ).thenS fun y=>(oI (fun _ _=>true) (fun a b=>.int (h a b)) z y).thenS fun w=>(pSet (gv i ρ) j w).thenS fun z=>.next (ρ.set i z)):=fun B H0 H σ ρ F D A d=>by
 obtain⟨v,h1,h2⟩:=A.getO hmΓ;refine⟨v,h1,hi B H0 H σ ρ F [] _ A (d.thenS.imp (fun j _ d jv H1 s1 r1=>?_) fun e q=>q)⟩;obtain⟨F1,f1,p1,A1⟩:=r1;obtain⟨z,ez,d⟩:=Dn.pIx d.thenS;obtain⟨xs,ex,d⟩:=Dn.asL d.thenS;rw[ex] at ez;obtain⟨v',h1',h2'⟩:=A1.getO hm;rw[h1] at h1';cases h1';rw[show ρ.getD i .non=.lst xs from ex] at h2';obtain⟨a,vs,G,rfl,hH,ht,hn,hF⟩:=h2';obtain⟨j,rfl⟩:∃j',j=PV.int j':=by cases j<;>first|exact⟨_,rfl⟩|(simp only[pIx] at ez;cases ez;done)
 cases p1;simp only[pIx] at ez;cases e1:Ef xs j with
 |none=>rw[e1] at ez;cases ez
 |some z' =>
  rw[e1] at ez;cases ez;obtain⟨u,G2,e2,e3,e4⟩:=ZlS ht e1;refine⟨a,vs,j,u,rfl,rfl,Uc.of hH,e2,he B H0 H1 σ ρ F1 [] _ A1 (d.thenS.imp (fun y _ d w H2 s2 r2=>?_) fun e q=>q)⟩;obtain⟨F2,f2,p2,A2⟩:=r2;obtain⟨zi,yi,rfl,rfl⟩:∃zi yi,z=PV.int zi/\y=PV.int yi:=by cases z<;>cases y<;>first|exact⟨_,_,rfl,rfl⟩|(exact d.elim;done)
  obtain⟨e5,_⟩:=e3;subst e5;cases p2;refine⟨zi,yi,rfl,rfl, ?_⟩;obtain⟨xs',jj,n,ex',e6,e7,d⟩:=Dn.pSet (show Xi _ _ _ _ _ _ _ _ ((pSet (gv i ρ) (.int j) (.int (h zi yi))).thenS _) from d).thenS;cases e6;rw[ex] at ex';cases ex';obtain⟨v',h1',h2'⟩:=A2.getO hm;rw[h1] at h1';cases h1';rw[show ρ.getD i .non=.lst xs from ex] at h2';obtain⟨a',vs',G',e,hH',Ad,hn',hF'⟩:=h2';cases e;refine⟨a,vs',j,n,rfl,rfl,hH',by rw[Ad.length];exact e7, ?_⟩;obtain⟨G'',g1,g2⟩:=Trees.setP (j:=n) (y:=.int (h zi yi)) (w:=.int (h zi yi)) Ad ⟨rfl,rfl⟩;have haF:a∈F2 i:=by rw[hF'];simp
  have hsub:∀b∈a::G'',b∈F2 i:=fun b hb=>by
   rw[hF'];rcases Lc.mp hb with rfl|hb
   ·simp
   ·simp[g1 b hb]
  refine d σ _ (Se F2 i (a::G'')) (W8 (s1.trans s2) (fun j b hb=>f1 j b (f2 j b hb)) haF fun b hb=>.inr ⟨i,f1 i b (f2 i b (hsub b hb))⟩) (Ag.chg (G:=[]) A2 hm haF (fun b hb=>.inl (hsub b hb)) (by simp) ?_);exact⟨_,h1,a,_,G'',rfl,Hd,g2.put hH' (fun z=>hn' (g1 a z)),fun z=>hn' (g1 a z),rfl⟩
end
def RS.out:RS->Rr PV
 |.next _=>.ok .non
 |.ret x=>.ok x
 |.exc e=>.exc e
 |.brk _=>.bad
 |.cont _=>.bad
 |.bad=>.bad
@[simp] theorem RS.out_next: (RS.next ρ).out=.ok .non:=rfl
@[simp] theorem RS.out_ret: (RS.ret x).out=.ok x:=rfl
@[simp] theorem RS.out_exc: (RS.exc e).out=.exc e:=rfl
def Nw(r r':Rr PV):Prop:=r=.bad\/r=r'
structure Pm where
 α:Type
 enc:α->LI5
 pre:α->Prop
 out:α->Rr PV
open Classical in
def Pm.fn(m:Pm)(xs:LI5):Rr PV:=if h:∃a,m.enc a=xs/\m.pre a then m.out h.choose else .bad
theorem Pm.fn_eq(m:Pm)(a:m.α)(h:m.pre a)(inj:∀b,m.enc b=m.enc a->m.out b=m.out a):m.fn (m.enc a)=m.out a:=by
 unfold Pm.fn;have hx:∃b,m.enc b=m.enc a/\m.pre b:=⟨a,rfl,h⟩
 rw[Rm hx];exact inj _ hx.choose_spec.1
theorem Pm.ref(m:Pm){g:LI5->Rr PV}(h:∀a,m.pre a->g (m.enc a)=m.out a)(xs:LI5):Nw (m.fn xs) (g xs):=by
 unfold Pm.fn;by_cases hx:∃a,m.enc a=xs/\m.pre a
 ·rw[Rm hx]
  have h2:=hx.choose_spec;right;have:=h _ h2.2;rw[h2.1] at this;exact this.symm
 ·rw[dif_neg hx];exact .inl rfl
section
variable {K:ZmM}{B:Ja->Prop}{H:Hp}
theorem Ag.init(h:Reps K H B xs vs): Ag K (fun a=>B a\/H a=none) H H (vs.map some++List.replicate n none) (List.replicate xs.length .S++List.replicate n .U) (xs++List.replicate n .non) (fun _=>[]) []:=by
 refine⟨Ia.refl _,fun a h=>.inr h,by simp,by simp,by simp,by simp,by simp,by simp,by simp[h.length],by simp,fun i=>?_⟩;by_cases hi:i<xs.length
 ·have e1:(List.replicate xs.length Md.S++List.replicate n Md.U).getD i .U=.S:=by
   rw[Bb,Pi (by simpa using hi),ZbN hi];rfl
  have e2:(xs++List.replicate n PV.non).getD i .non=xs[i]:=by
   rw[Bb,Pi hi,Rc hi];rfl
  rw[e1,e2];obtain⟨v,h1,h2⟩:=h.get (Rc hi);refine⟨rfl,v, ?_,Ya.mono (fun a us s r=>⟨r,.inl s,by simp,by simp⟩) (fun a us r=>r) h2⟩;rw[Pi (by rw[Lb,h.length];exact hi),Cd,h1];rfl
 ·have e1:(List.replicate xs.length Md.S++List.replicate n Md.U).getD i .U=.U:=by
   rw[Bb,Ei (by simpa using hi)];by_cases q:i-(List.replicate xs.length Md.S).length<n
   ·rw[ZbN q];rfl
   ·rw[Ch (by simpa using q)];rfl
  rw[e1];exact rfl
end
section
variable {P:Qc}{w:Xb}{K:ZmM}{mg:Str->Option Va}{base:Heap}
theorem Zc.okP{x qual:Str}{st:Fb}{f:Ja}{fd:Dl}{N ps:List Str}{k n l:Nat}{kd:Kd}{m:LI5->Rr PV}(F:Zc K x qual st f fd)(S:Gc N ps (Ob st))(hn:ps.length=n)(hl:N.length-n=l)(hbody:∀(Ib:Va) (A:Qe) (outer:List Env) (s:Ha) (H:Hp) (E:XK),He k (A.deeper (envOfC qual (Ob st) s.heap.objs.size f Ib)) ->
   ∃t g Y,Y.r=kd/\Yg (Ki Ic P w K mg base N qual (Ob st) f Ib A outer s H E).nox (Bm st) t/\DS K X0 (List.replicate n .S++List.replicate l .U) Y t g/\∀xs,Nw (m xs) (g (xs++List.replicate l .non)).out)(hkN:kd≠.N:=by nofun)(hkM:kd≠.M:=by nofun) :
  Yb P w K mg base Ic (k+1) f fd ps (Wb K n kd W0 m):=by
 refine F.ok S (fun vs H Q E h=>?_) (fun Ib A outer s H vs Q E hr h=>?_)
 ·obtain⟨B,xs,h1,h2,_⟩:=h
  rw[h1.length,h2,hn]
 ·obtain⟨B,xs,h1,h2,dn⟩:=h
  obtain⟨t,g,Y,hY,ht,hd,href⟩:=hbody Ib A outer s H E hr;refine⟨t,ht, ?_⟩;have A0:=Ag.init (n:=l) h1;have est:Pj N vs=vs.map some++List.replicate l none:=by
   unfold Pj;rw[h1.length,h2,hl]
  rw[est];rw[h2] at A0;refine hd _ H H _ _ _ _ A0 ?_;have hdn:Dn (g (xs++List.replicate l .non)).out (fun x=>∀v H',Ia H H'->Jm K B H kd x v H'->Q v H') (fun e=>∀H',Ia H H'->W0 e E H'):=by
   rcases href xs with e|e
   ·rw[e] at dn;exact dn.elim
   ·rw[<- e];exact dn
  have retK:∀{x v H'},Jm K (fun a=>B a\/H a=none) H kd x v H'->Jm K B H kd x v H':=fun {x v H'} h=>by
   cases kd with
   |P=>exact h
   |F=>exact h
   |T=>exact Ya.mono (fun a us s r=>⟨r,s.elim id .inr⟩) (fun a us r=>r) h
   |Z=>exact Ya.mono (fun a us s r=>⟨r,s.elim id .inr⟩) (fun a us r=>r) h
   |A=>exact Ya.mono (fun a us s r=>⟨r,s.elim id .inr⟩) (fun a us r=>r) h
   |N=>exact h
   |M=>exact h
  cases e:g (xs++List.replicate l .non) with
  |next ρ =>
   rw[e] at hdn;refine fun σ' H' F' fr A'=>hdn .non H' A'.same ?_;cases kd with
   |P=>exact⟨rfl,rfl⟩
   |F=>exact⟨[],⟨rfl,rfl⟩,by simp⟩
   |T=>exact rfl
   |Z=>exact rfl
   |A=>exact rfl
   |N=>exact Gb rfl hkN
   |M=>exact Gb rfl hkM
  |ret x=>rw[e] at hdn;exact fun v H' s r=>hdn v H' s (retK (hY▸r))
  |exc q=>rw[e] at hdn;exact fun H' s=>hdn H' s
  |brk ρ=>rw[e] at hdn;exact hdn.elim
  |cont ρ=>rw[e] at hdn;exact hdn.elim
  |bad=>rw[e] at hdn;exact hdn.elim
end
section
variable {K:ZmM}{n:Nat}{m:LI5->Rr PV}{e:Expr}{ta:TA}{Γ Γ':List Md}{fa:LI5->Rr LI5}
theorem Zfh(hn:Ph fa n)(ha:Ge K X0 Γ Γ' ta fa):DE K X0 Γ Γ' .F (Nm (Wb K n .F W0 m) ta) (fun ρ=>(fa ρ).bind m):=ZU (E:=E0) (W:=W0) (fun σ H Q h=>h) (fun e H' h=>h) hn ha
theorem Zfi(hn:Ph fa n)(ha:Ge K X0 Γ Γ' ta fa):DE K X0 Γ Γ' .P (Nm (Wb K n .P W0 m) ta) (fun ρ=>(fa ρ).bind m):=JU (E:=E0) (W:=W0) (fun σ H Q h=>h) (fun e H' h=>h) hn ha
theorem VI(hn:Ph fa n)(ha:Mr K X0 Γ Γ' ta fa):DE K X0 Γ Γ' .Z (Nm (Wb K n .Z W0 m) ta) (fun ρ=>(fa ρ).bind m):=Zfk (E:=E0) (W:=W0) (fun σ H Q h=>h) (fun e H' h=>h) hn ha
end
theorem Zir{K:ZmM}{H:Hp}{a:Ja}{ns:LI0}{m:LI5->Rr PV}(hm:m [.lst (ns.map PV.int)]=.ok (.bl true))(hS:Uc K H a (ns.map V.int)):Wb K 1 .P W0 m [.ref a] H (fun v _=>v=.bl true) fun _ _ _=>False:=by
 refine⟨fun _=>True,[.lst (ns.map PV.int)],Reps.one ⟨a,_,rfl,hS.elim (fun h=>.inl ⟨h,trivial⟩) .inr,GW ns⟩,rfl, ?_⟩;rw[hm];exact fun v H' _ r=>r.2
section
variable {K:ZmM}{EX:PX->Hp->Prop}{Γ Γ':List Md}{ta:TA}{fa:LI5->Rr LI5}
theorem LR:Fh "max"=some (.builtin "max"):=by decide +kernel
theorem ZcU:Fh "any"=some (.builtin "any"):=by decide +kernel
def IA(xs:LI5):Rr PV:=match xs with
 |[.int i,.int j]=>.ok (.int (if j>i then j else i))
 |_=>.bad
theorem AU(ha:Ge K EX Γ Γ' ta fa):DE K EX Γ Γ' .P (Ci (fun xs H Q=>∃i j,xs=[.int i,.int j]/\Q (.int (if j>i then j else i)) H) ta) (fun ρ=>(fa ρ).bind IA):=by
 refine Q3 (fun {H xs vs Q} h z e=>?_) (fun xs e h=>?_) ha
 ·unfold IA at e
  split at e<;>first|(cases e;done)|skip
  cases e;obtain⟨v,w,rfl,h1,h2⟩:=FM h;cases h1;cases h2;exact⟨rfl,fun q=>⟨_,_,rfl,q _ rfl⟩⟩
 ·unfold IA at h;split at h<;>cases h
end
def RS.good(r:RS)(I:LI5->Prop):Prop:=match r with
 |.next ρ=>I ρ
 |.cont ρ=>I ρ
 |_=>False
theorem RS.good_ex{r: RS}(h:r.good I): ∃ρ',(r=.next ρ'\/r=.cont ρ')/\I ρ':=by
 cases r with
 |next ρ=>exact⟨ρ,.inl rfl,h⟩
 |cont ρ=>exact⟨ρ,.inr rfl,h⟩
 |ret x=>exact h.elim
 |brk ρ=>exact h.elim
 |exc e=>exact h.elim
 |bad=>exact h.elim
theorem GV{xs: LI5}(I:Nat->LI5->Prop)(h0:I 0 ρ)(h:∀i x ρ,xs[i]?=some x->I i ρ->(b x ρ).good (I (i+1))):
  ∃ρ',Rf b xs ρ=.next ρ'/\I xs.length ρ':=by
 have key:∀n i ρ,xs.length=i+n->I i ρ->∃ρ',Rf b (xs.drop i) ρ=.next ρ'/\I xs.length ρ':=by
  intro n
  induction n with
  |zero =>
   intro i ρ hl hI;rw[FO (by lia)];exact⟨ρ,rfl,by rw[hl];exact hI⟩
  |succ n ih =>
   intro i ρ hl hI;have hi:i<xs.length:=by lia
   rw[Hr hi];obtain⟨ρ',h1,h2⟩:=RS.good_ex (h i _ ρ (Rc hi) hI);obtain⟨ρ2,h3,h4⟩:=ih (i+1) ρ' (by lia) h2;refine⟨ρ2, ?_,h4⟩;simp only[Rf];rcases h1 with h1|h1<;>(rw[h1];exact h3)
 exact key xs.length 0 ρ (by lia) h0
theorem Tn{lo: Int}(h:(Kh lo n)[i]?=some x): i<n/\x=.int (lo+i):=by
 unfold Kh at h;rw[Cd] at h;by_cases hi:i<n
 ·rw[Ir hi] at h;cases h;exact⟨hi,rfl⟩
 ·rw[Ch (by simpa using hi)] at h;cases h
@[simp] theorem Wn{lo: Int}: (Kh lo n).length=n:=by simp[Kh]
theorem QK{α β:Type}{f:α->Rr β}{g:α->β}:∀{xs:List α},(∀x∈xs,f x=.ok (g x))->Fg f xs=.ok (xs.map g)
 |[],_=>rfl
 |x::xs,h=>by
  simp only[Fg,h x (by simp),Rr.bind_ok,QK (xs:=xs) fun y hy=>h y (by simp[hy]),Dd]
@[simp] theorem ZgP: gv 0 (x::ρ)=x:=rfl
@[simp] theorem ZgO: gv (i+1) (x::ρ)=gv i ρ:=rfl
theorem GA{ns:LI0}{k:Int}(h0:0<=k)(h1:k<ns.length):pIx (.lst (ns.map PV.int)) (.int k)=.ok (.int (ns.getD k.toNat 0)):=by
 have:Ef (ns.map PV.int) k=some (.int (ns.getD k.toNat 0)):=by
  unfold Ef;rw[Lb,P3 h0 h1];show (ns.map PV.int)[k.toNat]?=_;rw[Cd,Rc (by lia),Bb,Rc (by lia)];rfl
 simp only[pIx,this]
theorem DL{ns:LI0}{k y:Int}(h0:0<=k)(h1:k<ns.length):pSet (.lst (ns.map PV.int)) (.int k) (.int y)=.ok (.lst ((ns.set k.toNat y).map PV.int)):=by
 simp only[pSet,Lb,P3 h0 h1,List.map_set]
theorem ZjD{y: Int}(h:ns.length<1000000): pApp (.lst (ns.map PV.int)) (.int y)=.ok (.lst ((ns++[y]).map PV.int)):=by
 simp only[pApp,Lb,Ba h,Kr,Dd,Zw]
theorem Xx{ns:LI0}(h:ns.length<=1000000):newF (ns.map PV.int)=.ok (.lst (ns.map PV.int)):=by
 unfold newF;rw[PV.flats_ints,Lb,Hb h];rfl
theorem JI(ns:LI0):PV.dats (ns.map PV.int)=ns.map PyData.int:=by
 induction ns with
 |nil=>rfl
 |cons n ns ih=>simp[PV.dats,PV.dat,ih]
theorem Zet(ns:LI0):PyData.canLayAll0 (ns.map PyData.int)=true:=by
 induction ns with
 |nil=>rfl
 |cons n ns ih=>simp[PyData.canLayAll0,PyData.canLay0,ih]
theorem AY(i:Int):Ni (.int i)=true:=by simp[Ni,PV.noX,PV.dat,PyData.canLay0,PyData.depth]
theorem BY(ns:LI0):Ni (.lst (ns.map PV.int))=true:=by
 have hd:PyData.depthAll (ns.map PyData.int)=0:=by
  induction ns with
  |nil=>rfl
  |cons n ns ih=>simp[PyData.depthAll,PyData.depth,ih]
 simp[Ni,PV.noX,PV.noXs_ints,PV.dat,JI,PyData.canLay0,Zet,PyData.depth,hd]
theorem OI:∀(ns ms:LI0),PyData.eqvAll (ns.map PyData.int) (ms.map PyData.int)=decide (ns=ms)
 |[],[]=>by simp[PyData.eqvAll]
 |[],m::ms=>by simp[PyData.eqvAll]
 |n::ns,[]=>by simp[PyData.eqvAll]
 |n::ns,m::ms=>by
  simp only[Dd,PyData.eqvAll,PyData.eqv,OI ns ms,List.cons.injEq,Bool.decide_and];rw[Bool.beq_eq_decide_eq]
theorem IY(ns ms:LI0): Mf g (.lst (ns.map PV.int)) (.lst (ms.map PV.int))=.ok (.bl (g (decide (ns=ms)))):=by
 unfold Mf;rw[BY,BY];simp only[Bool.and_self,if_true,PV.dat,JI,PyData.eqv,OI]
theorem ZjM(i j:Int): Mf g (.int i) (.int j)=.ok (.bl (g (decide (i=j)))):=by
 unfold Mf;rw[AY,AY];simp only[Bool.and_self,if_true,PV.dat,PyData.eqv];rw[Bool.beq_eq_decide_eq]
theorem OY(ns:LI0):Pq [.lst (ns.map PV.int)]=.ok (.int ns.length):=by simp[Pq]
theorem Zkr(ns:LI0):EL [.lst (ns.map PV.int)]=.ok (.int ns.sum):=by simp[EL,Jy]
theorem PY{ns:LI0}(h:ns.length<=1000000):Rq [.lst (ns.map PV.int)]=.ok (.lst (ns.map PV.int)):=by
 simp only[Rq];exact Xx h
theorem LK{ns ms:LI0}(h:ns.length+ms.length<=1000000):newF (ns.map PV.int++ms.map PV.int)=.ok (.lst ((ns++ms).map PV.int)):=by
 rw[<- Kr];exact Xx (by simpa using h)
theorem TY{k: Int}(h0:ns.length*k.toNat<=1000000)(h1:-(2^63)<=k)(h2:k<2^63): Ks (ns.map PV.int) (.int k)=.ok (.lst ((List.replicate k.toNat ns).flatten.map PV.int)):=by
 simp only[Ks,Lb];rw[Ba ⟨h0,h1,h2⟩];have e:(List.replicate k.toNat (ns.map PV.int)).flatten=(List.replicate k.toNat ns).flatten.map PV.int:=by
  rw[List.map_flatten,List.map_replicate]
 rw[e];refine Xx ?_;rw[I9,Nat.mul_comm];exact h0
theorem Zey{i j:Int}(a b:Nat)(h1:i.natAbs<=10^a)(h2:j.natAbs<=10^b)(ha:a<=4000:=by decide)(hb:b<=4000:=by decide):Vu i j:=by
 have t:∀c:Nat,c<=4000->(10:Nat)^c<2^60000:=fun c hc=>Xt (BP (by decide) hc) (by decide +kernel);exact⟨Xt h1 (t a ha),Xt h2 (t b hb)⟩
theorem VT{i j:Int}(b:Nat)(h1:0<j)(h2:j.natAbs<=10^b)(hb:b<=2000:=by decide):Ju i j:=by
 have t:∀c:Nat,c<=2000->(10:Nat)^c<2^9000:=fun c hc=>Xt (BP (by decide) hc) (by decide +kernel);exact⟨h1,Xt h2 (t b hb)⟩
theorem HY{i j:Int}(h:Ju i j):TK (.int i) (.int j)=.ok (.int (i/j)):=ZA (Hb h)
theorem CL{i j:Int}(h:Vu i j):BL (.int i) (.int j)=.ok (.int (i*j)):=ZA (Hb h)
theorem UL{i j:Int}(h:0<j):SY (.int i) (.int j)=.ok (.int (i%j)):=ZA (Hb h)
theorem LA{i j:Int}(h:Dw i j):Uy (.int i) (.int j)=.ok (.int (i^j.toNat)):=ZA (Hb h)
@[simp] theorem Zj9{i j:Int}:RK (.int i) (.int j)=.ok (.int (i+j)):=rfl
@[simp] theorem Zkq{i j:Int}:XY (.int i) (.int j)=.ok (.int (i-j)):=rfl
@[simp] theorem Zkh{i j:Int}:RY (.int i) (.int j)=.ok (.bl (decide (i<j))):=rfl
@[simp] theorem Zkc{i j:Int}:pLe (.int i) (.int j)=.ok (.bl (decide (i<=j))):=rfl
@[simp] theorem ZjR{i j:Int}:LY (.int i) (.int j)=.ok (.bl (decide (j<i))):=rfl
@[simp] theorem ZjQ{i j:Int}:KY (.int i) (.int j)=.ok (.bl (decide (j<=i))):=rfl
@[simp] theorem ZgL{i:Int}:grd (.int i)=.ok (.int i):=rfl
@[simp] theorem ZgM: grd (.str i)=.ok (.str i):=rfl
@[simp] theorem ZcJ: asB (.bl b)=.ok b:=rfl
@[simp] theorem ZcM: asL (.lst xs)=.ok xs:=rfl
@[simp] theorem ZcL{i:Int}:asI (.int i)=.ok i:=rfl
@[simp] theorem ZjV{x: Int}: FA n (.int x)=.ok (.bl (Lq (Mp (.int x)) n)):=rfl
@[simp] theorem ZjW: FA n (.lst x)=.ok (.bl (Lq (Mp (.lst x)) n)):=rfl
@[simp] theorem Zkk{i:Int}:KA (.int i)=.ok (.int (-i)):=rfl
@[simp] theorem ZjZ: pIx (.tup (x::xs)) (.int 0)=.ok x:=by simp[pIx,Ef,Lj]
@[simp] theorem Zka: pIx (.tup (x::y::xs)) (.int 1)=.ok y:=by
 have:Ef (x::y::xs) 1=some y:=by unfold Ef;rw[P3 (by lia) (by simp only[Dh];lia)];rfl
 simp only[pIx,this]
theorem WY{j:Int}(h:-(2^62)<=j/\j<2^62):MA [.int j]=.ok (Kh 0 j.toNat):=by simp only[MA,Pn,Hb h,if_true]
theorem Zkm{i j:Int}(h:-(2^62)<=i/\i<2^62)(h':-(2^62)<=j/\j<2^62):NA [.int i,.int j]=.ok (Kh i (j-i).toNat):=by simp only[NA,Pn,Hb h,Hb h',Bool.and_self,if_true]
theorem Sx(h:xs.length<=1000000): lenM xs=.ok ():=by simp only[lenM,Ba h]
@[simp] theorem ZhA:Lq (Mp (.int i)) "int"=true:=rfl
@[simp] theorem Zh9:Lq (Mp (.int i)) "bool"=false:=rfl
@[simp] theorem ZhB:Lq (Mp (.lst xs)) "list"=true:=rfl
theorem Hh(h:I ρ): (RS.next ρ).good I:=h
theorem Sg{ns ms:LI0}(e:ns.map PV.int=ms.map PV.int):ns=ms:=by
 have:=Wf Fs e;simpa using this
theorem ZjG{i j:Int}(h0:0<j)(h1:j<1000000000000):TK (.int i) (.int j)=.ok (.int (i/j)):=HY (VT 12 h0 (by lia))
theorem Zj8:Uy (.int 10) (.int 60)=.ok (.int (10^60)):=by rw[LA (by decide)];rfl
theorem Zjb(h:xs.length<=1000): mkT xs=.ok (.tup xs):=Ba h
theorem Zja(h:xs.length<=1000): mkL xs=.ok (.lst xs):=Ba h
def KD{α:Type}:Sem α->Prop
 |.pure _=>True
 |.raise _=>True
 |.unsupported _=>True
 |.finish _=>True
 |.rule _ k=>KD (k ())
 |.at _ k=>KD (k ())
 |.load _ _ k=>∀o,KD (k o)
 |.update _ _ f k=>(∀o:Obj,(f o).dict=o.dict/\(o.isFreed=false->(f o).isFreed=false))/\KD (k ())
 |.alloc _ k=>∀a,KD (k a)
 |.loadIfAlive _ k=>∀o,KD (k o)
 |.point _ k=>KD (k ())
 |.register _ _=>True
 |.fresh k=>∀t,KD (k t)
 |.ask k=>∀x,KD (k x)
 |.choose _ _ k=>∀n,KD (k n)
 |.os _ _ k=>∀r,KD (k r)
 |.call _ _ _ _ _=>False
 |.handled _ k=>∀x,KD (k x)
 |.newGen _ k=>∀g,KD (k g)
 |.genState _ k=>∀x,KD (k x)
 |.resume _ _ _ _=>False
 |.yield _ _ _ _=>True
 |.stack k=>∀x,KD (k x)
 |.fork _ _=>True
 |.thread k=>∀x,KD (k x)
 |.await _ _ _ _ _=>True
def DK(h h':Heap):Prop:=∀b o,h.get? b=some o->∃o',h'.get? b=some o'/\o'.dict=o.dict
theorem DK.refl(h:Heap):DK h h:=fun b o e=>⟨o,e,rfl⟩
theorem DK.trans(a:DK h1 h2)(b:DK h2 h3): DK h1 h3:=fun x o e=>by
 obtain⟨o1,e1,d1⟩:=a x o e;obtain⟨o2,e2,d2⟩:=b x o1 e1;exact⟨o2,e2,d2.trans d1⟩
theorem ZhS: ∀(t:Sem α) (p:Pos) (s:Ha),KD t->DK h0 s.heap->Sem.wp M Γ t Q E p s ->
  Sem.wp M Γ t (fun a p' s'=>Q a p' s'/\DK h0 s'.heap) (fun e p' s'=>E e p' s'/\DK h0 s'.heap) p s:=by
 intro t
 induction t with
 |pure a=>intro p s _ d h;exact⟨h,d⟩
 |raise e=>intro p s _ d h;exact⟨h,d⟩
 |unsupported w=>intro p s _ _ h;exact h
 |finish e=>intro p s _ _ h;exact h
 |rule t k ih=>intro p s k d h;exact ih () p s k d h
 |«at» q k ih=>intro p s k d h;exact ih () q s k d h
 |load a q k ih=>intro p s k d h;obtain⟨o,e,h⟩:=h;exact⟨o,e,ih o p s (k o) d h⟩
 |update a q f k ih =>
  intro p s k d h;refine⟨h.1,ih () p _ k.2 (d.trans fun b o e=>?_) h.2⟩;by_cases hb:a=b
  ·subst hb
   exact⟨_,Heap.get?_update_self f e ((k.1 o).2 (Heap.get?_some_iff.mp e).2),(k.1 o).1⟩
  ·exact⟨o,(Heap.get?_update_other _ f hb).trans e,rfl⟩
 |alloc o k ih=>intro p s k d h;exact ih _ p _ (k _) (d.trans fun b o' e=>⟨o',Heap.get?_push_of_some _ e,rfl⟩) h
 |loadIfAlive a k ih=>intro p s k d h;exact ih _ p s (k _) d h
 |point l k ih=>intro p s k d h;exact ih () p s k d h
 |register a k ih=>intro p s _ _ h;exact h
 |fresh k ih=>intro p s k d h;exact ih _ p _ (k _) d h
 |ask k ih=>intro p s k d h;exact ih _ p _ (k _) d h
 |choose a n k ih=>intro p s k d h;exact⟨h.1,ih _ p _ (k _) d h.2⟩
 |os q l k ih=>intro p s k d h;exact ih _ p _ (k _) d h
 |call c h g l k ih=>intro p s k d h;exact k.elim
 |handled o k ih=>intro p s k d h;exact ih _ p _ (k _) d h
 |newGen c k ih=>intro p s k d h;exact ih _ p _ (k _) d h
 |genState g k ih=>intro p s k d h;obtain⟨st,e,h⟩:=h;exact⟨st,e,ih _ p s (k _) d h⟩
 |resume g r l k ih=>intro p s k d h;exact k.elim
 |yield v g l k ih=>intro p s _ _ h;exact h
 |stack k ih=>intro p s k d h;exact ih _ p _ (k _) d h
 |fork c k ih=>intro p s _ _ h;exact h
 |thread k ih=>intro p s k d h;exact ih _ p _ (k _) d h
 |await a t d l k ih=>intro p s _ _ h;exact h
theorem R3(k:KD t)(h:Sa M A t Q E s): Sa M A t (fun a s'=>Q a s'/\DK s.heap s'.heap) (fun e s'=>E e s'/\DK s.heap s'.heap) s:=
 fun Γ p hΓ=>ZhS t p s k (DK.refl _) (h Γ p hΓ)
theorem Sf: ∀(m:Sem α) {f:α->Sem β},KD m->(∀a,KD (f a))->KD (m >>= f):=by
 intro m f;show KD m->_->KD (m.bind f)
 induction m with
 |pure a=>intro _ h;exact h a
 |raise e=>intro _ _;trivial
 |unsupported w=>intro _ _;trivial
 |finish e=>intro _ _;trivial
 |rule t k ih=>intro k h;exact ih () k h
 |«at» q k ih=>intro k h;exact ih () k h
 |load a q k ih=>intro k h o;exact ih o (k o) h
 |update a q g k ih=>intro k h;exact⟨k.1,ih () k.2 h⟩
 |alloc o k ih=>intro k h a;exact ih a (k a) h
 |loadIfAlive a k ih=>intro k h o;exact ih o (k o) h
 |point l k ih=>intro k h;exact ih () k h
 |register a k ih=>intro _ _;trivial
 |fresh k ih=>intro k h a;exact ih a (k a) h
 |ask k ih=>intro k h a;exact ih a (k a) h
 |choose a n k ih=>intro k h a;exact ih a (k a) h
 |os q l k ih=>intro k h a;exact ih a (k a) h
 |call c h g l k ih=>intro k h;exact k.elim
 |handled o k ih=>intro k h a;exact ih a (k a) h
 |newGen c k ih=>intro k h a;exact ih a (k a) h
 |genState g k ih=>intro k h a;exact ih a (k a) h
 |resume g r l k ih=>intro k h;exact k.elim
 |yield v g l k ih=>intro _ _;trivial
 |stack k ih=>intro k h a;exact ih a (k a) h
 |fork c k ih=>intro _ _;trivial
 |thread k ih=>intro k h a;exact ih a (k a) h
 |await a t d l k ih=>intro _ _;trivial
theorem Vi: KD (pure a:Sem α):=trivial
theorem Ap: KD (unsupported w:Sem α):=trivial
theorem LJ: KD (load a):=fun _=>trivial
theorem ZhO(g:Array Va->Array Va)(o:Obj):(Obj.mapFields g o).dict=o.dict/\(o.isFreed=false->(Obj.mapFields g o).isFreed=false):=by
 obtain⟨c,d,dt,sl⟩:=o;cases dt<;>exact⟨rfl,fun h=>h⟩
theorem ZhL(v:Va):KD (fieldsOf v):=by
 unfold fieldsOf;cases v<;>try exact Ap
 refine Sf _ LJ fun o=>?_;cases o.data<;>first|exact Vi|exact Ap
theorem C9(v:Va)(i:Nat):KD (field v i):=by
 unfold field;refine Sf _ (ZhL v) fun vs=>?_;cases vs[i]?<;>first|exact Vi|exact Ap
theorem MJ(v:Va)(i:Nat)(x:Va):KD (setField v i x):=by
 unfold setField;cases v<;>try exact Ap
 unfold updateField;refine Sf _ LJ fun o=>?_;cases o.data<;>try exact Ap
 dsimp only
 split
 ·exact⟨fun o=>ZhO _ o,trivial⟩
 ·exact Ap
theorem NJ(e:Va)(f:Option Ja):KD (setFlight e f):=by
 unfold setFlight;refine Sf _ (C9 e 1) fun tb=>?_
 split
 ·exact MJ _ _ _
 ·exact Vi
theorem ZhP(ty:String)(vs:LI3):KD (newFields ty vs):=by
 unfold newFields newObj newObjAsIs;dsimp only;have al:∀(o:Obj),KD (alloc o):=fun _ _=>trivial
 split
 ·exact Sf _ Ap fun _=>Sf _ (al _) fun _=>Vi
 ·exact Sf _ (al _) fun _=>Vi
theorem ZhK(env:Env)(outer:List Env):KD (behindIsImport env outer):=by
 unfold behindIsImport
 split
 ·exact Vi
 ·split
  ·exact Vi
  ·exact Sf _ (C9 _ _) fun _=>Vi
theorem ZhN(env:Env)(i:Bool)(outer:List Env):KD (keptBack env i outer):=by
 cases outer with
 |nil =>
  have u:KD underTheClaimsCaller:=by
   unfold underTheClaimsCaller;exact Sf _ (show KD stack from fun _=>trivial) fun _=>Vi
  rw[keptBack]
  split
  ·exact Vi
  ·exact Sf _ u fun _=>Vi
 |cons c r=>unfold keptBack;exact Vi
theorem ZhR{o: Obj}: ({ o with slots:=sl }:Obj).dict=o.dict/\(o.isFreed=false->({ o with slots:=sl }:Obj).isFreed=false):=by
 obtain⟨c,d,dt,s⟩:=o;cases dt<;>exact⟨rfl,fun h=>h⟩
theorem TW:∀(l:List Env),KD (readyFrames l)
 |[]=>trivial
 |env::outer=>by
  unfold readyFrames;cases env.frame with
  |none=>exact Ap
  |some f =>
   dsimp only;refine Sf _ LJ fun o=>?_
   split
   ·exact Vi
   ·refine Sf _ (ZhK _ _) fun _=>Sf _ (ZhN _ _ _) fun _=>Sf _ ⟨fun o=>ZhR,trivial⟩ fun _=>TW outer
theorem ZhM(env:Env):KD (PySem.frameOf env):=by
 unfold PySem.frameOf;refine Sf _ ?_ fun l=>Sf _ ?_ fun r=>?_
 ·unfold frameEnvs
  exact Sf _ (fun _=>trivial) fun _=>Vi
 ·cases (List.dropWhile (fun x=>x.frame != env.frame) l) with
  |nil=>exact Vi
  |cons a r=>exact Sf _ (TW _) fun _=>Vi
 ·cases r<;>first|exact Vi|exact Ap
theorem ZhQ(f:Ja)(b:Bool):KD (entryPlaceOf f b):=by
 unfold entryPlaceOf;refine Sf _ (show KD stack from fun _=>trivial) fun acts=>?_
 split<;>exact Vi
theorem SW(e:Va)(env:Env):KD (noteFrame e env):=by
 unfold noteFrame;cases env.frame with
 |none=>exact Ap
 |some f =>
  dsimp only;refine Sf _ (C9 _ _) fun head=>?_;have tail:∀(hd:Bool),KD (do setField e 1 (<- EntryCells.newEntry head (<- PySem.frameOf env) .none (rawInt f) .none (<- entryPlaceOf f hd))):=fun hd =>
   Sf _ (ZhM env) fun _=>Sf _ (ZhQ _ _) fun _=>Sf _ (ZhP _ _) fun _=>MJ _ _ _
  split
  ·refine Sf _ (C9 _ _) fun x=>?_
   split
   ·exact Vi
   ·exact Sf _ (MJ _ _ _) fun _=>tail _
  ·exact tail _
theorem RW(env:Env)(e:Va):KD (leaving env e):=Sf _ (SW e env) fun _=>NJ e none
theorem Df.there(x:Df P w H h a o): ∃u,h.get? a=some u:=by
 cases o with
 |lst xs=>obtain⟨_,_,_,_,e⟩:=x;exact⟨_,e⟩
 |tup xs=>obtain⟨_,_,_,_,e,_⟩:=x;exact⟨_,e⟩
 |dK Ra=>obtain⟨_,_,_,_,o,_,_,e,_⟩:=x;exact⟨_,e⟩
 |dT Ra=>obtain⟨_,_,_,_,o,_,_,e,_⟩:=x;exact⟨_,e⟩
 |set S n=>obtain⟨o,_,_,_,e,_⟩:=x;exact⟨_,e⟩
 |ins C dx fs=>obtain⟨_,_,_,e,_⟩:=x;exact⟨_,e⟩
 |own y=>obtain⟨_,e⟩:=x;exact⟨_,e⟩
 |xd fs=>obtain⟨_,⟨_,_,_,e,_⟩,_⟩:=x;exact⟨_,e⟩
 |rng lo hi=>obtain⟨_,_,_,e⟩:=x;exact⟨_,e⟩
 |frz ob u=>exact⟨_,x.1⟩
 |tbl ps q=>obtain⟨_,e,_⟩:=x;exact⟨_,e⟩
 |met f y=>exact⟨_,x⟩
 |ext φ=>exact x.2.1
def Au(H:Hp)(ea k:Ja)(o:Obj):Prop:=(o.dict=none/\k=ea)\/(o.dict=some k/\∃fs,H k=some (.xd fs))
structure NF(P:Qc)(w:Xb)(outer:List Env)(H:Hp)(s:Ha)(ea k:Ja)(cls:Va)(H':Hp)(s':Ha):Prop where
 os:s'.os=s.os
 bare:AllBare s'.gens
 un:Un (Te outer) [] H H' s.heap s'.heap
 hok:Pe P w H' s'.heap
 new:H' ea=none
 dict:∃o,s'.heap.get? ea=some o/\Au H' ea k o
 fly:∃(Bh:Heap) (t:Ja),Heap.FlyingW Bh outer ea cls (.ref t) s'.heap/\(∀b u,H' b=some u->∀o,s'.heap.get? b=some o->Bh.get? b=some o)/\∀b o,s.heap.get? b=some o->b ∉ Te outer->∃o',Bh.get? b=some o'
def Rg(P:Qc)(w:Xb):Lo:=fun outer H s E e s'=>∃ea k cls H',e=.ref ea/\NF P w outer H s ea k cls H' s'/\E cls (some k) H'
section
variable {P:Qc}{w:Xb}{K:ZmM}{mg:Str->Option Va}{base:Heap}{N:List Str}{qual:Str}{scope:Scope}{f:Ja}{cd:Va}{A:Qe}{outer:List Env}{s:Ha}{H:Hp}{E:XK}{Za:List (Ja×Obj)}{σ:St}{H1 H':Hp}{s1 s':Ha}{g h'' Bh:Heap}{ea k t:Ja}{cls:Va}
theorem YU(I:Da (Ki (Rg P w) P w K mg base N qual scope f cd A outer s H E) Za σ H1 s1)(os:s'.os=s1.os)(bare:AllBare s'.gens)(un:Un (s.heap.objs.size::Te outer) [] H1 H' s1.heap g)(hok:Pe P w H' g)(up:g.UpToSlots h'')(fl:Heap.FlyingW Bh outer ea cls (.ref t) h'')(st:Bh.StaysIn g)(c1:∀b u,H' b=some u->∀o,g.get? b=some o->Bh.get? b=some o)(c2:∀b o,s.heap.get? b=some o->b ∉ s.heap.objs.size::Te outer->∃o',Bh.get? b=some o')(new:H' ea=none)(dn:∃o,g.get? ea=some o/\Au H' ea k o)(dk:DK g h''):NF P w outer H s ea k cls H' { s' with heap:=h'' }:=by
 have neL:∀b o,s.heap.get? b=some o->b≠s.heap.objs.size:=fun b o e=>Vf (Heap.lt_size e);have nin:∀b o,s.heap.get? b=some o->b ∉ Te outer->b ∉ s.heap.objs.size::Te outer:=fun b o e n z=>(Lc.mp z).elim (neL b o e) n;have b0:Un (Te outer) [] H H1 s.heap s1.heap:=I.base;have fr0:∀b∈Te outer,H b=none:=I.ok.frf;have slot:∀b o,s.heap.get? b=some o->H b=none->b∈Te outer->∃sl,h''.get? b=some { o with slots:=sl }:=fun b o q n hb=>by
  obtain⟨s2,e1⟩:=b0.slot b o q n hb (by simp);obtain⟨s3,e2⟩:=un.slot b _ e1 (b0.free b o q n (by simp)) (Fi _ hb) (by simp);obtain⟨_,o',ho',hnf⟩:=Heap.FunFrames.mem (show s.heap.FunFrames base outer from I.ok.funs) hb;rw[q] at ho';cases ho';obtain⟨s4,e3⟩:=up b _ e2 hnf;exact⟨s4,e3⟩
 have keepB:∀b o,s.heap.get? b=some o->H b=none->b ∉ Te outer->Bh.get? b=some o:=fun b o q n hb=>by
  have e1:=b0.keep b o q n hb (by simp);have e2:=un.keep b o e1 (b0.free b o q n (by simp)) (nin b o q hb) (by simp);obtain⟨o',e3⟩:=c2 b o q (nin b o q hb);have e4:=st b o' e3;rw[e2] at e4;cases e4;exact e3
 have thereB:∀b o,s.heap.get? b=some o->b ∉ Te outer->∃o',Bh.get? b=some o':=fun b o q hb=>by
  exact c2 b o q (nin b o q hb)
 refine⟨os.trans I.os,bare,⟨fun b o q n hb _=>fl.1 b o (keepB b o q n hb),fun b o q n hb _=>slot b o q n hb,fun b o q n _=>?_,fun b o q _=>?_,fun b xs q=>un.tups b xs (b0.tups b xs q),fun b o xs q=>un.frzs b o xs (b0.frzs b o xs q),fun b ps w' q=>?_⟩,fun b u e=>?_,new,(let ⟨o,e,d⟩:=dn;let ⟨o',e',d'⟩:=dk ea o e;⟨o',e',by unfold Au at d ⊢;rw[d'];exact d⟩),Bh,t,fl,fun b u e o q=>?_,thereB⟩
 ·obtain⟨o1,e1⟩:=b0.there b o q (by simp)
  exact un.free b o1 e1 (b0.free b o q n (by simp)) (by simp)
 ·by_cases hb:b∈Te outer
  ·obtain⟨sl,e⟩:=slot b o q (fr0 b hb) hb
   exact⟨_,e⟩
  ·obtain⟨o',e⟩:=thereB b o q hb
   exact⟨o',fl.1 b o' e⟩
 ·exact un.tbls b ps w' (b0.tbls b ps w' q)
 ·refine(hok b u e).stay (fun c v hc q=>?_) (fun _ q=>q) fun _ _ q=>q
  rcases hc with rfl|hc
  ·exact fl.1 c v (c1 c u e v q)
  ·exact fl.1 c v (c1 c _ hc v q)
 ·obtain⟨o1,e1⟩:=(hok b u e).there
  have e2:=c1 b u e o1 e1;have e3:=fl.1 b o1 e2;rw[e3] at q;cases q;exact e2
def HG(X:Cx)(E:St->XK):Prop:=∀(Za:List (Ja×Obj)) (σ:St) (H:Hp) (s:Ha) (e:Va) (s':Ha),Da X Za σ H s->Rg X.prog X.w X.stack H s (E σ) e s'->X.xe e s'
def TQ(X:Cx)(E:St->XK):Prop:=∀(Za:List (Ja×Obj)) (σ:St) (H:Hp) (s:Ha) (h':Heap) (ea:Ja) (cls:Va) (args:LI3),Da X Za σ H s->Heap.MadeExcOf s.heap h' ea cls args->E σ cls (some ea) H->X.xe (.ref ea) { s with heap:=h' }
theorem Yk:HG (Ki (Rg P w) P w K mg base N qual scope f cd A outer s H E) (fun _=>E):=fun Za σ H1 s1 e s' I hq=>by
 obtain⟨ea,k,cls,H',rfl,F,hE⟩:=hq;obtain⟨Bh,t,fl,c1,c2⟩:=F.fly;refine Cf (R3 (RW _ _) (wpAny_leaves_onW (Q:=fun _ s''=>∃h'',s''={ s' with heap:=h'' }/\Heap.FlyingW Bh outer ea cls (.ref t) h''/\s'.heap.UpToSlots h'') I.ok.frames rfl fl fun h'' fl'' up=>⟨h'',rfl,fl'',up⟩)) (fun _ s'' q=>?_) fun _ _ q=>q.1;obtain⟨⟨h'',rfl,fl'',up⟩,dk⟩:=q;exact⟨ea,k,cls,H',rfl,YU I F.os F.bare F.un F.hok up fl'' fl.1 c1 (fun b o e n=>let ⟨o1,e1⟩:=(show Un (Te outer) [] H H1 s.heap s1.heap from I.base).there b o e (by simp);c2 b o1 e1 n) F.new F.dict dk,hE⟩
theorem X3:TQ (Ki (Rg P w) P w K mg base N qual scope f cd A outer s H E) (fun _=>E):=fun Za σ H1 s1 h' ea cls args I hx hE=>by
 have hin:∀env∈(Ki (Rg P w) P w K mg base N qual scope f cd A outer s H E).stack,∀b,env.frame=some b->b∈Te (Ki (Rg P w) P w K mg base N qual scope f cd A outer s H E).stack:=fun env he b hb=>WO.mpr ⟨env,he,hb⟩;have Iz:∀b u,H1 b=some u->b ∉ Te (Ki (Rg P w) P w K mg base N qual scope f cd A outer s H E).stack:=fun b u e z=>by rw[I.stkFree b z] at e;cases e
 have new:H1 ea=none:=by
  cases q:H1 ea with
  |none=>rfl
  |some u=>obtain⟨o,e⟩:=(I.hok ea u q).there;rw[hx.new] at e;cases e
 refine Cf (R3 (RW _ _) (wpAny_leaves_madeW (Q:=fun _ s''=>∃h'' t,s''={ s1 with heap:=h'' }/\Heap.FlyingW (PySem.W.hideAll s1.heap (Te (Ki (Rg P w) P w K mg base N qual scope f cd A outer s H E).stack)) outer ea cls (.ref t) h''/\h'.UpToSlots h'')
  (base:=PySem.W.hideAll s1.heap (Te (Ki (Rg P w) P w K mg base N qual scope f cd A outer s H E).stack)) (h:=s1.heap) I.ok.frames rfl (fun b o q=>PySem.W.of_hideAll _ q) (PySem.W.funFrames_hide I.stack hin) hx fun h'' t fl _ _ up=>⟨h'',t,rfl,fl,up⟩)) (fun _ s'' q=>?_) fun _ _ q=>q.1
 obtain⟨⟨h'',t,rfl,fl,up⟩,dk⟩:=q;have dn:∃o,h'.get? ea=some o/\Au H1 ea ea o:=by obtain⟨t,e,_⟩:=hx.there;exact⟨_,e,.inl ⟨rfl,rfl⟩⟩
 refine⟨ea,ea,cls,H1,rfl,YU (g:=h') (t:=t) (s':={ s1 with heap:=h' }) I rfl I.bare (Un.kept hx.keeps) (I.hok.kept hx.keeps) up fl (fun b o q=>hx.keeps b o (PySem.W.of_hideAll _ q)) (fun b u e o q=>?_) (fun b o q n=>let ⟨o1,e1⟩:=(show Un (Te outer) [] H H1 s.heap s1.heap from I.base).there b o q (by simp);⟨o1,PySem.W.hideAll_get _ e1 n⟩) new dn dk,hE⟩;obtain⟨o1,e1⟩:=(I.hok b u e).there;have e2:=hx.keeps b o1 e1;rw[q] at e2;cases e2;exact PySem.W.hideAll_get _ e1 (Iz b u e)
end
noncomputable def QH:LI3:=[.type "ValueError",.type "Exception",.type "BaseException",.type "object"]
def Zbe(C:Ja)(E:St->XK)(ta:TA):TS:=fun D σ H=>ta σ H fun vs H1=>vs.length<=1000/\∀ea,H1 ea=none->E σ (.ref C) (some ea) H1
theorem ZfV{K: ZmM}{h₀: Heap}(X:K.In h₀)(q:PySem.W.excIn K C bmB newId=true):
  ∃tl N nm qn bs hdct sn sub ab col dd k0 k1 k2 k3 k5 mN,h₀.get? C=some (excClassObj nm qn C N bs tl hdct sn sub ab col dd k0 k1 k2 k3 k5 newId)/\h₀.Ns N mN/\mN "__init__"=none/\OwnTail h₀ bmB tl:=by
 unfold PySem.W.excIn at q
 split at q
 ·rename_i dd cd sl ho
  split at q
  ·rename_i C' bm k0 k1 k2 k3 n k5 hm hs
   simp only[Bool.and_eq_true,beq_iff_eq,Bool.not_eq_true'] at q;obtain⟨⟨⟨⟨⟨rfl,rfl⟩,hdel⟩,ht⟩,hok⟩,hni⟩:=q;obtain⟨nm,bs,mro,ns,qn,hd,sn,sub,ab,col,del⟩:=cd;dsimp only at hm hdel hok hni;subst hm hdel;have hsl:sl=#[k0,k1,k2,k3,some (.builtin n),k5]:=by
    obtain⟨l⟩:=sl;simp only at hs;rw[hs]
   subst hsl;exact⟨bm,ns,nm,qn,bs,hd,sn,sub,ab,col,dd,k0,k1,k2,k3,k5,_,X _ _ ho,.of_isNs (PySem.W.isNs_of_in X hok),PySem.W.nsMap_none_of_in X hok hni,PySem.W.tail_of_in X ht⟩
  ·cases q
 ·cases q
section
variable {X:Cx}{E:St->XK}{x:Str}{C:Ja}{np cpos pos:Pos}{e:Expr}{es:List Expr}{ta:TA}
theorem O4(hM:TQ X E)(hq:PySem.W.excIn X.K C QH "ValueError.__new__"=true)(hg:Gl X x)(hm:X.mg x=some (.ref C))(hc:X.calm=true)(ha:PA X (e::es) ta)(hdb:(x==("__debug__":Str))=false:=by decide)(he:Ed (e::es) X.env=(false,eval e X.env)::Ed es X.env:=by rfl)(hpl:(Ti cpos (Ed es X.env)).any (·.1)=false:=by rfl) :
  PS X (.Raise (some (.Call (.Name x np) (e::es) [] cpos)) none pos) (Zbe C E ta):=by
 intro Za s σ H D I h;obtain⟨tl,N,nm,q,bs,hdct,sn,sub,ab,col,dd,k0,k1,k2,k3,k5,mN,hC,hN,hni,T⟩:=ZfV I.ok.mod.kin hq;refine wpAny_Raise_call_subT (C:=C) (nm:=nm) (q:=q) (N:=N) (bs:=bs) (bm:=tl) (hdct:=hdct) (sn:=sn) (sub:=sub) (ab:=ab) (col:=col) (dd:=dd) (k0:=k0) (k1:=k1) (k2:=k2) (k3:=k3) (k5:=k5)
  PySem.F.excBase_ValueError (mN:=mN) (T.hasType PySem.F.excBase_ValueError.hasBase) (I.ok.hd hc) (by rw[he];show (false || (Ti cpos (Ed es X.env)).any (·.1))=false;rw[hpl];rfl) hni (Rx I hg hm ⟨rfl, ?_⟩ hdb)
 have h2:=ha cpos Za s σ H _ I h;rw[he] at h2 ⊢;refine Calls.evalArgs_plain (Cf h2 (fun us s₂ z=>?_) fun _ _ y=>y);obtain⟨vs,H1,I1,r,hl,hE⟩:=z;have hnew:∀{h':Heap}{ea:Ja}{args:LI3},Heap.MadeExcOf s₂.heap h' ea (.ref C) args->H1 ea=none:=fun {h' ea args} hx=>by
  cases q:H1 ea with
  |none=>rfl
  |some u=>obtain⟨o,e⟩:=(I1.hok ea u q).there;rw[hx.new] at e;cases e
 exact⟨rfl,Oe (by rw[<- r.length];exact hl) (by decide),I1.bk _ _ hC,hN.keeps I1.bk,T.keeps I1.bk,fun h' ea hx=>hM Za σ H1 s₂ h' ea _ _ I1 hx (hE ea (hnew hx))⟩
end
theorem Zge(F:NF P w outer H s ea k cls H' s')(fl:Heap.FlyingW Bh outer ea cls (.ref t) s'.heap)(c1:∀b u,H' b=some u->∀o,s'.heap.get? b=some o->Bh.get? b=some o)(c2:∀b o,s.heap.get? b=some o->b ∉ Te outer->∃o',Bh.get? b=some o')(st:Bh.StaysIn h'')(up:s'.heap.UpToSlots h''):
  Un (Te outer) [] H H' s.heap h''/\Pe P w H' h'':=by
 refine⟨⟨fun b o q n hb _=>?_,fun b o q n hb _=>?_,fun b o q n hx=>F.un.free b o q n hx,fun b o q _=>?_,F.un.tups,F.un.frzs,F.un.tbls⟩,fun b u e=>?_⟩
 ·have e2:=F.un.keep b o q n hb (by simp)
  obtain⟨o',e3⟩:=c2 b o q hb;have e4:=fl.1 b o' e3;rw[e2] at e4;cases e4;exact st b o e3
 ·obtain⟨s2,e2⟩:=F.un.slot b o q n hb (by simp)
  obtain⟨_,o',ho',hnf⟩:=Heap.FunFrames.mem fl.2.2.1 hb;rw[e2] at ho';cases ho';obtain⟨s3,e3⟩:=up b _ e2 hnf;exact⟨s3,e3⟩
 ·by_cases hb:b∈Te outer
  ·obtain⟨_,o',ho',hnf⟩:=Heap.FunFrames.mem fl.2.2.1 hb
   obtain⟨sl,e⟩:=up b _ ho' hnf;exact⟨_,e⟩
  ·obtain⟨o',e⟩:=c2 b o q hb
   exact⟨o',st b o' e⟩
 ·refine(F.hok b u e).stay (fun c v hc q=>?_) (fun _ q=>q) fun _ _ q=>q
  rcases hc with rfl|hc
  ·exact st c v (c1 c u e v q)
  ·exact st c v (c1 c _ hc v q)
section
variable {X:Cx}{Za:List (Ja×Obj)}{σ:St}{H:Hp}{s:Ha}
theorem Da.track(I:Da X Za σ H s)(e:s.heap.get? ea=some oe)(hn:H ea=none)(hL:ea≠X.env.locals)(hC:∀x c,X.env.cells.lookup x=some c->c≠ea)(hp:∀p∈X.pn++Za,p.1≠ea)(h0:X.s₀.heap.get? ea=none):
  Da X Za σ (upd H ea (.frz oe (.own ea))) s:=by
 refine⟨I.ok,I.os,I.bare,⟨I.base.keep,I.base.slot,fun b o q n hx=>?_,I.base.there,fun b xs q=>?_,fun b o u q=>?_,fun b ps w' q=>?_⟩,I.loc,I.cell, ?_,fun x c q=>?_,fun p hq=>?_,fun b u q=>?_,I.len⟩
 ·rw[Ab (fun z=>by rw[z,h0] at q;cases q)];exact I.base.free b o q n hx
 ·have:=I.base.tups b xs q
  rw[Ab (Gg this hn)];exact this
 ·have:=I.base.frzs b o u q
  rw[Ab (Gg this hn)];exact this
 ·have this:=I.base.tbls b ps w' q
  rw[Ab (Gg this hn)];exact this
 ·rw[Ab (Ne.symm hL)];exact I.free
 ·rw[Ab (hC x c q)];exact I.freeC x c q
 ·obtain⟨a,b,c,d,e⟩:=I.pin p hq
  exact⟨a,by rw[Ab (hp p hq)];exact b,c,d,e⟩
 ·by_cases hb:b=ea
  ·subst hb
   rw[Hd] at q;cases q;exact⟨e,oe,e⟩
  ·rw[Ab hb] at q
   exact(I.hok b u q).stay (fun c v _ z=>z) (fun c z=>by rw[Ab (Gg z hn)];exact z) fun c xs z=>by rw[Ab (Gg z hn)];exact z
theorem Da.gone(I:Da X Za σ H s)(hN:X.N.Nodup)(hi:X.N[i]?=some n)(hm:∀(j:Nat) (x:Str) (v:V),X.N[j]?=some x->σ[j]?=some (some v)->U2 X.env.scope x->∃u,Nb v u/\SQ X.env s.heap m x u)(hn:h'.Ns X.env.locals (fun x=>if x=n then v else m x))(hs:Heap.SameBut X.env.locals s.heap h')(hoL:∃o,s.heap.get? X.env.locals=some o): Da X Za (σ.set i none) H { s with heap:=h',toks:=t' }:=by
 have tracked:Pe X.prog X.w H h':=fun b ob e=>by
  refine(I.hok b ob e).stay (fun c w' hc q=>(hs.2 c ?_).trans q) (fun _ q=>q) fun _ _ q=>q;intro z;rw[z] at hc;rcases hc with hc|hc
  ·rw[<- hc,I.free] at e;cases e
  ·rw[I.free] at hc;cases hc
 have neL:∀b o,X.s₀.heap.get? b=some o->b≠X.env.locals:=fun b o e=>Vf (Ng (Heap.lt_size e) I.ok.above);refine⟨I.ok,I.os,I.bare,⟨fun b o e n hb hx=>?_,fun b o e n hb hx=>?_,I.base.free,fun b o e hx=>?_,I.base.tups,I.base.frzs,I.base.tbls⟩,⟨_,hn,fun j y v' e1 e2 e3=>?_⟩,fun y c e=>?_,I.free,I.freeC,fun p hp=>?_,tracked,by simpa using I.len⟩
 ·exact(hs.2 b (neL b o e)).trans (I.base.keep b o e n hb hx)
 ·obtain⟨sl,e1⟩:=I.base.slot b o e n hb hx
  exact⟨sl,(hs.2 b (neL b o e)).trans e1⟩
 ·obtain⟨o',e1⟩:=I.base.there b o e hx
  exact⟨o',(hs.2 b (neL b o e)).trans e1⟩
 ·by_cases hj:j=i
  ·subst hj
   rw[List.getElem?_set] at e2;simp only[if_true] at e2
   split at e2<;>cases e2
  ·rw[Il (Ne.symm hj)] at e2
   obtain⟨u',r',q⟩:=hm j y v' e1 e2 e3;refine⟨u',r', ?_⟩;rcases q with ⟨k,e⟩|⟨k,c,e,z⟩
   ·refine .inl ⟨k, ?_⟩
    have:y≠n:=fun e=>hj (OK hN e1 (e▸hi));simp[this,e]
   ·exact .inr ⟨k,c,e,z.sameBut hs (I.cne y c e)⟩
 ·obtain⟨w',z⟩:=I.cell y c e
  exact⟨w',z.sameBut hs (I.cne y c e)⟩
 ·obtain⟨e,n,ne,nf,d⟩:=I.pin p hp
  exact⟨(hs.2 p.1 ne).trans e,n,ne,nf,d⟩
end
noncomputable def SN(D:Xm)(i:Nat):Xm:=⟨fun σ H=>D.nx (σ.set i none) H,D.rt,fun σ H=>D.bk (σ.set i none) H,fun σ H=>D.ct (σ.set i none) H⟩
def N8(K:ZmM)(C:Ja)(i:Nat)(th:TS)(D:Xm):St->XK:=fun σ1 cls ea H1=>PySem.W.exmOne K cls (.ref C)=some true/\∃k,ea=some k/\∀(a:Ja) (oe:Obj),H1 a=none->oe.cls=cls->Au H1 a k oe->PySem.W.notCls oe=true->th (SN D i) (σ1.set i (some (.ref a))) (upd H1 a (.frz oe (.own a)))
def Zbj(K:ZmM)(C:Ja)(i:Nat)(tb:(St->XK)->TS)(th:TS):TS:=fun D σ H=>tb (N8 K C i th D) D σ H
abbrev Cx.inTry(X:Cx)(xe:Va->Ha->Prop)(pn:List (Ja×Obj)):Cx:={ X with xe:=xe,pn:=pn }
abbrev Cx.inExc(X:Cx)(A:Qe):Cx:={ X with A:=A,calm:=false,xe:=fun _ _=>False }
section
variable {X:Cx}{Za:List (Ja×Obj)}{σ:St}{H:Hp}{s:Ha}
theorem Da.tryIn(I:Da X Za σ H s): Da (X.inTry xe (X.pn++Za)) [] σ H s:=
 ⟨⟨I.ok.mod,I.ok.kind,I.ok.glob,I.ok.blt,I.ok.above,I.ok.inj,I.ok.has,I.ok.cab,I.ok.hd,I.ok.frames,I.ok.stk,I.ok.exf,I.ok.bs,I.ok.bsz,I.ok.noex,I.ok.exfs,I.ok.funs,I.ok.frf,I.ok.tab⟩,I.os,I.bare,I.base,I.loc,I.cell,I.free,I.freeC,fun p hp=>I.pin p (by simpa using hp),I.hok,I.len⟩
theorem Da.tryOut(I:Da (X.inTry xe (X.pn++Za)) pins' σ H s): Da X Za σ H s:=
 ⟨⟨I.ok.mod,I.ok.kind,I.ok.glob,I.ok.blt,I.ok.above,I.ok.inj,I.ok.has,I.ok.cab,I.ok.hd,I.ok.frames,I.ok.stk,I.ok.exf,I.ok.bs,I.ok.bsz,I.ok.noex,I.ok.exfs,I.ok.funs,I.ok.frf,I.ok.tab⟩,I.os,I.bare,I.base,I.loc,I.cell,I.free,I.freeC,fun p hp=>I.pin p (Bf _ hp),I.hok,I.len⟩
theorem Da.excIn(I:Da X Za σ H s): Da (X.inExc (X.A.mark (some e))) Za σ H s:=
 ⟨⟨I.ok.mod,I.ok.kind,I.ok.glob,I.ok.blt,I.ok.above,I.ok.inj,I.ok.has,I.ok.cab,fun z=>(by cases z),I.ok.frames,I.ok.stk,I.ok.exf,I.ok.bs,I.ok.bsz,I.ok.noex,I.ok.exfs,I.ok.funs,I.ok.frf,I.ok.tab⟩,I.os,I.bare,I.base,I.loc,I.cell,I.free,I.freeC,I.pin,I.hok,I.len⟩
theorem Da.excOut(h:X.Ok)(I:Da (X.inExc (X.A.mark (some e))) Za σ H s): Da X Za σ H s:=⟨h,I.os,I.bare,I.base,I.loc,I.cell,I.free,I.freeC,I.pin,I.hok,I.len⟩
end
section
variable {X:Cx}{C:Ja}{i:Nat}{tb:(St->XK)->TS}{th:TS}{c n:Str}{np hpos pos:Pos}{body suite:List Fb}{b₀:Fb}
theorem ZkQ(hb:∀(xe:Va->Ha->Prop) (pn:List (Ja×Obj)) (E:St->XK),HG (X.inTry xe pn) E->Yg (X.inTry xe pn) body (tb E))(hh:∀A,Yg (X.inExc A) (b₀::suite) th)(hN:X.N.Nodup)(hi:X.N[i]?=some n)(hl:X.env.scope.names.lookup n=some .local)(hg:Gl X c)(hm:X.mg c=some (.ref C))(hst:X.stack=X.env::X.outer)(hf:X.env.frame=some X.env.locals)(hex:X.ex=[])(hdb:(c==("__debug__":Str))=false:=by decide) :
  PS X (.Try body [.ExceptHandler (some (.Name c np)) (some n) (b₀::suite) hpos] [] [] pos) (Zbj X.K C i tb th):=by
 intro Za s σ H D I h;refine wpAny_Try_except ?_;refine Cf (hb (fun e s'=>∃σ1 H1 s1,Da X Za σ1 H1 s1/\Rg X.prog X.w X.stack H1 s1 (N8 X.K C i th D σ1) e s') (X.pn++Za) (N8 X.K C i th D) (fun pins' σ1 H1 s1 e s' I' hq=>⟨σ1,H1,s1,I'.tryOut,hq⟩) [] s σ H D I.tryIn h) (fun f s1 q=>?_) (fun e s1 q=>?_)
 ·cases f with
  |next=>obtain⟨σ',H',I',q⟩:=q;exact K6 ⟨σ',H',I'.tryOut,q⟩
  |brk=>obtain⟨σ',H',I',q⟩:=q;exact⟨σ',H',I'.tryOut,q⟩
  |cont=>obtain⟨σ',H',I',q⟩:=q;exact⟨σ',H',I'.tryOut,q⟩
  |ret u=>obtain⟨v,σ',H',I',r,q⟩:=q;exact⟨v,σ',H',I'.tryOut,r,q⟩
 ·obtain⟨σ1,H1,s0,I1,ea,kk,cls,H',rfl,F,hx,a,ha,hth⟩:=q
  cases ha;obtain⟨Bh,t,fl,c1,c2⟩:=F.fly;have hfr:X.A.frames=some (X.env::X.outer):=by rw[<- hst];exact I.ok.frames
  have fl0:=fl;rw[hst] at fl;have new0:s0.heap.get? ea=none:=by
   cases q:s0.heap.get? ea with
   |none=>rfl
   |some o =>
    exfalso;by_cases hb:ea∈Te X.stack
    ·obtain⟨_,o',ho',hnf⟩:=Heap.FunFrames.mem fl0.2.2.1 hb
     obtain⟨oe,vs,hoe,_,hd,_⟩:=fl0.first;rw[hoe] at ho';cases ho';exact hnf vs hd
    ·obtain⟨o',e⟩:=c2 ea o q hb
     rw[fl0.2.1] at e;cases e
  have neL:ea≠X.env.locals:=fun z=>by
   obtain⟨m,⟨o,_,_,ho,_⟩,_⟩:=I1.loc;rw[<- z,new0] at ho;cases ho
  have neC:∀x c,X.env.cells.lookup x=some c->c≠ea:=fun x c e z=>by
   obtain⟨v,o,ho,_⟩:=I1.cell x c e;rw[z,new0] at ho;cases ho
  have neP:∀p∈X.pn++Za,p.1≠ea:=fun p hp z=>by
   have:=(I1.pin p hp).1;rw[z,new0] at this;cases this
  have new1:X.s₀.heap.get? ea=none:=by
   cases q:X.s₀.heap.get? ea with
   |none=>rfl
   |some o=>obtain⟨o',e⟩:=I1.base.there ea o q (by rw[hex];simp);rw[new0] at e;cases e
  have land:∀{h'':Heap},Bh.StaysIn h''->s1.heap.UpToSlots h''->Da X Za σ1 H' { s1 with heap:=h'' }:=fun {h''} st up=>by
   obtain⟨u,hok⟩:=Zge F fl0 c1 c2 st up;exact I1.call' (s':={ s1 with heap:=h'' }) (ch:=[]) F.os u hok F.bare (fun b z=>Gb z (by simp))
  refine Cf (R3 (SW _ _) (wpAny_looks_onW (Q:=fun _ s''=>∃h4,s''={ s1 with heap:=h4 }/\Heap.HeldW Bh (X.env::X.outer) ea cls (.ref t) X.env.locals h4/\s1.heap.UpToSlots h4) hfr hf fl fun h4 held4 up4=>⟨h4,rfl,held4,up4⟩)) (fun _ s'' q=>?_) fun _ _ q=>q.1;obtain⟨⟨h4,rfl,held4,up4⟩,dk4⟩:=q;refine Cf (R3 (NJ _ _) (wpAny_landsW (Q:=fun _ s''=>∃h5,s''={ s1 with heap:=h5 }/\Heap.FlyingW Bh (X.env::X.outer) ea cls (.ref t) h5/\h4.UpToSlots h5) held4 fun h5 fl5 up5=>⟨h5,rfl,fl5,up5⟩)) (fun _ s'' q=>?_) fun _ _ q=>q.1;obtain⟨⟨h5,rfl,fl5,up5⟩,dk5⟩:=q;have up5':s1.heap.UpToSlots h5:=up4.trans up5;have I5:=land fl5.1 up5';refine wpAny_handleBy_cons (codeAny_handlers_test ?_) (by intro q;cases q);refine Rx (X:=X.inExc (X.A.mark (some (.ref ea)))) I5.excIn hg hm ?_ hdb;obtain⟨oe5,hoe5,hc5⟩:=fl5.there;have LT:PySem.W.Looks (La X.prog X.w) h5 (typeOf (.ref ea)) cls:=by
   subst hc5;exact(PySem.W.Looks.ld hoe5).andThen .now
  refine PySem.W.Looks.here (s:={ s1 with heap:=h5 }) (PySem.W.exm_one I5.kIn LT hx) ?_;refine codeAny_handlers_suite_as ?_;refine Cf (R3 (NJ _ _) (lands_againW (Q:=fun _ s''=>∃h6,s''={ s1 with heap:=h6 }/\Heap.FlyingW Bh (X.env::X.outer) ea cls (.ref t) h6/\h5.UpToSlots h6) fl5 fun h6 fl6 up6=>⟨h6,rfl,fl6,up6⟩)) (fun _ s'' q=>?_) fun _ _ q=>q.1;obtain⟨⟨h6,rfl,fl6,up6⟩,dk6⟩:=q;have I6:=land fl6.1 (up5'.trans up6);obtain⟨oe,ws,hoe,hc,hfd,_⟩:=fl6.first;have hdn:Au H' ea kk oe:=by
   obtain⟨o1,e1,d1⟩:=F.dict;obtain⟨o2,e2,d2⟩:=dk4 ea o1 e1;obtain⟨o3,e3,d3⟩:=dk5 ea o2 e2;obtain⟨o4,e4,d4⟩:=dk6 ea o3 e3;have e4':h6.get? ea=some o4:=e4;rw[hoe] at e4';cases e4';unfold Au at d1 ⊢;rw[d4,d3,d2];exact d1
  have hnc:PySem.W.notCls oe=true:=by unfold PySem.W.notCls;rw[hfd]
  have I7:=I6.track (ea:=ea) (oe:=oe) hoe F.new neL neC neP new1;refine C5 (X:=X) I7 hN hi (.inl hl) (v:=.ref ea) rfl (fun s8 I8=>?_) (.inr hl);refine Cf (hh (X.A.mark (some (.ref ea))) Za s8 _ _ (SN D i) I8.excIn (hth ea oe F.new hc hdn hnc)) (fun f s9 q=>?_) (fun _ _ z=>False.elim z);have hcls:(X.env.scope.kind==.class || (X.env.scope.kind==.module&&X.env.locals != X.env.globals))=false:=by rw[I.ok.kind];rfl
  have go:∀{σ9:St}{H9:Hp},Da (X.inExc (X.A.mark (some (.ref ea)))) Za σ9 H9 s9->∀{Q:Unit->Ha->Prop},(∀s',Da X Za (σ9.set i none) H9 s'->Q () s') ->
    Sa (La X.prog X.w) X.A (do bindName X.env n .none;unbindBehindTheSuite X.env n hpos) Q X.xe s9:=fun {σ9 H9} J {Q} hQ=>by
   have J':=Da.excOut I.ok J;obtain⟨m,hn,hlook⟩:=id J'.loc;obtain⟨o,_,_,ho,_⟩:=id hn;exact wpAny_nameGoes_keeps hl hn hcls fun h' v hn' hs'=>hQ _ (J'.gone hN hi hlook hn' hs' ⟨o,ho⟩)
  cases f with
  |next=>obtain⟨σ',H',I',q⟩:=q;exact go I' fun s' J=>⟨_,_,J,q⟩
  |brk=>obtain⟨σ',H',I',q⟩:=q;exact go I' fun s' J=>⟨_,_,J,q⟩
  |cont=>obtain⟨σ',H',I',q⟩:=q;exact go I' fun s' J=>⟨_,_,J,q⟩
  |ret u=>obtain⟨v,σ',H',I',r,q⟩:=q;exact go I' fun s' J=>⟨v,_,_,J,r,q⟩
end
end L2
namespace PySem.W
open PySem PySem.Spec PySem.Calls PyProof.Rows
section
variable {prog:Qc}{w:Xb}{A:Qe}{E:Va->Ha->Prop}{s:Ha}{K:Frag}{x D:Ja}{ox:Obj}{od:Option Obj}
theorem Zeu:Manifest.canonical "BaseException.__getattribute__" = "object.__getattribute__":=by decide +kernel
theorem method_exc(X:K.In s.heap)(I:InstAt s.heap x ox D od)(hga:findIn K (.ref D) "__getattribute__"=some (some (.builtin "BaseException.__getattribute__")))(hk:findIn K (.ref D) "__getattr__"=some none)(hown:∀o,od=some o->lookIn name o=some none)(hf:findIn K (.ref D) name=some (some (.ref f)))(ht:typeIn K (.ref f)=some (.type "function"))(h:Q (.ref f,[.ref x]) s): Sa (La prog w) A (getMethod (.ref x) name pl) Q E s:=by
 have hcan:=Zeu;unfold getMethod specialOf;refine Ka (Ka (I.type.here ((looks_findIn X hga).here ?_)));dsimp only;rw[hcan,Aa (by decide)];refine Ka (Ka (I.type.here ((looks_findIn X hk).here ?_)));refine Ka (Ka (I.type.here ((looks_findIn X hf).here (Ka ((looks_typeIn X ht).here ?_)))));rw[Aa (by decide +kernel)];refine Ka (wpAny_loadPart I.at_ ?_);have hd:=I.dict;cases e:ox.dict with
 |none=>exact Ka (Yp (Mb h))
 |some dx =>
  rw[e] at hd;cases od with
  |none=>exact hd.elim
  |some o =>
   dsimp only;refine Ka (Ka (wpAny_loadPart hd ?_));rw[nsLook_of (hown o rfl)];exact Mb (Ka (Yp (Mb h)))
theorem Zew(X:K.In s.heap)(I:InstAt s.heap x ox D od)(hb:mroIn K D (.type "BaseException")=some true)(hq:Q () s): Sa M A (checkBuiltinCall "BaseException.__getattribute__" ⟨[.ref x,nameV],[]⟩) Q E s:=by
 have hk:builtinKind "BaseException.__getattribute__"=some .slot:=by decide +kernel
 have hsplit:splitId "BaseException.__getattribute__"=some ("BaseException", "__getattribute__"):=by decide +kernel
 have ha:=F.args_bexc_ga (.ref x) nameV;have L:Looks M s.heap (isInstance (.ref x) (.type "BaseException")) true:=(I.type (M:=M)).andThen (looks_mroIn X hb);simp only[checkBuiltinCall,hk,hsplit];refine Ka ?_;refine L.here ?_;obtain⟨h,g,d,t,os⟩:=s
 repeat (first|wp_step)
 all_goals exact hq
theorem ZfU(X:K.In s.heap)(I:InstAt s.heap x ox D od)(hga:findIn K (.ref D) "__getattribute__"=some (some (.builtin "BaseException.__getattribute__")))(hk:findIn K (.ref D) "__getattr__"=some none)(hb:mroIn K D (.type "BaseException")=some true)(hf:findObj K D od "__class__"=some (.bind (.builtin "getset_descriptor.__get__") (.builtin "object.__class__")))(hm:mroIn K D (.type "object")=some true)(h:Q (some (.ref D)) { s with toks:=s.toks+1 }): Sa (La prog w) A (getAttr? (.ref x) "__class__") Q E s:=by
 obtain⟨hh,g,d,t,os⟩:=s;have L0:=I.type (M:=La prog w);have L1:=looks_findIn (M:=La prog w) X hga;have L2:=looks_findIn (M:=La prog w) X hk;have L3:=looks_find (M:=La prog w) X I hf;unfold getAttr? getAttrBy? getAttrBy;refine Ka (wpAny_mkText (Ka (J1 (Yl (Ka (L0.at (Ka (L1.at ?_))))))));dsimp only;have hne:(onTheHeap (Value.ref D)&&Value.builtin "BaseException.__getattribute__" == Value.builtin "object.__getattribute__")=false:=by
  have hx2:(Value.builtin "BaseException.__getattribute__" == Value.builtin "object.__getattribute__")=false:=by decide +kernel
  rw[hx2];rfl
 rw[Aa (by rw[hne];decide)];unfold getAttrByItsOwn hookBefore;rw[show onTheHeap (Value.ref D)=true from rfl,Ba rfl];refine Ka (L2.at ?_);refine Ka (J1 (Yl ?_));unfold callGetattribute;rw[Aa (by decide)];unfold boundAndCalled;refine Ka (wpAny_of_eq (PySem.F.attrBase_ValueError.ga.bind (.ref x)) ?_);refine wpAny_call (codeAny_call_builtin PySem.F.attrBase_ValueError.ga.plain F.entry_bexc_ga (Zew X I hb ?_));unfold Builtin.«object.__getattribute__»;refine Ka (Mb ?_);refine Ka (Mb ?_);refine Ka (L0.at (Ka (L3.at ?_)));show Sa _ _ (holding [Value.builtin "object.__class__"] (call (.builtin "getset_descriptor.__get__") [.builtin "object.__class__",.ref x,.ref D]) >>= fun v=>ret v) _ _ _;refine Ka (Yl (wpAny_call (class_get (s:=⟨hh,g,d,t+1,os⟩) (ox:=ox) (od:=od) X I hm ?_)));exact Mb (handed_on rfl (Mb h))
noncomputable def exOk(K:Frag)(D:Ja):Bool:=(findIn K (.ref D) "__getattribute__" == some (some (.builtin "BaseException.__getattribute__")))&&(findIn K (.ref D) "__getattr__" == some none)&&(mroIn K D (.type "BaseException")==some true)&&(mroIn K D (.type "object")==some true) &&
 (findIn K (.ref D) "__class__" == some (some (.builtin "object.__class__")))&&(specialIn K (.builtin "object.__class__") "__get__" == some (some (.builtin "getset_descriptor.__get__")))&&(takesIn K (.builtin "object.__class__")==some true)&&(clsIn K D).isSome
theorem ZfZ(hc:(clsIn K C).isSome=true)(ha:findIn K (.ref C) name=some (some a))(hg:specialIn K a "__get__"=some (some g))(ht:takesIn K a=some true): findObj K C od name=some (.bind g a):=by
 obtain⟨cd,hc⟩:=DP.mp hc;unfold findObj;rw[hc,AF,ha,AF];simp only[hg,ht,AF]
theorem kitx_exc(h:exOk K D=true):KitX K (.ref x) (.ref D) (fun h=>∃ox od,InstAt h x ox D od):=by
 simp only[exOk,Bool.and_eq_true,beq_iff_eq] at h;obtain⟨⟨⟨⟨⟨⟨⟨h1,h2⟩,h3⟩,h4⟩,h5⟩,h6⟩,h7⟩,h8⟩:=h;have hob:∃c' d' cd' sl',K.lookup D=some ⟨c',d',.cls cd',sl'⟩:=by
  obtain⟨cd,e⟩:=DP.mp h8;unfold clsIn at e
  split at e
  ·rename_i c' d' cd' sl' ho;exact⟨_,_,_,_,ho⟩
  ·cases e
 obtain⟨c',d',cd',sl',ho⟩:=hob;refine⟨fun M h _ ⟨ox,od,I⟩=>I.type,fun M h X _=>?_,fun h tp dd its n sl X htp=>?_,fun X ⟨ox,od,I⟩ k=>ZfU X I h1 h2 h3 (ZfZ h8 h5 h6 h7) h4 k⟩
 ·intro A' Q' E' s' k q
  unfold isType loadHead;exact Ka (wpAny_loadPart (k _ _ (X _ _ ho)) (Mb q))
 ·refine Bool.eq_false_iff.mpr fun q=>?_
  have e:D=tp:=Value.ref.inj (beq_iff_eq.mp q);subst e;have z:=(X _ _ ho).symm.trans htp;cases z
end
end PySem.W
namespace L2
open PySem PySem.Spec PyProof.Rows
def YQ(P:Qc)(w:Xb)(K:ZmM)(mg:Str->Option Va)(base:Heap)(k:Nat)(x:Str)(ps:List Str)(sp:Sp):Prop:=
 ∃f fd,Yb P w K mg base (Rg P w) k f fd ps sp/\mg x=some (.ref f)/\PySem.W.keepIn K (.ref f)=true/\Vq K fd ps []
theorem Fm{P:Qc}{w:Xb}{K:ZmM}{mg:Str->Option Va}{base:Heap}{k:Nat}{x:Str}{st:Fb}{ps:List Str}{sp:Sp}(d:Wc K mg x st)(b:Qd x st ps)(h:∀{f fd},Zc K x x st f fd->Yb P w K mg base (Rg P w) k f fd ps sp):YQ P w K mg base k x ps sp:=by
 obtain⟨f,fd,F,hm⟩:=d;exact⟨f,fd,h F,hm,F.kp,F.binds b⟩
section
variable {X:Cx}{k:Nat}{x:Str}{ps:List Str}{sp:Sp}{p pos:Pos}{e:Expr}{es:List Expr}{t:TA}{E:St->XK}
def E5(sp:Sp)(E:St->XK)(t:TA):TE:=fun σ H Q=>t σ H fun vs H1=>sp vs H1 Q (E σ)
theorem Gk(G:YQ X.prog X.w X.K X.mg X.base k x ps sp)(hr:He k X.A)(hg:Gl X x)(hx:HG X E)(ha:PA X (e::es) t)(hdb:(x==("__debug__":Str))=false:=by decide)(he:Ed (e::es) X.env=(false,eval e X.env)::Ed es X.env:=by rfl)(hpl:(Ti pos (Ed es X.env)).any (·.1)=false:=by rfl):PE X (.Call (.Name x p) (e::es) [] pos) (E5 sp E t):=by
 obtain⟨f,fd,F,hm,hk,hb⟩:=G;intro Za s σ H Q I h;refine Z1 (Rx I hg hm ?_ hdb);refine PySem.W.callWith_K (h₀:=X.base) I.ok.mod.kin hk (Db (ha pos Za s σ H _ I h) fun us s1 ⟨vs,H1,I1,r,q⟩=>⟨I1.kIn, ?_⟩) he hpl;have hl:(us++[]).length=ps.length:=by rw[Dt,<- r.length];exact F.len _ _ _ _ q
 have hb':=hb s1 us I1.kIn hl;rw[Dt] at hb';refine wpAny_call (codeAny_mono (F.run X.A X.stack s1 H1 ⟨us,[]⟩ us vs Q (E σ) hr I1.env0 hb' r q) fun r s' hq=>?_);cases r with
 |error e=>exact hx Za σ H1 s1 e s' I1 hq
 |ok fl =>
  cases fl with
  |ret u=>exact I1.after hq
  |next=>exact False.elim hq
  |brk=>exact False.elim hq
  |cont=>exact False.elim hq
end
def Zcv:PV->Hp->Ja->Prop
 |.non,H,k=>H k=none
 |.int i,H,k=>∃fs,H k=some (.xd fs)/\fs=[(("at":Str),V.int i)]
 |_,_,_=>False
def W1(K:ZmM):PX->XK->Hp->Prop:=fun e E H'=>∀C k,Ig K e.1 C->Zcv e.2 H' k->E (.ref C) (some k) H'
section
variable {P:Qc}{w:Xb}{K:ZmM}{mg:Str->Option Va}{base:Heap}
theorem Zc.okX{x qual:Str}{st:Fb}{f:Ja}{fd:Dl}{N ps:List Str}{k n l:Nat}{kd:Kd}{m:LI5->Rr PV}(F:Zc K x qual st f fd)(S:Gc N ps (Ob st))(hn:ps.length=n)(hl:N.length-n=l)(hbody:∀(Ib:Va) (A:Qe) (outer:List Env) (s:Ha) (H:Hp) (E:XK),He k (A.deeper (envOfC qual (Ob st) s.heap.objs.size f Ib)) ->
   ∃t g Y,Y.r=kd/\Yg (Ki (Rg P w) P w K mg base N qual (Ob st) f Ib A outer s H E) (Bm st) t/\DS K (fun e H'=>W1 K e E H') (List.replicate n .S++List.replicate l .U) Y t g/\∀xs,Nw (m xs) (g (xs++List.replicate l .non)).out)(hkN:kd≠.N:=by nofun)(hkM:kd≠.M:=by nofun) :
  Yb P w K mg base (Rg P w) (k+1) f fd ps (Wb K n kd (W1 K) m):=by
 obtain⟨oc,od,kV,doc,pm,an,Ib,ct,osl,rfl,lk,hcd⟩:=F.ex;refine XI lk hcd S (fun vs H Q E h=>?_) fun A outer s H vs Q E hr h=>?_
 ·obtain⟨B,xs,h1,h2,_⟩:=h
  rw[h1.length,h2,hn]
 ·obtain⟨B,xs,h1,h2,dn⟩:=h
  obtain⟨t,g,Y,hY,ht,hd,href⟩:=hbody Ib A outer s H E hr;refine⟨t,ht, ?_⟩;have A0:=Ag.init (n:=l) h1;have est:Pj N vs=vs.map some++List.replicate l none:=by
   unfold Pj;rw[h1.length,h2,hl]
  rw[est];rw[h2] at A0;refine hd _ H H _ _ _ _ A0 ?_;have hdn:Dn (g (xs++List.replicate l .non)).out (fun x=>∀v H',Ia H H'->Jm K B H kd x v H'->Q v H') (fun e=>∀H',Ia H H'->W1 K e E H'):=by
   rcases href xs with e|e
   ·rw[e] at dn;exact dn.elim
   ·rw[<- e];exact dn
  have retK:∀{x v H'},Jm K (fun a=>B a\/H a=none) H kd x v H'->Jm K B H kd x v H':=fun {x v H'} h=>by
   cases kd with
   |P=>exact h
   |F=>exact h
   |T=>exact Ya.mono (fun a us s r=>⟨r,s.elim id .inr⟩) (fun a us r=>r) h
   |Z=>exact Ya.mono (fun a us s r=>⟨r,s.elim id .inr⟩) (fun a us r=>r) h
   |A=>exact Ya.mono (fun a us s r=>⟨r,s.elim id .inr⟩) (fun a us r=>r) h
   |N=>exact h
   |M=>exact h
  cases e:g (xs++List.replicate l .non) with
  |next ρ =>
   rw[e] at hdn;refine fun σ' H' F' fr A'=>hdn .non H' A'.same ?_;cases kd with
   |P=>exact⟨rfl,rfl⟩
   |F=>exact⟨[],⟨rfl,rfl⟩,by simp⟩
   |T=>exact rfl
   |Z=>exact rfl
   |A=>exact rfl
   |N=>exact Gb rfl hkN
   |M=>exact Gb rfl hkM
  |ret x=>rw[e] at hdn;exact fun v H' s r=>hdn v H' s (retK (hY▸r))
  |exc q=>rw[e] at hdn;exact fun H' s=>hdn H' s
  |brk ρ=>rw[e] at hdn;exact hdn.elim
  |cont ρ=>rw[e] at hdn;exact hdn.elim
  |bad=>rw[e] at hdn;exact hdn.elim
end
section
variable {K:ZmM}{n:Nat}{m:LI5->Rr PV}{ta:TA}{Γ Γ':List Md}{fa:LI5->Rr LI5}{E:XK}
abbrev Wm(K:ZmM)(E:XK):PX->Hp->Prop:=fun e H'=>W1 K e E H'
theorem ZfO(hn:Ph fa n)(ha:Ge K (Wm K E) Γ Γ' ta fa):DE K (Wm K E) Γ Γ' .F (E5 (Wb K n .F (W1 K) m) (fun _=>E) ta) (fun ρ=>(fa ρ).bind m):=ZU (E:=E) (W:=W1 K) (fun σ H Q h=>h) (fun e H' h=>h) hn ha
theorem ZfP(hn:Ph fa n)(ha:Ge K (Wm K E) Γ Γ' ta fa):DE K (Wm K E) Γ Γ' .P (E5 (Wb K n .P (W1 K) m) (fun _=>E) ta) (fun ρ=>(fa ρ).bind m):=JU (E:=E) (W:=W1 K) (fun σ H Q h=>h) (fun e H' h=>h) hn ha
theorem G3(hn:Ph fa n)(hm:∀xs q,m xs≠.exc q)(ha:Ge K EX Γ Γ' ta fa): DE K EX Γ Γ' .F (Nm (Wb K n .F W0 m) ta) (fun ρ=>(fa ρ).bind m):=fun B H0 H σ ρ F R Q A d=>by
 refine ha B H0 H σ ρ F R _ A (d.bind.imp (fun xs hx d vs H1 F1 s1 f1 p1 A1=>?_) fun e q=>q);refine⟨fun _=>True,xs,p1,hn ρ xs hx, ?_⟩;cases e:m xs with
 |ok x =>
  rw[e] at d;intro v H2 s2 r;obtain⟨G,r1,r2⟩:=r;exact d v H2 (s1.trans s2) ⟨F1,f1,G,r1,fun a ha=>⟨(A1.fresh (r2 a ha)).1,.inl (s1.free (r2 a ha))⟩,A1.more s2 r2 r1.alive⟩
 |exc q=>exact(hm xs q e).elim
 |bad=>rw[e] at d;exact d.elim
theorem Pu(hn:Ph fa n)(hm:∀xs q,m xs≠.exc q)(ha:Ge K EX Γ Γ' ta fa): DE K EX Γ Γ' .P (Nm (Wb K n .P W0 m) ta) (fun ρ=>(fa ρ).bind m):=fun B H0 H σ ρ F R Q A d=>by
 refine ha B H0 H σ ρ F R _ A (d.bind.imp (fun xs hx d vs H1 F1 s1 f1 p1 A1=>?_) fun e q=>q);refine⟨fun _=>True,xs,p1,hn ρ xs hx, ?_⟩;cases e:m xs with
 |ok x=>rw[e] at d;exact fun v H2 s2 r=>d v H2 (s1.trans s2) ⟨F1,f1,r.1,r.2,A1.grow s2⟩
 |exc q=>exact(hm xs q e).elim
 |bad=>rw[e] at d;exact d.elim
def Pm.calm(m:Pm):Prop:=∀a q,m.out a≠.exc q
theorem Pm.calm_fn{m:Pm}(h:m.calm)(xs:LI5)(q:PX):m.fn xs≠.exc q:=by
 unfold Pm.fn;by_cases hx:∃a,m.enc a=xs/\m.pre a
 ·rw[Rm hx];exact h _ q
 ·rw[dif_neg hx];exact fun z=>by cases z
theorem D3(hC:Ig K x C)(hn:Ph fa n)(hl:n<=1000)(ha:Ge K (Wm K E) Γ Γ' ta fa): DS K (Wm K E) Γ Y (Zbe C (fun _=>E) ta) (fun ρ=>(fa ρ).thenS fun _=>.exc (x,.non)):=fun B H0 H σ ρ F D A d=>by
 refine ha B H0 H σ ρ F [] _ A (d.thenS.imp (fun xs hx d vs H1 F1 s1 f1 p1 A1=>?_) fun e q=>q);exact⟨by rw[p1.length,hn ρ xs hx];exact hl,fun ea hea=>d H1 A1.same C ea hC hea⟩
end
noncomputable def SH:V->Va
 |.ref a=>.ref a
 |.ty n=>.type n
 |_=>.none
noncomputable def HW:V->Bool
 |.ref _=>true
 |.ty _=>true
 |_=>false
theorem TH(h:HW c=true)(r:Nb c u): u=SH c:=by
 cases c<;>first|exact r|cases h
structure M1(K:ZmM)(c:V)(L:List (Str×Bool)):Prop where
 cls:HW c=true
 non:PySem.W.kitOne K (.type "NoneType") (SH c)=some false
 own:∀n b,L.lookup n=some b->∀D,Ig K n D->PySem.W.exOk K D=true/\PySem.W.kitOne K (.ref D) (SH c)=some b
def C1(K:ZmM)(H:Hp)(n:Str)(v:V):Prop:=MF K H n v\/∃i,LF K H n i v
theorem C1.inst(I:Da X Za σ H s)(h:C1 X.K H n v): ∃a o C od,v=.ref a/\Ig X.K n C/\PySem.W.InstAt s.heap a o C od/\∀u,od=some u->PySem.W.lookIn ("called":Str) u=some none:=by
 rcases h with ⟨a,o,C,rfl,h1,h2,h3,h4,h5⟩|⟨i,a,o,C,d,fs,rfl,h1,h1d,h2,h3,h4,h5,rfl⟩
 ·exact⟨a,o,C,none,rfl,h5,⟨(I.hok a _ h1.1).1,h2,h4,by rw[h3];trivial⟩,fun u z=>by cases z⟩
 ·obtain⟨m,n1,n2⟩:=I.hok d _ h1d.1
  obtain⟨ou,hu,hl⟩:=ZiA n1;refine⟨a,o,C,some ou,rfl,h5,⟨(I.hok a _ h1.1).1,h2,h4,by rw[h3];exact hu⟩,fun u z=>?_⟩;cases z;rw[hl];have z:=n2 ("called":Str);cases q:m ("called":Str) with
  |none=>rfl
  |some y=>rw[q] at z;exact z.elim
def OZ(K:ZmM)(c:V)(L:List (Str×Bool)):List V->Hp->VK->Prop:=fun xs H Q=>∃x,xs=[x,c]/\((x=.non/\Q (.bl false) H)\/∃n b,C1 K H n x/\L.lookup n=some b/\Q (.bl b) H)
theorem N7{X:Cx}{K:ZmM}{c:V}{L:List (Str×Bool)}(T:M1 K c L)(e:X.K=K:=by rfl):Xf X (.builtin "isinstance") (OZ K c L):=by
 subst e;intro Za s σ H xs us Q I r h;obtain⟨x,rfl,h⟩:=h;obtain⟨u,w',rfl,rx,rn⟩:=ZE r;obtain rfl:=TH T.cls rn;rcases h with ⟨rfl,q⟩|⟨n,b,hx,hb,q⟩
 ·cases rx
  exact PySem.W.kia_one PySem.W.kitx_none I.kIn True.intro T.non (fun z=>nomatch z) fun tk=>⟨.bl false,H,I.tok _,rfl,q⟩
 ·obtain⟨a,o,C,od,rfl,h5,hI,-⟩:=hx.inst I
  cases rx;obtain⟨t1,t2⟩:=T.own n b hb C h5;exact PySem.W.kia_one (PySem.W.kitx_exc t1) I.kIn ⟨o,od,hI⟩ t2 (fun z=>nomatch z) fun tk=>⟨.bl b,H,I.tok _,rfl,q⟩
noncomputable def Cj(L:List (Str×Bool))(x:PV):Rr PV:=match x with
 |.non=>.ok (.bl false)
 |.exc n=>(match L.lookup n with|some b=>.ok (.bl b)|none=>.bad)
 |.exa n _=>(match L.lookup n with|some b=>.ok (.bl b)|none=>.bad)
 |_=>.bad
section
variable {K:ZmM}{EX:PX->Hp->Prop}{Γ Γ':List Md}{te:TE}{f:LI5->Rr PV}
theorem V8(he:DE K EX Γ Γ' .A te f): DE K EX Γ Γ' .P (Ci (OZ K c L) (Di te (Di (tC c) Rj))) (fun ρ=>(f ρ).bind (Cj L)):=fun B H0 H σ ρ F R Q A d=>by
 refine he B H0 H σ ρ F R _ A (d.bind.imp (fun x _ d v H1 s1 r1=>?_) fun e q=>q);obtain⟨F1,f1,p1,A1⟩:=r1;cases x with
 |non=>exact⟨v,rfl,.inl ⟨p1,d _ H1 s1 ⟨F1,f1,rfl,rfl,A1⟩⟩⟩
 |exc n =>
  simp only[Cj] at d;cases hb:L.lookup n with
  |some b=>rw[hb] at d;exact⟨v,rfl,.inr ⟨n,b,.inl p1,hb,d _ H1 s1 ⟨F1,f1,rfl,rfl,A1⟩⟩⟩
  |none=>rw[hb] at d;exact d.elim
 |exa n i =>
  simp only[Cj] at d;cases hb:L.lookup n with
  |some b=>rw[hb] at d;exact⟨v,rfl,.inr ⟨n,b,.inr ⟨i,p1⟩,hb,d _ H1 s1 ⟨F1,f1,rfl,rfl,A1⟩⟩⟩
  |none=>rw[hb] at d;exact d.elim
 |_=>exact d.elim
end
def Lw(P:Qc)(w:Xb)(K:ZmM)(mg:Str->Option Va)(base:Heap)(k:Nat)(m n:Str):Prop:=
 ∃C f fd,Ig K n C/\PySem.W.exOk K C=true/\PySem.W.findIn K (.ref C) m=some (some (.ref f))/\PySem.W.typeIn K (.ref f)=some (.type "function")/\PySem.W.keepIn K (.ref f)=true/\Vq K fd ["self"] [] /\
  Yb P w K mg base Ic k f fd ["self"] (Wb K 1 .P W0 fun _=>.ok (.str n))
def ZaN(K:ZmM)(L:List Str)(ta:TE):TE:=fun σ H Q=>ta σ H fun v H1=>∃n,n∈L/\C1 K H1 n v/\∀H2,Ia H1 H2->Q (.str n) H2
theorem Zk4(hM:∀n∈L,Lw X.prog X.w X.K X.mg X.base k "called" n)(hr:He k X.A)(he:PE X o ta)(ht:eval (.Call (.Attribute o "called" apos) [] [] pos) X.env=(do
   let ov <- eval o X.env
   standAt apos.atName
   let (f,first) <- holding [ov] (getMethod ov "called" pl)
   callWith pos f first (Ti pos (Ed [] X.env)) (backToKw pos (keywordEach [] X.env))):=by rfl):
  PE X (.Call (.Attribute o "called" apos) [] [] pos) (ZaN X.K L ta):=by
 intro Za s σ H Q I h;refine PySem.W.methodCall_KW (pl:=pl) (Db (he Za s σ H _ I h) fun u s1 ⟨x,H1,I1,rx,n,hn,hx,q⟩=>?_) ht;obtain⟨a,oe,C,od,rfl,h5,hI,hl⟩:=hx.inst I1;obtain rfl:u=Value.ref a:=rx;obtain⟨C',f,fd,c1,c2,c3,c4,c5,c6,c7⟩:=hM n hn;have hCC:C'=C:=by have z:=c1.symm.trans h5;simpa using z
 subst hCC;simp only[PySem.W.exOk,Bool.and_eq_true,beq_iff_eq] at c2;obtain⟨⟨⟨⟨⟨⟨⟨d1,d2⟩,d3⟩,d4⟩,d5⟩,d6⟩,d7⟩,d8⟩:=c2;refine PySem.W.method_exc I1.kIn hI d1 d2 hl c3 c4 ?_;refine PySem.W.callWith_K0 (first:=[.ref a]) I1.kIn c5 (LM (us:=[.ref a]) (vs:=[.ref a]) (dvs:=[]) (E:=E0) c7 hr c6 .nil GL I1 (.cons rfl .nil) ?_);have fin:∀v H',Ia H1 H'->Jm X.K (fun _=>True) H1 .P (.str n) v H'->Q v H':=fun v H' sm r=>by
  obtain rfl:v=.str n:=r.2;exact q H' sm
 rcases hx with hx|⟨i,hx⟩
 ·exact⟨fun _=>True,[.exc n],⟨_,_,rfl,hx,rfl⟩,rfl,fin⟩
 ·exact⟨fun _=>True,[.exa n i],⟨_,_,rfl,hx,rfl⟩,rfl,fin⟩
noncomputable def Hs(L:List Str)(x:PV):Rr PV:=match x with
 |.exc n=>if n∈L then .ok (.str n) else .bad
 |.exa n _=>if n∈L then .ok (.str n) else .bad
 |_=>.bad
section
variable {K:ZmM}{EX:PX->Hp->Prop}{Γ Γ':List Md}{te:TE}{f:LI5->Rr PV}
theorem Zfl(he:DE K EX Γ Γ' .A te f): DE K EX Γ Γ' .P (ZaN K L te) (fun ρ=>(f ρ).bind (Hs L)):=fun B H0 H σ ρ F R Q A d=>by
 refine he B H0 H σ ρ F R _ A (d.bind.imp (fun x _ d v H1 s1 r1=>?_) fun e q=>q);obtain⟨F1,f1,p1,A1⟩:=r1;cases x with
 |exc n =>
  simp only[Hs] at d;by_cases hn:n∈L
  ·rw[Ba hn] at d;exact⟨n,hn,.inl p1,fun H2 s2=>d _ H2 (s1.trans s2) ⟨F1,f1,rfl,rfl,A1.grow s2⟩⟩
  ·rw[Aa hn] at d;exact d.elim
 |exa n i =>
  simp only[Hs] at d;by_cases hn:n∈L
  ·rw[Ba hn] at d;exact⟨n,hn,.inr ⟨i,p1⟩,fun H2 s2=>d _ H2 (s1.trans s2) ⟨F1,f1,rfl,rfl,A1.grow s2⟩⟩
  ·rw[Aa hn] at d;exact d.elim
 |_=>exact d.elim
end
def NK(Γ:List Md):Bool:=Γ.all fun m=>m==.U || m==.P || m==.S
theorem Zjm{K:ZmM}{B:Ja->Prop}{H0 H:Hp}{σ:St}{Γ:List Md}{ρ:LI5}{F:Nat->LI2}{R:LI2}(h:NK Γ=true)(A:Ag K B H0 H σ Γ ρ F R):∀i,F i=[]:=fun i=>by
 have sl:=A.slot i;by_cases hi:i<Γ.length
 ·have hm:=Hg.mp h Γ[i] (Mt hi)
  have e:Γ.getD i .U=Γ[i]:=by rw[Bb,Rc hi];rfl
  rw[e] at sl;simp only[Bool.or_eq_true,beq_iff_eq] at hm;rcases hm with (hm|hm)|hm
  ·rw[hm] at sl;exact sl
  ·rw[hm] at sl;exact sl.1
  ·rw[hm] at sl;exact sl.1
 ·have e:Γ.getD i .U=.U:=by rw[Bb,Ch (by lia)];rfl
  rw[e] at sl;exact sl
theorem Ag.near{K:ZmM}{B:Ja->Prop}{H0 H:Hp}{σ:St}{Γ:List Md}{ρ:LI5}{F:Nat->LI2}(A:Ag K B H0 H σ Γ ρ F [])(h:∀i,F i=[]):Ag K B H H σ Γ ρ F []:=
 ⟨Ia.refl _,fun a q=>A.own a (A.same.free q),fun i a ha=>by rw[h i] at ha;simp at ha,by simp,A.live,A.liveR,A.disj,A.disjR,A.lenS,A.lenR,A.slot⟩
theorem Ag.far{K:ZmM}{B:Ja->Prop}{H0 H1 H:Hp}{σ:St}{Γ:List Md}{ρ:LI5}{F:Nat->LI2}(A:Ag K B H1 H σ Γ ρ F [])(s:Ia H0 H1)(own:∀a,H0 a=none->B a):Ag K B H0 H σ Γ ρ F []:=
 ⟨s.trans A.same,own,fun i a ha=>s.free (A.young i a ha),by simp,A.live,A.liveR,A.disj,A.disjR,A.lenS,A.lenR,A.slot⟩
theorem Ia.newO(hp:H p=none): Ia H (L2.upd H p o):=fun b u h=>by rw[L2.Ab (Gg h hp)];exact h
theorem Ag.unset{K:ZmM}{B:Ja->Prop}{H0 H:Hp}{σ:St}{Γ Γ':List Md}{ρ:LI5}{F:Nat->LI2}(i:Nat)(A:Ag K B H0 H σ Γ ρ F [])(h:Ui (Γ.set i .U) Γ'=true) :
  ∃F',(∀i,∀a∈F' i,a∈F i)/\Ag K B H0 H (σ.set i none) Γ' ρ F' []:=by
 have h0:Ui Γ (Γ.set i .U)=true:=by
  have:∀(Γ:List Md) (i:Nat),Ui Γ (Γ.set i .U)=true:=fun Γ=>by
   induction Γ with
   |nil=>intro i;rfl
   |cons m ms ih =>
    intro i;have refl:∀l:List Md,Ui l l=true:=fun l=>by induction l with|nil=>rfl|cons a l ih=>simp[Ui,Vv,ih]
    cases i with
    |zero=>simp[Ui,Vv,refl]
    |succ i=>simp[Ui,Vv,ih i]
  exact this Γ i
 obtain⟨F1,f1,A1⟩:=A.weak h0;have hFi:F1 i=[]:=by
  have sl:=A1.slot i;by_cases hi:i<Γ.length
  ·have e:(Γ.set i .U).getD i .U=.U:=by rw[Bb,Fj hi];rfl
   rw[e] at sl;exact sl
  ·have e:(Γ.set i .U).getD i .U=.U:=by rw[Bb,Ch (by simp;lia)];rfl
   rw[e] at sl;exact sl
 have A2:Ag K B H0 H (σ.set i none) (Γ.set i .U) ρ F1 []:=⟨A1.same,A1.own,A1.young,A1.youngR,A1.live,A1.liveR,A1.disj,A1.disjR,by simpa using A1.lenS,A1.lenR,fun j=>by
  by_cases hj:j=i
  ·subst hj
   have e:(Γ.set j .U).getD j .U=.U:=by
    by_cases hi:j<Γ.length
    ·rw[Bb,Fj hi];rfl
    ·rw[Bb,Ch (by simp;lia)];rfl
   rw[e];exact hFi
  ·have sl:=A1.slot j
   rw[Il (Ne.symm hj)];exact sl⟩
 obtain⟨F3,f3,A3⟩:=A2.weak h;exact⟨F3,fun j a ha=>f1 j a (f3 j a ha),A3⟩
noncomputable def Ex(e:PX):PV:=match e.2 with
 |.int i=>.exa e.1 i
 |_=>.exc e.1
def TD(L:List Str)(i:Nat)(gb gh:LI5->RS)(ρ:LI5):RS:=match gb ρ with
 |.exc e=>if e.1∈L then gh (ρ.set i (Ex e)) else .bad
 |r=>r
section
variable {K:ZmM}{EX:PX->Hp->Prop}{Γ Γs:List Md}{Y Yh:V7}{tb:(St->XK)->TS}{th:TS}{gb gh:LI5->RS}{C:Ja}{i:Nat}{L:List Str}
theorem ZfK(hL:∀n∈L,∀D,Ig K n D->PySem.W.exmOne K (.ref D) (.ref C)=some true)(hb:∀E:XK,DS K (Wm K E) Γs Y (tb fun _=>E) gb)(hloc:∀(E:St->XK) D σ H,tb (fun _=>E σ) D σ H->tb E D σ H)(hh:DS K EX (Γs.set i .P) Yh th gh)(hs:Ui Γ Γs=true)(ho:NK Γs=true)(hi:i<Γs.length)(hn:Ui (Yh.n.set i .U) Y.n=true)(hbk:Ui (Yh.b.set i .U) Y.b=true)(hct:Ui (Yh.c.set i .U) Y.c=true)(hr:Yh.r=Y.r) :
  DS K EX Γ Y (Zbj K C i tb th) (TD L i gb gh):=fun B H0 H σ ρ F D A d=>by
 obtain⟨F1,f1,A1⟩:=A.weak hs;have hF:=Zjm ho A1;have AN:=A1.near hF;refine hloc _ D σ H (hb (N8 K C i th D σ) B H H σ ρ F1 D AN ?_);have frm0:∀{H' F'},Ec H F1 H' F'->Ec H F H' F':=fun {H' F'} fr=>(Ec.of (Ia.refl _) f1).trans fr;unfold TD at d;cases e:gb ρ with
 |next ρ1=>rw[e] at d;exact fun σ' H' F' fr A'=>d σ' H' F' (frm0 fr) (A'.far A.same A.own)
 |brk ρ1=>rw[e] at d;exact fun σ' H' F' fr A'=>d σ' H' F' (frm0 fr) (A'.far A.same A.own)
 |cont ρ1=>rw[e] at d;exact fun σ' H' F' fr A'=>d σ' H' F' (frm0 fr) (A'.far A.same A.own)
 |ret x =>
  rw[e] at d;refine fun v H' s r=>d v H' (A.same.trans s) ?_;cases hk:Y.r with
  |P=>rw[hk] at r;exact r
  |F=>rw[hk] at r;obtain⟨G,r1,r2⟩:=r;exact⟨G,r1,fun a ha=>A.same.free (r2 a ha)⟩
  |T=>rw[hk] at r;exact Ya.mono (fun a us s r=>⟨r,s.elim .inl fun z=>.inr (A.same.free z)⟩) (fun a us r=>r) r
  |Z=>rw[hk] at r;exact Ya.mono (fun a us s r=>⟨r,s.elim .inl fun z=>.inr (A.same.free z)⟩) (fun a us r=>r) r
  |A=>rw[hk] at r;exact Ya.mono (fun a us s r=>⟨r,s.elim .inl fun z=>.inr (A.same.free z)⟩) (fun a us r=>r) r
  |N=>rw[hk] at r;obtain⟨y,a,s,xs,G1,G2,r1,r2,r3,r4,r5,r6⟩:=r;exact⟨y,a,s,xs,G1,G2,r1,r2,r3,r4,fun b hb=>A.same.free (r5 b hb),fun b hb=>A.same.free (r6 b hb)⟩
  |M=>rw[hk] at r;obtain⟨y,a0,x0,a1,x1,a2,x2,r1,r2,r3,r4,r5,r6,r7,r8,r9⟩:=r;exact⟨y,a0,x0,a1,x1,a2,x2,r1,r2,r3,r4,r5,r6,A.same.free r7,A.same.free r8,A.same.free r9⟩
 |bad=>rw[e] at d;exact d
 |exc q =>
  rw[e] at d;dsimp only at d;by_cases hq:q.1∈L
  ·rw[Ba hq] at d
   intro H' sm C' k hC' hk;refine⟨hL q.1 hq C' hC',k,rfl,fun ea oe hea hc hdn hnc=>?_⟩;have s1:Ia H' (upd H' ea (.frz oe (.own ea))):=Ia.newO hea;have s2:Ia H (upd H' ea (.frz oe (.own ea))):=sm.trans s1;have A2:Ag K B H0 (upd H' ea (.frz oe (.own ea))) σ Γs ρ F1 []:=A1.grow s2;have key:∀S:Ja->Prop,PV.flat (Ex q)=true/\Ya K (upd H' ea (.frz oe (.own ea))) S (Ex q) (.ref ea):=fun S=>by
    obtain⟨qn,qv⟩:=q;cases qv with
    |non =>
     have hk:H' k=none:=hk;rcases hdn with ⟨z,_⟩|⟨_,fs,z⟩
     ·exact⟨rfl,ea,oe,C',rfl,⟨Hd,trivial⟩,hc,z,hnc,hC'⟩
     ·rw[hk] at z;cases z
    |int i =>
     obtain⟨fs,z1,z2⟩:=(show ∃fs,H' k=some (.xd fs)/\fs=[(("at":Str),V.int i)] from hk)
     rcases hdn with ⟨_,z⟩|⟨z,_⟩
     ·rw[z,hea] at z1;cases z1
     ·exact⟨rfl,ea,oe,C',k,fs,rfl,⟨Hd,trivial⟩,⟨s1 _ _ z1,trivial⟩,hc,z,hnc,hC',z2⟩
    |_=>exact hk.elim
   have A3:=Ag.put (i:=i) (m:=.P) (x:=Ex q) (v:=.ref ea) (G:=[]) (R:=[]) A2 hi (by simp) ⟨rfl,_,rfl,(key fun _=>True).1,(key _).2⟩;refine hh B H0 _ _ _ _ (SN D i) A3 ?_;have fr3:Ec H F (upd H' ea (.frz oe (.own ea))) (Se F1 i []):=frm0 (Fx (G:=[]) s2 (fun _ _ h=>h) (by simp));cases e2:gh (ρ.set i (Ex q)) with
   |next ρ1 =>
    rw[e2] at d;intro σ' H2 F2 fr A';obtain⟨F4,f4,A4⟩:=A'.unset i hn;exact d _ H2 F4 (fr3.trans (fr.trans (Ec.of (Ia.refl _) f4))) A4
   |brk ρ1 =>
    rw[e2] at d;intro σ' H2 F2 fr A';obtain⟨F4,f4,A4⟩:=A'.unset i hbk;exact d _ H2 F4 (fr3.trans (fr.trans (Ec.of (Ia.refl _) f4))) A4
   |cont ρ1 =>
    rw[e2] at d;intro σ' H2 F2 fr A';obtain⟨F4,f4,A4⟩:=A'.unset i hct;exact d _ H2 F4 (fr3.trans (fr.trans (Ec.of (Ia.refl _) f4))) A4
   |ret x=>rw[e2] at d;exact fun v H2 s r=>d v H2 s (hr▸r)
   |exc q2=>rw[e2] at d;exact d
   |bad=>rw[e2] at d;exact d
  ·rw[Aa hq] at d;exact d.elim
end
noncomputable def ZbH(K:ZmM)(n:Str):Bool:=match PySem.W.nsIn K Pg n with
 |some (some (.ref C))=>PySem.W.exOk K C&&(PySem.W.kitOne K (.type "NoneType") (.ref C)==some false)&&(PySem.W.kitOne K (.ref C) (.type "ValueError")==some true)
 |_=>false
noncomputable def ZbJ(K:ZmM)(q:Str×Str×Bool):Bool:=match PySem.W.nsIn K Pg q.1,PySem.W.nsIn K Pg q.2.1 with
 |some (some (.ref D)),some (some (.ref C))=>(PySem.W.kitOne K (.ref D) (.ref C)==some q.2.2)&&(PySem.W.exmOne K (.ref D) (.ref C)==some q.2.2)
 |_,_=>false
noncomputable def Pp(K:ZmM)(ns:List Str)(ss:List (Str×Str×Bool)):Bool:=(PySem.W.kitOne K (.type "NoneType") (.type "ValueError")==some false)&&(ns.all (ZbH K)&&ss.all (ZbJ K))
section
variable {K:ZmM}{ns:List Str}{ss:List (Str×Str×Bool)}{n c:Str}
theorem Ct(h:Pp K ns ss=true)(hn:n∈ns):∃C,Ig K n C/\True/\PySem.W.exOk K C=true/\PySem.W.kitOne K (.type "NoneType") (.ref C)=some false/\PySem.W.kitOne K (.ref C) (.type "ValueError")=some true:=by
 simp only[Pp,Bool.and_eq_true] at h;have:=Hg.mp h.2.1 n hn;unfold ZbH at this
 split at this
 ·rename_i C e
  simp only[Bool.and_eq_true,beq_iff_eq] at this;exact⟨C,e,trivial,this.1.1,this.1.2,this.2⟩
 ·cases this
noncomputable def ZbG(K:ZmM)(ns:List Str):Bool:=ns.all fun n=>match PySem.W.nsIn K Pg n with
 |some (some (.ref C))=>PySem.W.excIn K C QH "ValueError.__new__"
 |_=>false
theorem QE(h:ZbG K ns=true)(hn:n∈ns):∃C,Ig K n C/\PySem.W.excIn K C QH "ValueError.__new__"=true:=by
 have:=Hg.mp h n hn
 split at this
 ·rename_i C e
  exact⟨C,e,this⟩
 ·cases this
theorem Ig.inj(a:Ig K n C)(b:Ig K n D): C=D:=by have z:=a.symm.trans b;simpa using z
theorem BO(h:Pp K ns ss=true)(hm:(n,c,b)∈ss)(hD:Ig K n D)(hC:Ig K c C): PySem.W.kitOne K (.ref D) (.ref C)=some b/\PySem.W.exmOne K (.ref D) (.ref C)=some b:=by
 simp only[Pp,Bool.and_eq_true] at h;have:=Hg.mp h.2.2 _ hm;unfold ZbJ at this;have hD':PySem.W.nsIn K Pg n=some (some (.ref D)):=hD;have hC':PySem.W.nsIn K Pg c=some (some (.ref C)):=hC;simp only[hD',hC',Bool.and_eq_true,beq_iff_eq] at this;exact this
theorem EK{L: List (Str×Bool)}(h:L.lookup n=some b): (n,b)∈L:=PySem.mem_of_lookup h
theorem AO{L:List (Str×Bool)}(h:Pp K ns ss=true)(hc:c∈ns)(hL:(L.all fun p=>ns.contains p.1&&ss.contains (p.1,c,p.2))=true):∃C,Ig K c C/\M1 K (.ref C) L:=by
 obtain⟨C,e,_,_,e2,_⟩:=Ct h hc;refine⟨C,e,rfl,e2,fun n b hb D hD=>?_⟩;have:=Hg.mp hL _ (EK hb);simp only[Bool.and_eq_true,Et] at this;obtain⟨D',d1,_,d2,_⟩:=Ct h this.1;obtain rfl:=d1.inj hD;exact⟨d2,(BO h this.2 hD e).1⟩
theorem Zm5{L:List (Str×Bool)}(h:Pp K ns ss=true)(hL:(L.all fun p=>ns.contains p.1&&p.2)=true):M1 K (.ty "ValueError") L:=by
 have h0:=h;simp only[Pp,Bool.and_eq_true,beq_iff_eq] at h0;refine⟨rfl,h0.1,fun n b hb D hD=>?_⟩;have:=Hg.mp hL _ (EK hb);simp only[Bool.and_eq_true,Et] at this;obtain⟨D',d1,_,d2,_,d3⟩:=Ct h this.1;obtain rfl:=d1.inj hD;have hb':b=true:=this.2;rw[hb'];exact⟨d2,d3⟩
theorem Zm4{L: List Str}(h:Pp K ns ss=true)(hC:Ig K c C)(hL:(L.all fun n=>ss.contains (n,c,true))=true): ∀n∈L,∀D,Ig K n D->PySem.W.exmOne K (.ref D) (.ref C)=some true:=fun n hn D hD=>by
 have:=Hg.mp hL n hn;exact(BO h (Et.mp this) hD hC).2
end
def T1(K:ZmM)(n m qual:Str)(st:Fb):Prop:=∃C f fd,Ig K n C/\PySem.W.findIn K (.ref C) m=some (some (.ref f))/\PySem.W.typeIn K (.ref f)=some (.type "function")/\Zc K m qual st f fd
theorem Zd7:Fh "ValueError"=some (.type "ValueError"):=by decide +kernel
section
end
def P5(L:List Str)(i:Nat)(gh:LI5->RS)(ρ:LI5)(r:RS):RS:=match r with
 |.exc e=>if e.1∈L then gh (ρ.set i (Ex e)) else .bad
 |r=>r
@[simp] theorem ZlV: TD L i gb gh ρ=P5 L i gh ρ (gb ρ):=by
 unfold TD P5;cases gb ρ<;>rfl
@[simp] theorem ZlY: P5 L i gh ρ (.next ρ')=.next ρ':=rfl
@[simp] theorem ZlW: P5 L i gh ρ (.exc (n,.non))=if n∈L then gh (ρ.set i (.exc n)) else .bad:=rfl
theorem Gm(h:L.lookup n=some b): Cj L (.exc n)=.ok (.bl b):=by unfold Cj;simp only[h]
theorem SK(h:n∈L): Hs L (.exc n)=.ok (.str n):=by unfold Hs;simp only[Ba h]
@[simp] theorem ZjT: YK g (.exc n)=.ok (.bl (g false)):=rfl
section
end
theorem CY(h:PyData.canLay0 (.str x)=true): Ni (.str x)=true:=by simp[Ni,PV.noX,PV.dat,PyData.depth,h]
theorem Cv(ha:PyData.canLay0 (.str a)=true)(hb:PyData.canLay0 (.str b)=true): Mf g (.str a) (.str b)=.ok (.bl (g (a==b))):=by
 unfold Mf;rw[CY ha,CY hb];simp only[Bool.and_self,if_true,PV.dat,PyData.eqv]
theorem ZdB:Fh "range"=some (.type "range"):=by decide +kernel
section
end
theorem Zh5{ns ms:LI0}:ns.map PV.int=ms.map PV.int ↔ ns=ms:=⟨Sg,fun h=>by rw[h]⟩
noncomputable def Le(o:Option Str)(x:PV):Rr PV:=match o with
 |none=>.ok x
 |some n=>.exc (n,.non)
theorem Ml(hw:Rf b xs ρ=W)(I:Nat->LI5->Prop)(h0:I 0 ρ)(h:∀i x ρ,xs[i]?=some x->I i ρ->(b x ρ).good (I (i+1))):
  ∃ρ',W=.next ρ'/\I xs.length ρ':=by
 obtain⟨ρ',h1,h2⟩:=GV I h0 h;exact⟨ρ',hw.symm.trans h1,h2⟩
theorem JO(hw:Op c b ρ=W)(N:Nat)(I:Nat->LI5->Prop)(h0:I 0 ρ)(hs:∀i ρ,i<N->I i ρ->c ρ=.ok true/\(b ρ).good (I (i+1)))(he:∀ρ,I N ρ->c ρ=.ok false):
  ∃ρ',W=.next ρ'/\I N ρ':=by
 subst hw;have key:∀m i ρ,N=i+m->I i ρ->∃ρ',Mi c b (m+1) ρ=some (.next ρ')/\I N ρ':=by
  intro m
  induction m with
  |zero =>
   intro i ρ hl hI;obtain rfl:N=i:=by lia
   refine⟨ρ, ?_,hI⟩;unfold Mi;rw[he ρ hI]
  |succ m ih =>
   intro i ρ hl hI;obtain⟨h1,h2⟩:=hs i ρ (by lia) hI;obtain⟨ρ',h3,h4⟩:=RS.good_ex h2;obtain⟨ρ2,h5,h6⟩:=ih (i+1) ρ' (by lia) h4;refine⟨ρ2, ?_,h6⟩;unfold Mi;rw[h1];rcases h3 with h3|h3<;>(rw[h3];exact h5)
 obtain⟨ρ',h1,h2⟩:=key N 0 ρ (by lia) h0;exact⟨ρ',Zb1 h1,h2⟩
theorem BK{ns: LI0}(h:∀z∈ns,f (.int z)=.ok (.int (g z))): Fg f (ns.map PV.int)=.ok ((ns.map g).map PV.int):=by
 induction ns with
 |nil=>rfl
 |cons n ns ih =>
  simp only[Dd,Fg,h n (by simp),Rr.bind_ok,ih fun z hz=>h z (by simp[hz])]
theorem HX{ns: LI0}(h:∀z∈ns,f (.int z)=.ok (.bl (g z))): Fg f (ns.map PV.int)=.ok ((ns.map g).map PV.bl):=by
 induction ns with
 |nil=>rfl
 |cons n ns ih =>
  simp only[Dd,Fg,h n (by simp),Rr.bind_ok,ih fun z hz=>h z (by simp[hz])]
theorem ZiU{lo: Int}(h:∀i,i<n->f (.int (lo+(i:Nat)))=.ok (.int (g i))): Fg f (Kh lo n)=.ok (((List.range n).map g).map PV.int):=by
 unfold Kh;have:∀l:List Nat,(∀i∈l,i<n)->Fg f (l.map fun(k:Nat)=>PV.int (lo+(k:Int)))=.ok ((l.map g).map PV.int):=by
  intro l
  induction l with
  |nil=>intro _;rfl
  |cons a l ih =>
   intro hl;simp only[Dd,Fg,h a (hl a (by simp)),Rr.bind_ok,ih fun i hi=>hl i (by simp[hi])]
 exact this _ fun i hi=>Qg.mp hi
theorem ZjA(bs:List Bool):Q4 [.lst (bs.map PV.bl)]=.ok (.bl (bs.all id)):=by simp only[Q4,CS]
theorem BR{ns: LI0}[DecidablePred p]: (ns.map fun z=>decide (p z)).all id=decide (∀x∈ns,p x):=by
 rw[Bool.eq_iff_iff,Hg,decide_eq_true_iff];simp
theorem Ze4{ns:LI0}{h:Int}(h0:0<=h):Hu (ns.map PV.int) none (some h)=(ns.take h.toNat).map PV.int:=by
 unfold Hu HT.Lh;simp only[Lb,Tv,Nat.sub_zero];rw[Aa (by lia),<- List.map_take];congr 1;rw[List.take_eq_take_iff];lia
theorem Zkj{i j:Int}(h1:-(10^80)<=i)(h2:i<=10^80)(h3:-(10^80)<=j)(h4:j<=10^80):BL (.int i) (.int j)=.ok (.int (i*j)):=CL (Zey 80 80 (by lia) (by lia))
theorem Zkl{k:Int}{z:Int}(h1:-(2^63)<=k)(h2:k<=1000000):Ks [.int z] (.int k)=.ok (.lst ((List.replicate k.toNat z).map PV.int)):=by
 have:=TY (ns:=[z]) (k:=k) (by simp;lia) h1 (by lia);simp only[Dd,Zw] at this;rw[this,List.flatten_replicate_singleton]
theorem ZjL: Mf g (.lst [.bl a,.bl b,.bl c]) (.lst [.bl a',.bl b',.bl c'])=.ok (.bl (g (a==a'&&(b==b'&&c==c')))):=by
 unfold Mf;have h:∀a b c:Bool,Ni (.lst [.bl a,.bl b,.bl c])=true:=fun a b c=>by simp[Ni,PV.noX,PV.noXs,PV.dat,PV.dats,PyData.canLay0,PyData.canLayAll0,PyData.depth,PyData.depthAll]
 rw[h,h];cases a<;>cases b<;>cases c<;>cases a'<;>cases b'<;>cases c'<;>rfl
theorem Zj2: Le none x=.ok x:=rfl
theorem Zj3: Le (some n) x=.exc (n,.non):=rfl
theorem Zjl{z: Int}(h:ns.length<1000000): newF (ns.map PV.int++[.int z])=.ok (.lst ((ns++[z]).map PV.int)):=LK (ms:=[z]) (by simp only[Dh,Rz,Nh];lia)
theorem Zjj{z: Int}(h:ns.length<1000000): newF (.int z::ns.map PV.int)=.ok (.lst ((z::ns).map PV.int)):=LK (ns:=[z]) (by simp only[Dh,Rz,Nh];lia)
theorem ZlX(h:n∈L): P5 L i gh ρ (.exc (n,.non))=gh (ρ.set i (.exc n)):=by rw[ZlW,Ba h]
theorem ZkW: List.replicate (n+1) PV.non=PV.non::List.replicate n PV.non:=rfl
theorem ZkX:List.replicate 0 PV.non=[]:=rfl
section
end
theorem ZgN{a b:Int}:grd (.tup [.int a,.int b])=.ok (.tup [.int a,.int b]):=rfl
theorem ZjU: YK g .non=.ok (.bl (g true)):=rfl
theorem ZjO: Mf g (.lst (ns.map PV.int)) (.lst [])=.ok (.bl (g (decide (ns=[])))):=IY ns []
section
variable {X:Cx}{Za:List (Ja×Obj)}{σ:St}{H:Hp}{s:Ha}{h':Heap}
theorem Da.turned2(I:Da X Za σ H s)(k:∀b o,b≠e->b≠it->s.heap.get? b=some o->h'.get? b=some o)(f:∀b,b=e\/b=it->H b=none/\b≠X.env.locals/\(b∈X.ex\/X.s₀.heap.objs.size<=b)/\(∀x c,X.env.cells.lookup x=some c->c≠b)/\∀p∈X.pn++Za,p.1≠b): Da X Za σ H { s with heap:=h',toks:=t' }:=by
 have nit:∀b u,H b=some u->b≠e/\b≠it:=fun b u q=>by
  refine⟨fun z=>?_,fun z=>?_⟩
  ·rw[z,(f e (.inl rfl)).1] at q;cases q
  ·rw[z,(f it (.inr rfl)).1] at q;cases q
 refine I.step (g':=s.gens) (d':=s.drawn) (ch:=[e,it]) (fun b hb=>?_) (fun b o _ _ hc q _=>k b o (fun z=>hc (by simp[z])) (fun z=>hc (by simp[z])) q) (fun b o _ _ hc q _=>⟨o.slots,k b o (fun z=>hc (by simp[z])) (fun z=>hc (by simp[z])) q⟩) (fun _ _ _ _ n=>n)
  (fun b o hc q=>⟨o,k b o (fun z=>hc (by simp[z])) (fun z=>hc (by simp[z])) q⟩) (fun _ _ q=>q) (fun _ _ _ q=>q) (fun b ps w q=>q) (fun m hm=>?_) (fun b u q=>?_) I.bare
 ·obtain⟨g0,g1,g2,g3,g4⟩:=f b (by simpa using hb)
  exact⟨g2,g1,g3,g4⟩
 ·obtain⟨o,es,ep,ho,r⟩:=hm
  exact⟨o,es,ep,k _ o (Ne.symm (f e (.inl rfl)).2.1) (Ne.symm (f it (.inr rfl)).2.1) ho,r⟩
 ·refine(I.hok b u q).stay (fun c v hc q2=>?_) (fun _ q2=>q2) fun _ _ q2=>q2
  have:c≠e/\c≠it:=by
   rcases hc with z|z
   ·rw[z];exact nit b u q
   ·exact nit c _ z
  exact k c v this.1 this.2 q2
theorem Da.adoptT(I:Da X Za σ H s)(hn:H D=none)(h1:X.s₀.heap.objs.size<=D)(hL:D≠X.env.locals)(hc:∀x c,X.env.cells.lookup x=some c->c≠D)(hp:∀p∈X.pn++Za,p.1≠D)(ho:s.heap.get? D=some { cls:=.type "tuple",data:=.seq its.toArray })(r:Ub ys its)(hz:ys.length<=Rb): Da X Za σ (upd H D (.tup ys)) s:=by
 refine I.step (h':=s.heap) (g':=s.gens) (d':=s.drawn) (t':=s.toks) (ch:=[D]) (fun b hb=>?_) (fun b o _ _ _ e _=>e) (fun b o _ _ _ e _=>⟨o.slots,e⟩) (fun b o hb _ e=>?_) (fun b o _ e=>⟨o,e⟩)
  (fun b xs e=>?_) (fun b o u e=>?_) (fun b ps w e=>?_) (fun m hm=>hm) (fun b u e=>?_) I.bare
 ·have e:b=D:=by simpa using hb
  subst e;exact⟨.inr h1,hL,hc,hp⟩
 ·rw[Ab (by simpa using hb)];exact e
 ·rw[Ab (Gg e hn)];exact e
 ·rw[Ab (Gg e hn)];exact e
 ·rw[Ab (Gg e hn)];exact e
 ·by_cases hb:b=D
  ·subst hb
   rw[Hd] at e;cases e;exact⟨hz,its,r,_,ho,rfl,_,rfl⟩
  ·rw[Ab hb] at e
   exact(I.hok b u e).stay (fun c v _ q=>q) (fun c q=>by rw[Ab (Gg q hn)];exact q) fun c xs q=>by rw[Ab (Gg q hn)];exact q
end
noncomputable def XF(K:ZmM)(a:Ja):It:=
 ⟨fun i H=>∃xs x,Uc K H a xs/\xs[i]?=some x,fun i H v H'=>∃t x,v=.ref t/\H t=none/\H'=upd H t (.tup [.int i,x])/\∀xs,Uc K H a xs->xs[i]?=some x,fun i H=>∃xs,Uc K H a xs/\xs.length<=i⟩
theorem Zmc{P:Qc}{w:Xb}{K:ZmM}{elts:List Expr}{x1:Nat}{tpos:Pos}(a e it:Ja)(hne:e≠it):Eu P w K (.Tuple elts x1 tpos) (XF K a) [e,it] e (fun i h=>∃old,IsEnum h e it i old/\h.IsListIter it a i) where
 mem:=by simp
 obj:=fun i h ⟨old,s1,s2⟩ b hb=>by
  rcases Lc.mp hb with z|z
  ·subst z
   exact⟨_,s1,fun v z=>by
    have z':Data.fields _=Data.cell v:=z;cases z'⟩
  ·have z:b=it:=by simpa using z
   subst z;obtain⟨o,e,c,d⟩:=s2;exact⟨o,e,fun v z=>by rw[d] at z;cases z⟩
 keep:=fun i h h' ⟨old,s1,s2⟩ k=>⟨old,k e (by simp) _ s1,s2.at fun o q=>k it (by simp) o q⟩
 item:=by
  intro X hP hw hK hc i Za s σ H E I hf ⟨old,s1,s2⟩ hg;subst hP hw hK;obtain⟨xs,x,hq,hx⟩:=hg;obtain⟨its,rv,p,hz⟩:=I.list hq;obtain⟨u,hu,ru⟩:=rv.get hx;have fz:∀b,b=e\/b=it->H b=none/\b≠X.env.locals/\(b∈X.ex\/X.s₀.heap.objs.size<=b)/\(∀x c,X.env.cells.lookup x=some c->c≠b)/\∀p∈X.pn++Za,p.1≠b:=fun b hb=>by
   obtain⟨f0,f1,f2,f3,f4,f5⟩:=hf b (by simpa using hb);exact⟨f0,f1,f3,f4,f5⟩
  refine wpAny_pyNext_enum_item s1 s2 p.isList (x:=u) (by simpa using hu) hne fun h1 e1 i1 t1 z1 k1=>?_;refine⟨_,rfl, ?_⟩;refine wpAny_letOwnedTupleGo_enum e1 fun h2 e2 sb2=>?_;have I2:Da X Za σ H { s with heap:=h2,toks:=s.toks+1 }:=I.turned2 (fun b o n1 n2 q=>sb2.extBut b o n1 (k1 b o n1 n2 q)) fz;have hfr:=I.hok.fresh (Cb s.heap.objs.size);have het:s.heap.objs.size≠e:=Z0 (Heap.lt_size s1);have fsz:=I.fpOk (H':=H) (Cb s.heap.objs.size) hfr;obtain⟨g0,g1,g2,g3,g4,g5⟩:=fsz;have I3:=I2.adoptT (D:=s.heap.objs.size) (ys:=[.int i,x]) (its:=[.int i s.toks,u]) hfr I.sz g1 g4 g5 (sb2.extBut _ _ het t1) (.cons ⟨_,rfl⟩ (.cons ru .nil)) (show 2<=Rb by decide);refine⟨.ref s.heap.objs.size,_,I3,rfl,⟨_,x,rfl,hfr,rfl,fun ys hy=>by rw[I.list_inj hy hq];exact hx⟩,⟨u,by
   have:((i+1:Nat):Int)=(i:Int)+1:=by lia
   rw[this];exact e2,i1.extBut sb2.extBut (Ne.symm hne)⟩,fun b hb=>?_⟩
  have hbn:b≠s.heap.objs.size:=by
   rcases Lc.mp hb with z|z
   ·rw[z];exact het.symm
   ·have z:b=it:=by simpa using z
    obtain⟨o,q,_⟩:=s2;rw[z];exact Vf (Heap.lt_size q)
  rw[Ab hbn];exact(hf b hb).1
 done:=by
  intro X hP hw hK hc i Za s σ H E I hf ⟨old,s1,s2⟩ hg;subst hP hw hK;obtain⟨xs,hq,hx⟩:=hg;obtain⟨its,rv,p,hz⟩:=I.list hq;obtain⟨f0,f1,f2,f3,f4,f5⟩:=hf it (by simp);have hl:=rv.length;exact wpAny_pyNext_enum_end (I.ok.hd hc) s1 s2 p.isList (by simp;lia) fun h' eb=>⟨rfl,I.turned (t':=s.toks) (fun b o hb q=>eb b o hb q) f0 f1 f3 f4 f5⟩
 self:=fun _ _ _ _ _ ⟨old,st,_⟩ h=>wpAny_pyIter_enum st h
section
variable {X:Cx}{elts:List Expr}{x1:Nat}{tpos:Pos}
def GJ(K:ZmM)(tl:TA):TI:=fun σ H R=>tl σ H fun vs H1=>∃a,vs=[.ref a]/\(∃xs,Uc K H1 a xs)/\R (XF K a) H1
theorem Zd9:Fh "enumerate"=some (.type "enumerate"):=by decide +kernel
theorem ZkG{l:Expr}{tl:TA}{p pos:Pos}(hg:Gl X "enumerate")(hm:X.mg "enumerate"=none)(ha:PA X [l] tl)(hs:Ed [l] X.env=[(false,eval l X.env)]:=by rfl):PI X (.Tuple elts x1 tpos) (.Call (.Name "enumerate" p) [l] [] pos) (GJ X.K tl):=by
 intro Za s σ H R I h;refine Call_ (Yu I hg hm Zd9 (PyProof.Rows.callWith_type1 (Db (ha pos Za s σ H _ I h) fun us s1 ⟨vs,H1,I1,r1,q1⟩=>?_) hs rfl));obtain⟨a,e,⟨xs,hq⟩,q⟩:=q1;subst e;cases r1 with
 |cons r rr =>
  cases rr;cases r;obtain⟨its,rv,pl,hz⟩:=I1.list hq;refine call_enumerate_list pl.isList fun h' e1 i1 z1 k1=>?_;refine wpAny_pyIter_enum e1 ?_;have I2:Da X Za σ H1 { s1 with heap:=h' }:=I1.kept (t':=s1.toks) k1;refine⟨s1.heap.objs.size+1,[s1.heap.objs.size+1,s1.heap.objs.size],_,_,H1,rfl,I2,Zmc a _ _ (Nat.succ_ne_self _),⟨_,e1,i1⟩,fun b hb=>?_,q⟩;have hb':s1.heap.objs.size<=b:=by
   rcases Lc.mp hb with z|z
   ·rw[z];exact Wt _
   ·have z:b=s1.heap.objs.size:=by simpa using z
    rw[z];exact Cb _
  exact I1.fpOk hb' (I1.hok.fresh hb')
theorem ZkH{K:ZmM}{l:Expr}{tl:TA}{p pos:Pos}(hg:Gl X "enumerate")(hm:X.mg "enumerate"=none)(ha:PA X [l] tl)(hs:Ed [l] X.env=[(false,eval l X.env)]:=by rfl)(e:X.K=K:=by rfl):PI X (.Tuple elts x1 tpos) (.Call (.Name "enumerate" p) [l] [] pos) (GJ K tl):=by subst e;exact ZkG hg hm ha hs
end
def Jp(xs:LI5):LI5:=xs.mapIdx fun i x=>.tup [.int (i:Nat),x]
section
variable {K:ZmM}{H:Hp}{EX:PX->Hp->Prop}{Γ Γ':List Md}
theorem ZhD(h:Ya K H S (.lst xs) (.ref a)): Mo K S (XF K a) (Jp xs) H:=by
 obtain⟨a',vs,e,hn,hr⟩:=h;cases e;intro i;constructor
 ·intro x hx
  unfold Jp at hx;rw[OO] at hx;cases hxi:xs[i]? with
  |none=>rw[hxi] at hx;cases hx
  |some y =>
   rw[hxi] at hx;cases hx;obtain⟨u,e1,e2⟩:=hr.get hxi;refine⟨⟨vs,u,Vg hn,e1⟩,fun v H' ⟨t,z,e3,e4,e5,e6⟩=>?_⟩;have:=e6 vs (Vg hn);rw[e1] at this;cases this;subst e3 e5;have sm:Ia H (upd H t (.tup [.int i,u])):=Ia.upd (Ia.refl H) e4;exact⟨sm,t,_,rfl,⟨Hd,trivial⟩,⟨_,_,rfl,rfl,_,_,rfl,e2.same sm,rfl⟩⟩
 ·intro hx
  unfold Jp at hx;rw[OO] at hx;have:xs[i]?=none:=by cases hxi:xs[i]? with
   |none=>rfl
   |some y=>rw[hxi] at hx;cases hx
  exact⟨vs,Vg hn,by rw[hr.length];exact Kt.mp this⟩
def WK(xs:LI5):Rr LI5:=match xs with
 |[.lst ys]=>.ok (Jp ys)
 |_=>.bad
theorem Zf6(ha:Mr K EX Γ Γ' ta fa): DI K EX Γ Γ' (GJ K ta) (fun ρ=>(fa ρ).bind WK):=fun B H0 H σ ρ F R Q A d=>by
 refine ha B H0 H σ ρ F R _ A (d.bind.imp (fun xs _ d vs H1 F1 s1 f1 p1 A1=>?_) fun e q=>q);unfold WK at d
 split at d
 ·rename_i ys
  obtain⟨v,rfl,h1⟩:=Ik p1;obtain⟨a,us,rfl,hn,hr⟩:=id h1;exact⟨a,rfl,⟨us,Vg hn⟩,d _ H1 F1 s1 f1 A1 fun H2 F2 h=>ZhD (h1.frm h A1)⟩
 ·exact d.elim
theorem ZjH: WK [.lst ys]=.ok (Jp ys):=rfl
theorem ZfS(xs:LI5):(Jp xs).length=xs.length:=by simp[Jp]
variable {prog:Qc}{w:Xb}{A:Qe}{R:Result->Ha->Prop}{s:Ha}
theorem Zez(I:Nat->Ha->Prop)(turn:∀n s,I n s->Sa (La prog w) A (pyNext it) (fun r s₁=>match r with
   |none=>R (.ok .next) s₁
   |some v=>Sa (La prog w) A (DF target it v) (fun _ s₁'=>Sa (La prog w) A (assign target env v) (fun _ s₂ =>
     Sa (La prog w) A (forIn ifs true fun c r=>if r=true then do let ok <- isTrue c env (eval c env);pure (ForInStep.yield ok) else pure (ForInStep.yield r)) (fun ok s₃ =>
      if ok=true then Sa (La prog w) A (eval elt env) (fun x s₄ =>
       Sa (La prog w) A (call (.builtin "list.append") [acc,x]) (fun _ s₅=>∃m,m<n/\I m s₅) (notedBy (La prog w) A env fun e s'=>R (.error e) s') s₄) (notedBy (La prog w) A env fun e s'=>R (.error e) s') s₃
      else ∃m,m<n/\I m s₃) (notedBy (La prog w) A env fun e s'=>R (.error e) s') s₂) (notedBy (La prog w) A env fun e s'=>R (.error e) s') s₁') (notedBy (La prog w) A env fun e s'=>R (.error e) s') s₁) (notedBy (La prog w) A env fun e s'=>R (.error e) s') s)(n:Nat)(h:I n s):
  codeAny (La prog w) A (.compLoop (.ListComp elt [⟨target,iter,ifs,0⟩] scope pos) 0 it acc env) R s:=by
 refine codeAny_loop rfl I (fun n s hI=>?_) n h;show Sa _ A ((compTurn (.ListComp elt [⟨target,iter,ifs,0⟩] scope pos) 0 it acc env).onRaise (fun x=>do noteFrame x env;theTreesLotGoes x)) _ _ s;refine wpAny_noted ?_;rw[compTurn_list];refine Ka (wpAny_standAt (Ka (Cf (turn n s hI) (fun r s₁ h₁=>?_) fun _ _ h'=>h')));cases r with
 |none=>exact Mb h₁
 |some v =>
  refine Ka (Cf h₁ (fun _ s₁' h₁'=>?_) fun _ _ h'=>h');refine Ka (Cf h₁' (fun _ s₂ h₂=>Ka (Cf h₂ (fun ok s₃ h₃=>?_) fun _ _ h'=>h')) fun _ _ h'=>h');cases ok with
  |false=>exact Mb ⟨rfl,h₃⟩
  |true =>
   exact Ka (Ka (Cf h₃ (fun x s₄ h₄=>Ka (Cf h₄ (fun _ s₅ h₅=>Mb (Mb ⟨rfl,h₅⟩)) fun _ _ h'=>h')) fun _ _ h'=>h'))
end
noncomputable def Kq(xs:List Str)(y:Str):Str:=if xs.contains y then "" else y
noncomputable def Zf(X:Cx)(scope:Scope)(xs:List Str)(C:Ja)(ex:LI2)(s₂:Ha)(H₂:Hp):Cx:=
 { X with N:=X.N.map (Kq xs)++xs,s₀:=s₂,H₀:=H₂,env:=compEnvC scope (Jh scope X.env) C X.env,outer:=X.stack,ex:=ex,fn:=fun _=>false,pn:=[],xe:=fun _ _=>False }
abbrev TB:=V->Hp->List V->Prop
def Gz:TB:=fun x _ vs=>vs=[x]
def GD(K:ZmM):TB:=fun x H vs=>∃t a b,x=.ref t/\Re K H t [a,b]/\vs=[a,b]
def PB(X:Cx)(scope:Scope)(xs:List Str)(tg:Expr)(Bd:TB):Prop:=∀C s₂ H₂ ex,∀(Za:List (Ja×Obj)) (s:Ha) (σ σx:St) (H:Hp) (x:V) (u:Va) (vs:List V) (E:Va->Ha->Prop),σ.length=X.N.length->σx.length=xs.length ->
 Da (Zf X scope xs C ex s₂ H₂) Za (σ++σx) H s->Nb x u->Bd x H vs->Sa (La X.prog X.w) X.A (assign tg (Zf X scope xs C ex s₂ H₂).env u) (fun _ s'=>Da (Zf X scope xs C ex s₂ H₂) Za (σ++vs.map some) H s') E s
def Z2(X:Cx)(ifs:List Expr)(t:TT):Prop:=∀(Za:List (Ja×Obj)) (s:Ha) (σ:St) (H:Hp) (Q:Bool->Hp->Prop) (E:Va->Ha->Prop),Da X Za σ H s->t σ H Q ->
 Sa (La X.prog X.w) X.A (forIn ifs true fun c r=>if r=true then do let ok <- isTrue c X.env (eval c X.env);pure (ForInStep.yield ok) else pure (ForInStep.yield r)) (TP X Za σ Q) E s
def N5:TT:=fun _ H Q=>Q true H
theorem WA: Z2 X [] N5:=fun Za s σ H Q E I h=>wpAny_tests_nil ⟨_,I,h⟩
def ZaO(σ:St)(Bd:TB)(tt:TT)(te:TE)(J:It)(H1:Hp)(Q:VK):Prop:=∃W:Nat->Nat->List V->Hp->Prop,(∃m,W 0 m [] H1)/\∀i m ys H2,W i m ys H2->ys.length<=Rb /\
 ((J.stop i H2/\∀p,H2 p=none->Q (.ref p) (upd H2 p (.lst ys))) \/
  (J.go i H2/\∃N:List V->Hp->Prop,(∀ys' H',N ys' H'->∃m',m'<m/\W (i+1) m' ys' H')/\∀x H3,J.yld i H2 x H3->∃vs,Bd x H3 vs/\tt (σ++vs.map some) H3 fun b H4=>if b=true then te (σ++vs.map some) H4 fun y H5=>N (ys++[y]) H5 else N ys H4))
def Hz(wi:TI)(Bd:TB)(tt:TT)(te:TE):TE:=fun σ H Q=>wi σ H fun J H1=>ZaO σ Bd tt te J H1 Q
noncomputable def Hq(N:List Str)(sc scope:Scope)(xs:List Str):Bool:=xs.all (fun x=>PH [] sc scope x)&&decide (N.map (Kq xs)++xs).Nodup&&!xs.isEmpty&&(N.all fun y=>xs.contains y || !(scope.names.lookup y==some .local))&&(scope.names.lookup (Str.ofString "")==none)
structure NP(N:List Str)(sc scope:Scope)(xs:List Str):Prop where
 scs:∀x∈xs,Ew [] sc scope x
 nd:(N.map (Kq xs)++xs).Nodup
 ex:∃x,x∈xs
 noN:∀y∈N,y ∉ xs->scope.names.lookup y≠some .local
 noE:scope.names.lookup (Str.ofString "")=none
theorem T7(h:Hq N sc scope xs=true): NP N sc scope xs:=by
 unfold Hq at h;simp only[Bool.and_eq_true,Hg,decide_eq_true_eq,Bool.not_eq_true',Bool.or_eq_true,beq_iff_eq,beq_eq_false_iff_ne] at h;obtain⟨⟨⟨⟨h1,h2⟩,h3⟩,h4⟩,h5⟩:=h;refine⟨fun x hx=>Ew.of (h1 x hx),h2, ?_,fun y hy hn=>?_,h5⟩
 ·cases xs with
  |nil=>simp at h3
  |cons a l=>exact⟨a,by simp⟩
 ·rcases h4 y hy with z|z
  ·exact Gb (Et.mp z) hn
  ·exact z
section
variable {X:Cx}{Za:List (Ja×Obj)}{σ:St}{s₂:Ha}{H₂:Hp}{scope:Scope}{x:Str}{xs:List Str}{tg elt iter:Expr}{ifs:List Expr}{pos:Pos}{Bd:TB}{tt:TT}{te:TE}{J:It}{fp:LI2}{it:Ja}{tn:Nat->Heap->Prop}
theorem Gu(sc:Ew N0 X.env.scope scope x)(ok:X.Ok)(h:(Jh scope X.env).lookup y=some c): X.env.cells.lookup y=some c:=by
 have hm:=PySem.mem_of_lookup h;unfold Jh at hm;obtain⟨p,hp,e⟩:=Ze.mp hm;have hp':=Wl.mp (YO.mp hp);obtain⟨e1,e2⟩:=Prod.mk.inj e;have hk:=sc.fr p hp'.1 (beq_iff_eq.mp hp'.2);obtain⟨c',hc'⟩:=ok.has p.1 hk;rw[hc'] at e2;rw[<- e1,hc'];exact Wf some e2
theorem Zd2(I:Da X Za σ H₂ s₂)(sc:Ew N0 X.env.scope scope x)(hC:s₂.heap.objs.size<=C)(ff:∀b∈fp,Zn X Za H₂ b)(fo:∀b∈fp,∃o,s₂.heap.get? b=some o): (Zf X scope xs C fp s₂ H₂).Ok where
 mod:=I.ok.mod
 kind:=sc.kind
 glob:=I.ok.glob
 blt:=I.ok.blt
 above:=hC
 inj:=fun y z c h1 h2=>I.ok.inj y z c (Gu sc I.ok h1) (Gu sc I.ok h2)
 has:=fun y hy=>by
  have hy':(Ko scope X.env).names.lookup y=some .cell\/(Ko scope X.env).names.lookup y=some .free:=hy;have hf:scope.names.lookup y=some .free:=by
   rcases hy' with z|z
   ·exact(Xq sc.nc z).2 (.inl rfl)
   ·exact(Xq sc.nc z).2 (.inr rfl)
  exact S7 hf
 cab:=fun y c h=>by cases h
 hd:=I.ok.hd
 frames:=I.ok.frames
 stk:=.inl rfl
 exf:=fun b hb=>by
  obtain⟨f0,f1,f2,f3,f4,f5⟩:=ff b hb;obtain⟨o,ho⟩:=fo b hb;exact⟨Vf (Ng (Heap.lt_size ho) hC),fun y c h=>f4 y c (Gu sc I.ok h)⟩
 bs:=I.bs
 bsz:=Oe I.ok.bsz I.sz
 noex:=fun b o e hb=>by
  obtain⟨f0,f1,f2,f3,f4,f5⟩:=ff b hb;rcases f3 with z|z
  ·exact I.ok.noex b o e z
  ·exact Gb (Ng (Heap.lt_size e) (Oe I.ok.bsz z)) (Io _)
 exfs:=fun b hb z=>by
  obtain⟨f0,f1,f2,f3,f4,f5⟩:=ff b hb;rcases Lc.mp (I.stkSub b z) with e|e
  ·exact f1 e
  ·exact f2 e
 funs:=I.stack
 frf:=I.stkFree
 tab:=fun f c P h1=>I.base.tbls _ _ _ (I.ok.tab f c P h1)
theorem QT{E: Va->Ha->Prop}{RR: Va->Ja->Result->Ha->Prop}(I:Da X Za σ H₂ s₂)(ck:NP X.N X.env.scope scope xs)(hx:x∈xs)(hNd:X.N.Nodup)(hc:X.calm=true)(T:Eu X.prog X.w X.K tg J fp it tn)(st:tn 0 s₂.heap)(ff:∀b∈fp,Zn X Za H₂ b)(hw:ZaO σ Bd tt te J H₂ Q)(hb:PB X scope xs tg Bd)(ht:∀C s₂ H₂ ex,Z2 (Zf X scope xs C ex s₂ H₂) ifs tt)(he:∀C s₂ H₂ ex,PE (Zf X scope xs C ex s₂ H₂) elt te)(hvs:∀x H vs,Bd x H vs->vs.length=xs.length)(hRR:∀D C s' H' m',s₂.heap.objs.size<=C->Da X Za σ H' s'->s'.heap.Ns C m'->H' C=none->Q (.ref D) H'->RR (.ref D) C (.ok .next) s'):
  Sa (La X.prog X.w) X.A (newList []) (fun acc s₃=>Sa (La X.prog X.w) X.A (newFunctionEnv scope X.env.globals (Jh scope X.env) [] X.env.qual none .none (some X.env)) (fun cenv s₄ =>
   codeAny (La X.prog X.w) X.A (.compStart (.ListComp elt [⟨tg,iter,ifs,0⟩] scope pos) 0 (.ref it) acc { cenv with scope:=Ko scope X.env }) (RR acc cenv.locals) s₄) E s₃) E s₂:=by
 have sc:=ck.scs x hx;refine FF (wpAny_newFunctionEnv sc.nc (by intro y hy;simp at hy) (fun h₁ hns₁ hsb₁=>?_) sc.kind);dsimp only at hns₁ hsb₁ ⊢;generalize hP2:s₂.heap.push { cls:=.type "list",dict:=none,data:=.seq ([]:LI3).toArray }=P2 at hns₁ hsb₁ ⊢;have hCs:P2.objs.size=s₂.heap.objs.size+1:=by rw[<- hP2,Heap.size_push]
 have hCle:s₂.heap.objs.size<=P2.objs.size:=by rw[hCs];exact Wt _
 have hDC:s₂.heap.objs.size≠P2.objs.size:=by rw[hCs];exact Vf (VF _)
 generalize hCe:P2.objs.size=C at hns₁ hsb₁ hCs hCle hDC ⊢;generalize hDe:s₂.heap.objs.size=D at hCs hCle hDC ⊢;have fo:∀b∈fp,∃o,s₂.heap.get? b=some o:=fun b hb=>let ⟨o,e,_⟩:=T.obj _ _ st b hb;⟨o,e⟩;have flt:∀b∈fp,b<D:=fun b hb=>by obtain⟨o,e⟩:=fo b hb;rw[<- hDe];exact Heap.lt_size e
 have old:∀b o,s₂.heap.get? b=some o->h₁.get? b=some o:=fun b o e=>by
  have hb:=Heap.lt_size e;exact hsb₁.extBut b o (Vf (by rw[hCs];exact JF (hDe▸hb))) (Heap.get?_push_of_some _ (hP2▸Heap.get?_push_of_some _ e))
 have hacc:h₁.get? D=some { cls:=.type "list",data:=.seq ([]:LI3).toArray 0 }:=hsb₁.extBut _ _ hDC (Heap.get?_push_of_some _ (hP2▸hDe▸Heap.get?_push_size _ rfl));have okB:=Zd2 (x:=x) (xs:=xs) (C:=C) I sc (by rw[hDe];exact hCle) ff fo;have hfreshD:H₂ D=none:=I.hok.fresh (by rw[hDe];exact Cb _);have hfreshC:H₂ C=none:=I.hok.fresh (by rw[hDe];exact hCle);have I0:Da (Zf X scope xs C fp s₂ H₂) [(D,{ cls:=.type "list",data:=.seq ([]:LI3).toArray 0 })] (σ++List.replicate xs.length none) H₂ { s₂ with heap:=h₁,toks:=s₂.toks+([]:List (Str×Va)).length }:=by
  refine⟨okB,rfl,I.bare,Un.kept old,⟨_,hns₁,fun i y v e1 e2 e3=>?_⟩,fun y c e=>?_,hfreshC,fun y c e=>I.freeC y c (Gu sc I.ok e),fun p hp=>?_,I.hok.kept old,by simp[Zf,I.len]⟩
  ·have hi:i<σ.length:=by
    by_cases hi:i<σ.length
    ·exact hi
    ·rw[Ei (by lia)] at e2
     rw[RO] at e2
     split at e2<;>cases e2
   rw[Pi hi] at e2;have e1':(X.N.map (Kq xs)++xs)[i]?=some y:=e1;rw[Pi (by rw[Lb,<- I.len];exact hi),Cd] at e1';have lk:scope.names.lookup y=some .local\/scope.names.lookup y=some .free:=by
    have e3':(Ko scope X.env).names.lookup y=some .local\/(Ko scope X.env).names.lookup y=some .cell\/(Ko scope X.env).names.lookup y=some .free:=e3;rcases e3' with z|z|z
    ·exact .inl ((Xq sc.nc z).1 rfl)
    ·exact .inr ((Xq sc.nc z).2 (.inl rfl))
    ·exact .inr ((Xq sc.nc z).2 (.inr rfl))
   obtain⟨y0,ey0,ey⟩:∃y0,X.N[i]?=some y0/\Kq xs y0=y:=by
    cases q:X.N[i]? with
    |none=>rw[q] at e1';cases e1'
    |some y0=>rw[q] at e1';exact⟨y0,rfl,Option.some.inj e1'⟩
   have hy0:y0 ∉ xs:=fun z=>by
    have:y=Str.ofString "":=by rw[<- ey];unfold Kq;rw[Ba (Et.mpr z)]
    rw[this,ck.noE] at lk;rcases lk with z|z<;>cases z
   have ey2:y0=y:=by rw[<- ey];unfold Kq;rw[Aa (fun z=>hy0 (Et.mp z))]
   rw[ey2] at ey0 hy0;have e1':X.N[i]?=some y:=ey0;have yN:y∈X.N:=Tc e1';have e3':(Ko scope X.env).names.lookup y=some .local\/(Ko scope X.env).names.lookup y=some .cell\/(Ko scope X.env).names.lookup y=some .free:=e3;have hcf:(Ko scope X.env).names.lookup y=some .cell\/(Ko scope X.env).names.lookup y=some .free:=by
    rcases e3' with z|z
    ·exact Gb ((Xq sc.nc z).1 rfl) (ck.noN y yN hy0)
    ·exact z
   have hfree:scope.names.lookup y=some .free:=by
    rcases hcf with z|z
    ·exact(Xq sc.nc z).2 (.inl rfl)
    ·exact(Xq sc.nc z).2 (.inr rfl)
   obtain⟨c,hcl⟩:=S7 (X:=X) hfree;have hcx:=Gu sc I.ok hcl;have hvis:=sc.fr _ (PySem.mem_of_lookup hfree) rfl;obtain⟨m,hn,hl⟩:=I.loc;obtain⟨u,ru,hlook⟩:=hl i y v e1' e2 (.inr hvis);refine⟨u,ru,.inr ⟨hcf,c,hcl, ?_⟩⟩;rcases hlook with ⟨k,_⟩|⟨k,c',ec,hcell⟩
   ·have k':X.env.scope.names.lookup y=some .local:=k
    have hv':X.env.scope.names.lookup y=some .cell\/X.env.scope.names.lookup y=some .free:=hvis;rw[k'] at hv';rcases hv' with z|z<;>cases z
   ·rw[hcx] at ec;cases ec
    obtain⟨o,ho,hd⟩:=hcell;exact⟨o,old _ _ ho,hd⟩
  ·obtain⟨v,o,ho,hd⟩:=I.cell y c (Gu sc I.ok e)
   exact⟨v,o,old _ _ ho,hd⟩
  ·have e:p=(D,{ cls:=.type "list",data:=.seq ([]:LI3).toArray 0 }):=by simpa[Zf] using hp
   subst e;exact⟨hacc,hfreshD,hDC,(fun z=>by
    rcases Lc.mp (I.stkSub D z) with e|e
    ·exact Gb I.lt (by rw[<- e,hDe];exact Io _)
    ·exact I.nofs (by rw[hDe];exact Cb _) e),fun v z=>nomatch z⟩
 obtain⟨W,⟨m0,w0⟩,turn⟩:=hw;have fpB:∀{H':Hp}{o:Obj},(∀b∈fp,H' b=none)->∀b∈fp,Zn (Zf X scope xs C fp s₂ H₂) [(D,o)] H' b:=fun {H' o} hn b hb=>by
  obtain⟨f0,f1,f2,f3,f4,f5⟩:=ff b hb;obtain⟨g1,g2⟩:=okB.exf b hb;exact⟨hn b hb,g1,okB.exfs b hb,.inl hb,g2,fun p hp=>by
   have e:p=(D,o):=by simpa[Zf] using hp
   subst e;exact(Vf (flt b hb)).symm⟩
 have hσ:σ.length=X.N.length:=I.len;have loop:∀s₃:Ha,s₃={ s₂ with heap:=h₁,toks:=s₂.toks+([]:List (Str×Va)).length } ->
   codeAny (La X.prog X.w) X.A (.compLoop (.ListComp elt [⟨tg,iter,ifs,0⟩] scope pos) 0 (.ref it) (.ref D) (compEnvC scope (Jh scope X.env) C X.env)) (RR (.ref D) C) s₃:=by
  rintro s₃ rfl;refine Zez
   (fun n s'=>∃i ys its k σx H',σx.length=xs.length/\Da (Zf X scope xs C fp s₂ H₂) [(D,{ cls:=.type "list",data:=.seq (List.toArray its) k })] (σ++σx) H' s'/\tn i s'.heap/\(∀b∈fp,H' b=none)/\Ub ys its/\W i n ys H') ?_ m0
   ⟨0,[],[],0,List.replicate xs.length none,H₂,by simp,I0,T.keep _ _ _ st (fun b hb o e=>old b o e),fun b hb=>(ff b hb).1,.nil,w0⟩
  rintro n s' ⟨i,ys,its,k,σx,H',hσx,I',Ca,fr',rv,w'⟩;obtain⟨hz,hcase⟩:=turn i n ys H' w';have hpinD:=I'.pin (D,{ cls:=.type "list",data:=.seq (List.toArray its) k }) (by simp[Zf]);rcases hcase with ⟨stop,q⟩|⟨go,N,hN,step⟩
  ·refine Db (T.done (Zf X scope xs C fp s₂ H₂) rfl rfl rfl hc i _ s' _ H' _ I' (fpB fr') Ca stop) fun r s4 ⟨hr,I4⟩=>?_
   subst hr;have pD:=I4.pin (D,{ cls:=.type "list",data:=.seq (List.toArray its) k }) (by simp[Zf]);obtain⟨m4,hn4,_⟩:=I4.loc;have IX:Da X Za σ H' s4:=I.call' I4.os I4.base I4.hok I4.bare fun b hb=>by
    obtain⟨f0,f1,f2,f3,f4,f5⟩:=ff b hb;exact⟨f3,f1,f4,f5⟩
   have IX2:=IX.adopt (D:=D) (ys:=ys) (its:=its) (n:=k) hpinD.2.1 (by rw[<- hDe];exact I.sz) (by rw[<- hDe];exact Z0 I.lt)
    (fun y c e z=>by
     obtain⟨v,o,ho,hd⟩:=I.cell y c e;have:=Heap.lt_size ho;rw[hDe,z] at this;exact Io _ this)
    (fun p hp z=>by
     have:=Heap.lt_size (I.pin p hp).1;rw[hDe,z] at this;exact Io _ this) pD.1 rv hz
   refine hRR D C s4 _ m4 (by rw[hDe];exact hCle) IX2 hn4 ?_ (q D hpinD.2.1);rw[Ab (Ne.symm hDC)];exact I4.free
  ·refine Db (T.item (Zf X scope xs C fp s₂ H₂) rfl rfl rfl hc i _ s' _ H' _ I' (fpB fr') Ca go) fun r s4 ⟨u,hr,h4⟩=>?_
   subst hr;refine Db h4 fun _ s5 ⟨y,H5,I5,r5,y5,st5,fr5⟩=>?_;have I5':=I5.pinned (fpB fr5) (T.obj _ _ st5);obtain⟨vs,bd5,stp⟩:=step y H5 y5;refine Db (hb C s₂ H₂ fp _ s5 σ σx H5 y u vs _ hσ hσx I5' r5 bd5) fun _ s6 I6=>?_;refine Db (ht C s₂ H₂ fp _ s6 _ H5 _ _ I6 stp) fun ok s6' hok=>?_;obtain⟨H6',I6',q6'⟩:=hok;have hvl:=hvs _ _ _ bd5;have stay:∀{s9:Ha}{H9:Hp}{ys':List V}{its':LI3}{k':Nat},True:=fun {_ _ _ _ _}=>trivial;cases ok with
   |false =>
    rw[Aa Bool.false_ne_true] at q6' ⊢;have pD6:=I6'.pin (D,{ cls:=.type "list",data:=.seq (List.toArray its) k }) (by simp[Zf]);obtain⟨m',hm,w8⟩:=hN _ _ q6';refine⟨m',hm,i+1,ys,its,k,vs.map some,H6',by simp[hvl],I6'.pins_of fun p hp=>?_, ?_,fun b hb'=>?_,rv,w8⟩
    ·have e:p=(D,{ cls:=.type "list",data:=.seq (List.toArray its) k }):=by simpa using hp
     subst e;exact⟨pD6.1,pD6.2.1,pD6.2.2.1,pD6.2.2.2.1,fun v z=>nomatch z⟩
    ·refine T.keep _ _ _ st5 fun b hb' o e=>?_
     exact(I6'.pin (b,o) (Fe _ (Fe _ (Tx hb' e)))).1
    ·obtain⟨o,e,d⟩:=T.obj _ _ st5 b hb'
     exact(I6'.pin (b,o) (Fe _ (Fe _ (Tx hb' e)))).2.1
   |true =>
   rw[Ba rfl] at q6' ⊢;refine Cf (he C s₂ H₂ fp _ s6' _ H6' _ I6' q6') (fun u7 s7 h7=>?_) fun _ _ f=>f.elim;obtain⟨v7,H7,I7,r7,n7⟩:=h7;have pD7:=I7.pin (D,{ cls:=.type "list",data:=.seq (List.toArray its) k }) (by simp[Zf]);have Ae:=rv.length;refine append_at (hsz:=by show its.toArray.size<=Rb;rw[Ld,<- Ae];exact hz) pD7.1 fun h8 hs8 hD8=>?_;obtain⟨m',hm,w8⟩:=hN _ _ n7;have hD8':h8.get? D=some { cls:=.type "list",data:=.seq (its++[u7]).toArray (k+1) }:=by rw[hD8,List.push_toArray]
   have I8:Da (Zf X scope xs C fp s₂ H₂) [] (σ++vs.map some) H7 { s7 with heap:=h8 }:=by
    refine(I7.pins_of (pins':=[]) fun p hp=>Gb hp (by simp)).turned (t':=s7.toks) (it:=D) (fun b o hb e=>(hs8.2 b hb).trans e) pD7.2.1 pD7.2.2.1 (.inr (by show s₂.heap.objs.size<=D;rw[hDe];exact Cb _)) (fun y' c' e' z=>?_) fun p hp=>Gb (show p∈([]:List (Ja×Obj)) from by simpa[Zf] using hp) (by simp);obtain⟨v,o,ho,hd⟩:=I.cell y' c' (Gu sc I.ok e');have:=Heap.lt_size ho;rw[hDe,z] at this;exact Io _ this
   refine⟨m',hm,i+1,ys++[v7],its++[u7],k+1,vs.map some,H7,by simp[hvl],I8.pins_of fun p hp=>?_, ?_,fun b hb'=>?_,rv.append (.cons r7 .nil),w8⟩
   ·have e:p=(D,{ cls:=.type "list",data:=.seq (its++[u7]).toArray (k+1) }):=by simpa using hp
    subst e;exact⟨hD8',pD7.2.1,pD7.2.2.1,pD7.2.2.2.1,fun v z=>nomatch z⟩
   ·refine T.keep _ _ _ st5 fun b hb' o e=>?_
    have hpb:=I7.pin (b,o) (Fe _ (Fe _ (Tx hb' e)));exact(hs8.2 b (Vf (flt b hb'))).trans hpb.1
   ·obtain⟨o,e,d⟩:=T.obj _ _ st5 b hb'
    exact(I7.pin (b,o) (Fe _ (Fe _ (Tx hb' e)))).2.1
 exact codeAny_compStart_list (loop _ rfl) (T.self _ 0 _ _ _ (T.keep _ _ _ st fun b hb o e=>old b o e) (loop _ rfl))
theorem XA(hx:∀e s,X.xe e s->False)(h:PT X c tt): Z2 X [c] tt:=fun Za s σ H Q E I q =>
 wpAny_tests_one (Cf (h Za s σ H Q I q) (fun _ _ z=>z) fun e s z=>(hx e s z).elim)
theorem Ev(hNd:X.N.Nodup)(hchk:Hq X.N X.env.scope scope [x]=true:=by rfl): PB X scope [x] (.Name x px) Gz:=by
 intro C s₂ H₂ ex Za s σ σx H y u vs E hσ hσx I r hb;have ck:=T7 hchk;have sc:=ck.scs x (by simp);have hb:vs=[y]:=hb;subst hb;have ndB:=ck.nd;refine GP ?_;refine C5 (X:=Zf X scope [x] C ex s₂ H₂) (i:=X.N.length) (x:=x) (v:=y) I ndB (by simp[Zf]) (.inl (Y0 sc.var)) r (fun s6 I6=>?_) (.inr (Y0 sc.var));obtain⟨o,rfl⟩:∃o,σx=[o]:=by
  cases σx with
  |nil=>simp at hσx
  |cons a l =>
   cases l with
   |nil=>exact⟨a,rfl⟩
   |cons b l=>simp at hσx
 have eσ:(σ++[o]).set X.N.length (some y)=σ++[some y]:=by
  rw[<- hσ];simp
 rw[eσ] at I6;exact I6
theorem Zi2: ∀{l:List α},l.length=2->∃a b,l=[a,b]
 |[a,b],_=>⟨a,b,rfl⟩
theorem Zkt(hNd:X.N.Nodup)(hc:X.calm=true)(hchk:Hq X.N X.env.scope scope [x,y]=true:=by rfl): PB X scope [x,y] (.Tuple [.Name x px,.Name y py] k tp) (GD X.K):=by
 intro C s₂ H₂ ex Za s σ σx H v u vs E hσ hσx I r hb;have ck:=T7 hchk;have sx:=ck.scs x (by simp);have sy:=ck.scs y (by simp);obtain⟨t,a,b,rfl,hq,rfl⟩:=hb;have ndB:=ck.nd;obtain⟨o1,o2,rfl⟩:=Zi2 hσx;have e1:(σ++[o1,o2]).set X.N.length (some a)=σ++[some a,o2]:=by
  rw[<- hσ];simp
 have e2:(σ++[some a,o2]).set (X.N.length+1) (some b)=σ++[some a,some b]:=by
  rw[<- hσ];show List.set (σ++([some a,o2]:St)) _ _=_;rw[VP _ _ (Wt _)];simp
 have g1:PG (Zf X scope [x,y] C ex s₂ H₂) (.Name x px) (Aj X.N.length):=OL ndB (by
  show (X.N.map (Kq [x,y])++[x,y])[X.N.length]?=some x;rw[Ei (by simp)];simp) (.inl (Y0 sx.var)) (.inr (Y0 sx.var))
 have g2:PG (Zf X scope [x,y] C ex s₂ H₂) (.Name y py) (Aj (X.N.length+1)):=OL ndB (by
  show (X.N.map (Kq [x,y])++[x,y])[X.N.length+1]?=some y;rw[Ei (by simp)];simp) (.inl (Y0 sy.var)) (.inr (Y0 sy.var))
 have g:PG (Zf X scope [x,y] C ex s₂ H₂) (.Tuple [.Name x px,.Name y py] k tp) (MV X.K 2 (UJ (Aj X.N.length) (UJ (Aj (X.N.length+1)) IV))):=ZkD (X:=Zf X scope [x,y] C ex s₂ H₂) hc (UZ g1 (UZ g2 ZkE));refine Cf (g Za s _ H _ _ (fun σ' H'=>σ'=σ++[some a,some b]/\H'=H) I r ⟨t,[a,b],rfl,hq,rfl,a,[b],rfl,b,[],rfl,rfl, ?_⟩) (fun _ s' hq'=>?_) fun _ _ z=>z.elim
 ·exact⟨by rw[e1,e2],rfl⟩
 ·obtain⟨σ',H',I',e3,e4⟩:=hq'
  subst e3 e4;exact I'
theorem Ay(hi:PI X tg iter wi)(hb:PB X scope xs tg Bd)(ht:∀C s₂ H₂ ex,Z2 (Zf X scope xs C ex s₂ H₂) ifs tt)(he:∀C s₂ H₂ ex,PE (Zf X scope xs C ex s₂ H₂) elt te)(hvs:∀x H vs,Bd x H vs->vs.length=xs.length)(hNd:X.N.Nodup)(hc:X.calm=true)(hclos:F0 scope X.env=pure (Jh scope X.env):=by rfl)(hchk:Hq X.N X.env.scope scope xs=true:=by rfl)(hs:∀x,K0 iter X.env x=pure x:=by exact fun _=>rfl):
  PE X (.ListComp elt [⟨tg,iter,ifs,0⟩] scope pos) (Hz wi Bd tt te):=by
 intro Za s σ H Q I h;have ck:=T7 hchk;obtain⟨x,hx⟩:=ck.ex;have sc:=ck.scs x hx;rw[eval_ListComp];refine wpAny_comprehension_free (use:=none) rfl hs hclos sc.kind sc.locs (Db (hi Za s σ H _ I h) fun xv s₁ h₁=>Db h₁ fun itv s₂ h₂=>?_);obtain⟨it,fp,tn,J,H2,e,I2,T,st2,f2,q⟩:=h₂;subst e;refine QT (RR:=fun acc C=>compPost (La X.prog X.w) X.A X.xe none (EP X Za σ Q) acc C) I2 ck hx hNd hc T st2 f2 q hb ht he hvs ?_;intro D C s' H' m' hC I' hn hC0 hq;refine⟨m',hn,fun h'' hs''=>⟨.ref D,H', ?_,rfl,hq⟩⟩;refine I'.turned (t':=s'.toks) (it:=C) (fun b o hb e=>(hs''.2 b hb).trans e) hC0 (Z0 (Ng I2.lt hC)) (.inr (Oe I2.sz hC)) (fun y c e z=>?_) fun p hp z=>?_
 ·obtain⟨v,o,ho,hd⟩:=I2.cell y c e
  exact Gb (Heap.lt_size ho) (J0.mpr (by rw[z];exact hC))
 ·exact Gb (Heap.lt_size (I2.pin p hp).1) (J0.mpr (by rw[z];exact hC))
def LN(i:Nat)(wi:TI)(Bd:TB)(tt:TT)(te:TE):TS:=fun D σ H=>Hz wi Bd tt te σ H fun v H'=>D.nx (σ.set i (some v)) H'
theorem EZ(hN:X.N.Nodup)(hi:X.N[i]?=some y)(hit:PI X tg iter wi)(hb:PB X scope xs tg Bd)(ht:∀C s₂ H₂ ex,Z2 (Zf X scope xs C ex s₂ H₂) ifs tt)(he:∀C s₂ H₂ ex,PE (Zf X scope xs C ex s₂ H₂) elt te)(hvs:∀x H vs,Bd x H vs->vs.length=xs.length)(hc:X.calm=true)(hsw:swapsWith (.ListComp elt [⟨tg,iter,ifs,0⟩] scope pos) (some (.Name y py)) spos.line X.env=pure true:=by rfl)(hy:X.env.scope.names.lookup y=some .local:=by rfl)(hclos:F0 scope X.env=pure (Jh scope X.env):=by rfl)(hchk:Hq X.N X.env.scope scope xs=true:=by rfl)(hs:∀x,K0 iter X.env x=pure x:=by exact fun _=>rfl):
  PS X (.Assign [.Name y py] (.ListComp elt [⟨tg,iter,ifs,0⟩] scope pos) spos) (LN i wi Bd tt te):=by
 intro Za s σ H D0 I h;have ck:=T7 hchk;obtain⟨x,hx⟩:=ck.ex;have sc:=ck.scs x hx;rw[exec_Assign_Name_used _ _ _ _ hsw];refine Ka (wpAny_standAt (Ka ?_));show Sa _ X.A (do let _ <- comprehension (.ListComp elt [⟨tg,iter,ifs,0⟩] scope pos) scope X.env _ (newList []) false (eval iter X.env) (some (assign (.Name y py) X.env))) _ _ s;refine Ka (Cf (wpAny_comprehension_free (use:=some (assign (.Name y py) X.env)) (Q:=fun _ s'=>SP X Za D0 .next s') rfl hs hclos sc.kind sc.locs
  (Db (hit Za s σ H _ I h) fun xv s₁ h₁=>Db h₁ fun itv s₂ h₂=>?_)) (fun _ s' hq=>Mb (Mb hq)) fun _ _ e=>e)
 obtain⟨it,fp,tn,J,H2,e,I2,T,st2,f2,q⟩:=h₂;subst e;refine QT (RR:=fun acc C=>compPost (La X.prog X.w) X.A X.xe (some (assign (.Name y py) X.env)) (fun _ s'=>SP X Za D0 .next s') acc C) I2 ck hx hN hc T st2 f2 q hb ht he hvs ?_;intro D C s' H' m' hC I' hn hC0 hq;show Sa _ X.A (assign (.Name y py) X.env (.ref D)) _ _ _;have cellC:∀y c,X.env.cells.lookup y=some c->c≠C:=fun y c e z=>by
  obtain⟨v,o,ho,hd⟩:=I2.cell y c e;exact Gb (Heap.lt_size ho) (J0.mpr (by rw[z];exact hC))
 have locC:C≠X.env.locals:=Z0 (Ng I2.lt hC);refine GP (ZaE (i:=i) (v:=.ref D) I' hN hi (.inl hy) rfl (fun s'' I'' ⟨a,hsa,ha⟩=>?_) (.inr hy));have hCa:C≠a:=by
  rcases ha with z|z
  ·rw[z];exact locC
  ·exact(cellC _ _ z).symm
 refine⟨m',hn.sameBut hsa hCa,fun h'' hs''=>⟨σ.set i (some (.ref D)),H', ?_,hq⟩⟩;refine I''.turned (t':=s''.toks) (it:=C) (fun b o hb e=>(hs''.2 b hb).trans e) hC0 locC (.inr (Oe I2.sz hC)) cellC fun p hp z=>?_;exact Gb (Heap.lt_size (I2.pin p hp).1) (J0.mpr (by rw[z];exact hC))
end
noncomputable def Ck{α β:Type}(f:α->Rr (Option β)):List α->Rr (List β)
 |[]=>.ok []
 |x::xs=>(f x).bind fun o=>(Ck f xs).bind fun ys=>.ok (o.toList++ys)
def DB(K:ZmM)(Bd:TB)(k:Nat)(hb:PV->Rr LI5):Prop:=(∀x e,hb x≠.exc e)/\∀(H:Hp) (S:Ja->Prop) (x:PV) (v:V) (xs:LI5),Ya K H S x v->hb x=.ok xs->xs.length=k/\∃vs,Bd v H vs/\Reps K H S xs vs
theorem Xw{K:ZmM}:DB K Gz 1 (fun x=>.ok [x]):=⟨fun x e h=>(by cases h),fun H S x v xs r h=>by
 cases h;exact⟨rfl,[v],rfl,v,[],rfl,r,rfl⟩⟩
theorem Zfg{K:ZmM}:DB K (GD K) 2 (D7 2):=by
 refine⟨fun x e h=>?_,fun H S x v xs r h=>?_⟩
 ·unfold D7 at h
  split at h
  ·split at h<;>cases h
  ·cases h
 ·unfold D7 at h
  split at h
  ·rename_i ys
   split at h
   ·rename_i hl
    cases h;obtain⟨a,vs,rfl,hq,hr⟩:=r;refine⟨hl,vs, ?_,hr⟩
    match xs,vs,hl,hr,hq with
    |[p,q],vs,_,hr,hq =>
     obtain⟨u,w,rfl,_,_⟩:=FM hr;exact⟨a,u,w,rfl,hq.sqT,rfl⟩
   ·cases h
  ·cases h
section
variable {K:ZmM}{B:Ja->Prop}{EX:PX->Hp->Prop}{H0 H H':Hp}{σ:St}{Γ Γ' Γ1 Γ2:List Md}{ρ:LI5}{F:Nat->LI2}{R:LI2}{k:Nat}{x:PV}{v:V}{te:TE}{tt:TT}{f fe:LI5->Rr PV}{c:LI5->Rr Bool}{Bd:TB}{hb:PV->Rr LI5}
theorem NI:DT K EX Γ Γ N5 (fun _=>.ok true):=fun B H0 H σ ρ F R Q A d=>d H F (Ia.refl H) (fun _ _ h=>h) A
theorem Ag.pushN:∀{xs:LI5}{vs:List V}{σ:St}{Γ:List Md}{ρ:LI5},Reps K H (NO B F R) xs vs->Ag K B H0 H σ Γ ρ F R->Ag K B H0 H (σ++vs.map some) (Γ++List.replicate xs.length .S) (ρ++xs) F R
 |[],vs,σ,Γ,ρ,h,A=>by
  have h:vs=[]:=h;subst h;simpa using A
 |x::xs,vs,σ,Γ,ρ,h,A=>by
  obtain⟨v,r,rfl,h1,h2⟩:=h;have:=Ag.pushN (xs:=xs) (vs:=r) h2 (A.push h1);simpa[Rt] using this
theorem Ag.popN(A:Ag K B H0 H (σ++τ) (Γ++List.replicate n .S) (ρ++xs) F R)(l1:σ.length=Γ.length)(l2:ρ.length=Γ.length): Ag K B H0 H σ Γ ρ F R:=by
 refine⟨A.same,A.own,A.young,A.youngR,A.live,A.liveR,A.disj,A.disjR,l1,l2,fun i=>?_⟩;have:=A.slot i;by_cases h1:i<Γ.length
 ·rw[Bb,Bb,Pi h1,Pi (by rw[l2];exact h1),Pi (by rw[l1];exact h1),<- Bb,<- Bb] at this
  exact this
 ·rw[Bb,Ch (by lia)]
  by_cases h2:i<Γ.length+n
  ·rw[Bb,Ei (by lia),RO,Ba (by lia)] at this
   simp only[Vw] at this;exact this.1
  ·exact A.outF (by simp;lia)
theorem Lu(hi:Q1 K EX Γ Γ1 wi fi)(hB:DB K Bd k hb)(ht:DT K EX (Γ1++List.replicate k .S) (Γ1++List.replicate k .S) tt c)(he:DE K EX (Γ1++List.replicate k .S) (Γ1++List.replicate k .S) .F te fe):
  DE K EX Γ Γ1 .F (Hz wi Bd tt te) (fun ρ=>(fi ρ).bind fun xs=>(lenM xs).bind fun _=>(Ck (fun x=>(hb x).bind fun as=>(c (ρ++as)).bind fun b=>if b=true then (fe (ρ++as)).bind fun y=>.ok (some y) else .ok none) xs).bind fun ys=>.ok (.lst ys)):=fun B H0 H σ ρ F R Q A d=>by
 refine hi B H0 H σ ρ F R _ A (d.bind.imp (fun xs _ d J H1 F1 s1 f1 A1 it=>?_) fun e q=>q);obtain⟨Ae,d⟩:=Dn.lenM d.bind;generalize hgx:(fun x=>(hb x).bind fun as=>(c (ρ++as)).bind fun b=>if b=true then (fe (ρ++as)).bind fun y=>Rr.ok (some y) else .ok none)=gx at d;have l1:=A1.lenS;have l2:=A1.lenR;refine⟨fun i m ys H2=>∃zs G F2,m=xs.length-i/\i<=xs.length/\ys.length<=i/\Ia H1 H2/\Trees K H2 zs ys G/\(∀a∈G,a ∉ R/\(H1 a=none\/∃j,a∈F1 j))/\(∀i,∀a∈F2 i,a∈F1 i)/\Ag K B H0 H2 σ Γ1 ρ F2 (G++R) /\
  Dn ((Ck gx (xs.drop i)).bind fun ys'=>.ok (.lst (zs++ys'))) (fun x=>∀v H',Ia H H'->Cc K B H0 H σ Γ1 ρ F R .F x v H'->Q v H') (fun e=>∀H',Ia H0 H'->EX e H'),
  ⟨xs.length,[],[],F1,by simp,Og _,Cb _,Ia.refl _,⟨rfl,rfl⟩,by simp,fun _ _ h=>h,A1,by simpa using d⟩, ?_⟩
 rintro i m ys H2 ⟨zs,G,F2,rfl,hi',hl,s2,tr,o2,f2,A2,dn⟩;refine⟨Ek (by lia), ?_⟩;have itp:=it H2 F2 s2 f2 i;cases hx:xs[i]? with
 |none =>
  refine .inl ⟨itp.2 hx,fun p hp=>?_⟩;have hd:xs.drop i=[]:=FO (Kt.mp hx);rw[hd] at dn;have dn':∀v H',Ia H H'->Cc K B H0 H σ Γ1 ρ F R .F (.lst (zs++[])) v H'->Q v H':=dn;rw[Dt] at dn';exact dn' _ _ ((s1.trans s2).trans (Ia.new hp)) (Cc.newF (s1.trans s2) (fun i a h=>f1 i a (f2 i a h)) tr (fun a ha=>⟨(o2 a ha).1,(o2 a ha).2.elim (fun z=>.inl (s1.free z)) fun⟨j,z⟩=>.inr ⟨j,f1 j a z⟩⟩) A2 hp)
 |some x =>
  have hlt:i<xs.length:=(Pd.mp hx).1;obtain⟨go,yl⟩:=itp.1 x hx;have hdx:xs.drop i=x::xs.drop (i+1):=by
   rw[Hr hlt];rw[Rc hlt] at hx;cases hx;rfl
  rw[hdx] at dn;simp only[Ck,Rr.assoc] at dn;rw[<- hgx] at dn;simp only[Rr.assoc] at dn;rw[hgx] at dn;refine .inr ⟨go,fun ys' H'=>∃zs G F2,ys'.length<=i+1/\Ia H1 H'/\Trees K H' zs ys' G/\(∀a∈G,a ∉ R/\(H1 a=none\/∃j,a∈F1 j))/\(∀i,∀a∈F2 i,a∈F1 i)/\Ag K B H0 H' σ Γ1 ρ F2 (G++R) /\
   Dn ((Ck gx (xs.drop (i+1))).bind fun ys'=>.ok (.lst (zs++ys'))) (fun x=>∀v H',Ia H H'->Cc K B H0 H σ Γ1 ρ F R .F x v H'->Q v H') (fun e=>∀H',Ia H0 H'->EX e H'),
   fun ys' H' ⟨zs,G,F2,a1,a2,a3,a4,a5,a6,a7⟩=>⟨xs.length-(i+1),by lia,zs,G,F2,rfl,hlt,a1,a2,a3,a4,a5,a6,a7⟩,fun v H3 y=>?_⟩
  obtain⟨s3,rx⟩:=yl v H3 y;have rx':Ya K H3 (NO B F2 (G++R)) x v:=Ya.mono (fun a us s r=>⟨r,s.1.1,fun z=>by
   rcases Ud.mp z with z|z
   ·rcases (o2 a z).2 with q|⟨j,q⟩
    ·exact s.2.1 q
    ·exact s.2.2 j q
   ·exact s.1.2.1 z,s.1.2.2⟩) (fun a us r=>r) rx
  cases hbx:hb x with
  |exc e=>exact Gb hbx (hB.1 x e)
  |bad=>rw[hbx] at dn;exact dn.elim
  |ok as =>
   rw[hbx] at dn;simp only[Rr.bind_ok] at dn;obtain⟨hk,vs,bd,ra⟩:=hB.2 H3 _ x v as rx' hbx;refine⟨vs,bd, ?_⟩;have A3:=Ag.pushN ra (A2.grow s3);rw[hk] at A3;refine ht B H0 H3 _ _ F2 (G++R) _ A3 (dn.bind.imp (fun b _ dn H4 F4 s4 f4 A4=>?_) fun e q=>q);cases b with
   |false =>
    rw[Aa Bool.false_ne_true] at dn ⊢;simp only[Rr.bind_ok,CF] at dn;refine⟨zs,G,F4,by lia,(s2.trans s3).trans s4,(tr.same s3).same s4,o2,fun i a h=>f2 i a (f4 i a h),A4.popN l1 l2, ?_⟩;simp only[Rr.assoc,Rr.bind_ok,Ot] at dn;exact dn
   |true =>
    rw[Ba rfl] at dn ⊢;simp only[Rr.assoc] at dn;refine he B H0 H4 _ _ F4 (G++R) _ A4 (dn.bind.imp (fun z _ dn w H5 s5 r5=>?_) fun e q=>q);obtain⟨F5,f5,G5,t5,o5,A5⟩:=r5;refine⟨zs++[z],G++G5,F5,by simp;lia,((s2.trans s3).trans s4).trans s5,Trees.append (((tr.same s3).same s4).same s5) (Trees.one t5) (fun a ha z=>(o5 a z).1 (Bf _ ha)),fun a ha=>?_,fun i a h=>f2 i a (f4 i a (f5 i a h)),(A5.popN l1 l2).less fun a ha=>?_, ?_⟩
    ·rcases Ud.mp ha with z|z
     ·exact o2 a z
     ·refine⟨fun q=>(o5 a z).1 (Fe _ q), ?_⟩
      rcases (o5 a z).2 with q|⟨j,q⟩
      ·exact .inl (((s2.trans s3).trans s4).free q)
      ·exact .inr ⟨j,f2 j a (f4 j a q)⟩
    ·simp only[Ud] at ha ⊢
     rcases ha with (z|z)|z
     ·exact .inr (.inl z)
     ·exact .inl z
     ·exact .inr (.inr z)
    ·simp only[Rr.assoc,Rr.bind_ok,CF,Hf,XE] at dn ⊢
     exact dn
theorem II(he:DE K EX Γ Γ' .F (Hz wi Bd tt te) f)(hi:i<Γ'.length): DS K EX Γ ⟨Γ'.set i .O,Γ1,Γ2,kd⟩ (LN i wi Bd tt te) (fun ρ=>(f ρ).thenS fun x=>.next (ρ.set i x)):=FU he hi
end
theorem Wu: ∀(x:V) (H:Hp) (vs:List V),Gz x H vs->vs.length=[n].length:=fun _ _ _ h=>Wf List.length h
theorem hv2{K:ZmM}{n m:Str}:∀(x:V) (H:Hp) (vs:List V),GD K x H vs->vs.length=[n,m].length:=fun _ _ _ ⟨_,_,_,_,_,h⟩=>Wf List.length h
theorem Zku{X:Cx}{K:ZmM}{scope:Scope}{x y:Str}{px py tp:Pos}{k:Nat}(hNd:X.N.Nodup)(hc:X.calm=true)(hchk:Hq X.N X.env.scope scope [x,y]=true:=by rfl)(e:X.K=K:=by rfl):PB X scope [x,y] (.Tuple [.Name x px,.Name y py] k tp) (GD K):=by subst e;exact Zkt hNd hc hchk
section
end
theorem ZjC(h:xs.length<1000000): pApp (.lst xs) y=.ok (.lst (xs++[y])):=Ba h
theorem Zj7:Uy (.int 10) (.int 59)=.ok (.int (10^59)):=by rw[LA (by decide)];rfl
theorem Zki{i j:Int}:IA [.int i,.int j]=.ok (.int (if j>i then j else i)):=rfl
theorem ZcP: D7 2 (.tup [a,b])=.ok [a,b]:=rfl
def LP:Nat:=4000000
def MP(i j:Int):Prop:=i.natAbs<2^LP/\j.natAbs<2^LP
noncomputable instance (i j:Int):Decidable (MP i j):=by unfold MP;infer_instance
end L2
namespace Att
open PySem PySem.W PySem.Calls PyProof.Rows
end Att
namespace L2
open PySem PySem.Spec PyProof.Rows
section
variable {X:Cx}{K:ZmM}
theorem Zef(hc:X.calm=true):Xf X (.builtin "any") (fun xs H Q=>∃p,∃bs:List Bool,xs=[.ref p]/\Uc X.K H p (bs.map V.bl)/\Q (.bl (bs.any id)) H):=by
 intro Za s σ H xs us Q I r h;obtain⟨p,bs,rfl,hq,q⟩:=h;obtain⟨u,rfl,rx⟩:=Np r;cases rx;obtain⟨its,r',pl,hz⟩:=I.list hq;have hb:=AH r';have hlt:p<s.heap.objs.size:=by obtain⟨_,e,_⟩:=pl.isList;exact Heap.lt_size e
 refine call_any_walk (KP pl.isList ?_);refine⟨s.heap.objs.size,[s.heap.objs.size,p],[s.heap.objs.size],its.toArray.size,_,_,fun i=>(bs[i]?).getD false,rfl,Walks.list (A:=X.A.in1) (I.ok.hd hc) _ p (Vf hlt) its.toArray,
  ⟨⟨_,Heap.get?_push_size _ rfl,rfl,rfl⟩,pl.isList.push _⟩,fun i v s' Q' E' hP hQ=>?_,fun h' tk hk=>?_⟩
 ·obtain⟨b,e,rfl⟩:=hb.get i v (by simpa using hP)
  dsimp only at hQ;rw[e,Vw] at hQ;exact Zu hQ
 ·have e:(List.range its.toArray.size).any (fun i=>(bs[i]?).getD false)=bs.any id:=by
   rw[Ld,hb.length,Bool.eq_iff_iff,List.any_eq_true,List.any_eq_true];constructor
   ·rintro⟨i,hi,hx⟩
    have hi:=Qg.mp hi;rw[Rc hi] at hx;exact⟨bs[i],Mt _,hx⟩
   ·rintro⟨b,hb',hx⟩
    obtain⟨i,hi,rfl⟩:=List.getElem_of_mem hb';exact⟨i,Qg.mpr hi,by rw[Rc hi];exact hx⟩
  rw[e];exact⟨.bl (bs.any id),H,I.kept (LSm.kept_iter hk),rfl,q⟩
theorem Zeg(hc:X.calm=true)(e:X.K=K:=by rfl):Xf X (.builtin "any") (fun xs H Q=>∃p,∃bs:List Bool,xs=[.ref p]/\Uc K H p (bs.map V.bl)/\Q (.bl (bs.any id)) H):=by subst e;exact Zef hc
end
def B4(xs:LI5):Rr PV:=match xs with
 |[.lst ys]=>match Yr ys with
  |some bs=>.ok (.bl (bs.any id))
  |none=>.bad
 |_=>.bad
theorem ZjB(bs:List Bool):B4 [.lst (bs.map PV.bl)]=.ok (.bl (bs.any id)):=by simp only[B4,CS]
def okE(x:PV):Bool:=x.noX&&x.dat.canLay0&&decide (x.dat.depth<=60)
def CB(K:ZmM)(g:Bool->Bool):R2:=fun x y H Q=>∃p qs a vs,Ya K H (fun _=>True) p x/\y=.ref a/\(Uc K H a vs\/Re K H a vs)/\Reps K H (fun _=>True) qs vs/\okE p=true/\(qs.all okE)=true/\Q (.bl (g (qs.any fun q=>PyData.eqv q.dat p.dat))) H
open Classical in
noncomputable def Dx(h:Heap)(dx:PyData)(y:Va):Bool:=if hy:∃d as,Reads h y d as/\d.canLay0=true/\d.depth<=60 then PyData.eqv hy.choose dx else false
section
variable {X:Cx}{K:ZmM}
theorem KU(I:Da X Za σ H s)(dx:PyData): ∀{qs:LI5}{vs:List V}{us:LI3},Reps X.K H S qs vs->Ub vs us->(qs.all okE)=true ->
  (us.any (Dx s.heap dx)=qs.any fun q=>PyData.eqv q.dat dx)/\∀y∈us,∃d as,Reads s.heap y d as/\d.canLay0=true/\d.depth<=60
 |[],_,us,h,r,_=>by
  rw[h] at r;cases r;exact⟨rfl,by simp⟩
 |q::qs,_,us,h,r,hk=>by
  obtain⟨v,vs,rfl,h1,h2⟩:=h;simp only[List.all_cons,Bool.and_eq_true] at hk;cases r with
  |cons r1 r2 =>
   rename_i u us;obtain⟨e1,e2⟩:=KU I dx h2 r2 hk.2;have h3:=hk.1;simp only[okE,Bool.and_eq_true,decide_eq_true_eq] at h3;obtain⟨as,ra⟩:=h1.reads I h3.1.1 r1;have hx:∃d as,Reads s.heap u d as/\d.canLay0=true/\d.depth<=60:=⟨_,_,ra,h3.1.2,h3.2⟩
   refine⟨?_,fun y hy=>?_⟩
   ·have:Dx s.heap dx u=PyData.eqv q.dat dx:=by
     unfold Dx;rw[Rm hx];obtain⟨as',ra',c1,c2⟩:=hx.choose_spec;rw[SeqAt.Reads.unique _ _ _ _ _ c1 ra' ra]
    rw[Gr,Gr,e1,this]
   ·rcases Lc.mp hy with rfl|hy
    ·exact hx
    ·exact e2 y hy
theorem BW(I:Da X Za σ H s)(hu:X.A.units+64<cLine)(rx:Nb x v)(ry:Nb y u)(h:CB X.K g x y H Q):
  ∃a items,u=.ref a/\(s.heap.IsList a items\/s.heap.IsTuple a items)/\∃e:Va->Bool,(∀y,y∈items->SeqAt.EqAt X.A.in1 s y v (e y))/\Q (.bl (g (items.any e))) H:=by
 obtain⟨p,qs,a,vs,h1,rfl,hq,hr,h3,h4,q⟩:=h;cases ry;simp only[okE,Bool.and_eq_true,decide_eq_true_eq] at h3;obtain⟨as,ra⟩:=h1.reads I h3.1.1 rx;have fin:∀its:LI3,Ub vs its->(∀y,y∈its.toArray->SeqAt.EqAt X.A.in1 s y v (Dx s.heap p.dat y))/\Q (.bl (g (its.toArray.any (Dx s.heap p.dat)))) H:=fun its rv=>by
  obtain⟨e1,e2⟩:=KU I p.dat hr rv h4;refine⟨fun y hy=>?_, ?_⟩
  ·have hx:=e2 y (by simpa using hy)
   unfold Dx;rw[Rm hx];obtain⟨as',ra',c1,c2⟩:=hx.choose_spec;refine SeqAt.eqAt_reads _ _ _ _ _ _ _ _ ra' ra c1 h3.1.2 ?_;have:=UF hx.choose.depth p.dat.depth;have hin:X.A.in1.units<=X.A.units+1:=by simp[Around.in1]
   lia
  ·rw[List.any_toArray,e1];exact q
 rcases hq with hq|hq
 ·obtain⟨its,rv,pl,hz⟩:=I.list hq
  obtain⟨f1,f2⟩:=fin its rv;exact⟨a,its.toArray,rfl,.inl pl.isList,_,f1,f2⟩
 ·obtain⟨its,rv,pl,hz⟩:=I.tuple hq
  obtain⟨f1,f2⟩:=fin its rv;exact⟨a,its.toArray,rfl,.inr pl,_,f1,f2⟩
theorem Zjy(hu:X.A.units+64<cLine)(e:X.K=K:=by rfl):Cg X (Xl .In) (CB K id):=by
 subst e;intro Za s σ H x y v u Q I rx ry h;obtain⟨a,items,rfl,hl,e,he,q⟩:=BW I hu rx ry h;rcases hl with hl|hl
 ·exact SeqAt.in_listAt e hl he ⟨.bl _,H,I,rfl,q⟩
 ·exact SeqAt.in_tupleAt e hl he ⟨.bl _,H,I,rfl,q⟩
theorem FY(hu:X.A.units+64<cLine)(e:X.K=K:=by rfl):Cg X (Xl .NotIn) (CB K (!·)):=by
 subst e;intro Za s σ H x y v u Q I rx ry h;obtain⟨a,items,rfl,hl,e,he,q⟩:=BW I hu rx ry h;rcases hl with hl|hl
 ·exact SeqAt.notIn_listAt e hl he ⟨.bl _,H,I,rfl,q⟩
 ·exact SeqAt.notIn_tupleAt e hl he ⟨.bl _,H,I,rfl,q⟩
end
noncomputable def Zy(g:Bool->Bool)(x y:PV):Rr PV:=match y with
 |.lst ys=>if (okE x&&ys.all okE)=true then .ok (.bl (g (ys.any fun q=>PyData.eqv q.dat x.dat))) else .bad
 |.tup ys=>if (okE x&&ys.all okE)=true then .ok (.bl (g (ys.any fun q=>PyData.eqv q.dat x.dat))) else .bad
 |_=>.bad
section
variable {K:ZmM}{EX:PX->Hp->Prop}{Γ Γ' Γ1 Γ2:List Md}{tb tc:TE}{ta:TA}{fb fc:LI5->Rr PV}{fa:LI5->Rr LI5}
theorem AI(ha:DE K EX Γ Γ1 .A tb fb)(hb:DE K EX Γ1 Γ2 .A tc fc): DE K EX Γ Γ2 .P (Ff (CB K g) tb tc) (fun ρ=>(fb ρ).bind fun x=>(fc ρ).bind fun y=>Zy g x y):=by
 refine D8 (fun {H x y v w Q} rx ry ⟨z,e,q⟩=>?_) (fun x y z h=>?_) (fun x y e h=>?_) ha hb
 ·unfold Zy at e
  split at e
  ·split at e
   ·rename_i ys hk
    cases e;rw[Bool.and_eq_true] at hk;obtain⟨a,vs,rfl,hn,hr⟩:=ry;exact⟨x,_,a,vs,rx,rfl,.inl (Vg (S:=fun _=>True) hn),hr,hk.1,hk.2,q rfl _ rfl⟩
   ·cases e
  ·split at e
   ·rename_i ys hk
    cases e;rw[Bool.and_eq_true] at hk;obtain⟨a,vs,rfl,hn,hr⟩:=ry;exact⟨x,_,a,vs,rx,rfl,.inr hn.sqT,hr,hk.1,hk.2,q rfl _ rfl⟩
   ·cases e
  ·cases e
 ·unfold Zy at h
  split at h
  ·split at h<;>cases h;rfl
  ·split at h<;>cases h;rfl
  ·cases h
 ·unfold Zy at h
  split at h
  ·split at h<;>cases h
  ·split at h<;>cases h
  ·cases h
theorem Zfj(ha:Ge K EX Γ Γ' ta fa):DE K EX Γ Γ' .P (Ci (fun xs H Q=>∃p,∃bs:List Bool,xs=[.ref p]/\Uc K H p (bs.map V.bl)/\Q (.bl (bs.any id)) H) ta) (fun ρ=>(fa ρ).bind B4):=by
 refine Q3 (fun {H xs vs Q} h z e=>?_) (fun xs e h=>?_) ha
 ·unfold B4 at e
  split at e
  ·split at e
   ·rename_i bs hb
    cases e;obtain⟨v,rfl,h1⟩:=Ik h;obtain⟨a,us,rfl,hn,hr⟩:=h1;rw[UH hb] at hr;have:=GM hr;subst this;exact⟨rfl,fun q=>⟨a,bs,rfl,Vg (S:=fun _=>True) hn,q _ rfl⟩⟩
   ·cases e
  ·cases e
 ·unfold B4 at h
  split at h
  ·split at h<;>cases h
  ·cases h
end
theorem ZfW{ns:LI0}{f:PV->Rr (Option PV)}{g:Nat->PV}(h:∀i,i<ns.length->f (.tup [.int i,.int (ns.getD i 0)])=.ok (some (g i))):Ck f (Jp (ns.map PV.int))=.ok ((List.range ns.length).map g):=by
 have e:Jp (ns.map PV.int)=(List.range ns.length).map fun i=>PV.tup [.int (i:Nat),.int (ns.getD i 0)]:=by
  apply Qo;intro i;unfold Jp;rw[OO,Cd,Cd];by_cases hi:i<ns.length
  ·rw[Rc hi,Ir hi]
   simp[Bb,Rc hi]
  ·rw[Ch (by lia),Ch (by simpa using hi)];rfl
 rw[e];have:∀l:List Nat,(∀i∈l,i<ns.length)->Ck f (l.map fun i=>PV.tup [.int (i:Nat),.int (ns.getD i 0)])=.ok (l.map g):=by
  intro l
  induction l with
  |nil=>intro _;rfl
  |cons a l ih =>
   intro hl;simp only[Dd,Ck,h a (hl a (by simp)),Rr.bind_ok,ih fun i hi=>hl i (by simp[hi]),CF,XE]
 exact this _ fun i hi=>Qg.mp hi
section
end
def ZcQ(x:PV):Rr LI5:=match x with
 |.tup xs=>.ok xs
 |_=>.bad
section
variable {K:ZmM}{H:Hp}{EX:PX->Hp->Prop}{Γ Γ':List Md}{te:TE}{f:LI5->Rr PV}
theorem ZhE(h:Ya K H S (.tup xs) (.ref a)): Mo K S (ZG K a) xs H:=by
 obtain⟨a',vs,e,hn,hr⟩:=h;cases e;intro i;constructor
 ·intro x hx
  obtain⟨u,e1,e2⟩:=hr.get hx;refine⟨⟨vs,u,hn.sqT,e1⟩,fun v H' ⟨e,y⟩=>?_⟩;subst e;have:=y vs hn.sqT;rw[e1] at this;cases this;exact⟨Ia.refl _,e2⟩
 ·intro hx
  exact⟨vs,hn.sqT,by rw[hr.length];exact Kt.mp hx⟩
theorem ZfA(he:DE K EX Γ Γ' .Z te f):DI K EX Γ Γ' (J9 K te) (fun ρ=>(f ρ).bind ZcQ):=fun B H0 H σ ρ F R Q A d=>by
 refine he B H0 H σ ρ F R _ A (d.bind.imp (fun x _ d v H1 s1 r1=>?_) fun e q=>q);obtain⟨F1,f1,p1,A1⟩:=r1;cases x with
 |tup xs =>
  obtain⟨a,vs,rfl,hn,hr⟩:=id p1;exact⟨a,rfl,⟨vs,hn.sqT⟩,d _ H1 F1 s1 f1 A1 fun H2 F2 h=>ZhE (p1.frm h A1)⟩
 |_=>exact d.elim
end
theorem Zkb: pIx (.tup (x::y::z::xs)) (.int 2)=.ok z:=by
 have:Ef (x::y::z::xs) 2=some z:=by unfold Ef;rw[P3 (by lia) (by simp only[Dh];lia)];rfl
 simp only[pIx,this]
section
variable {K:ZmM}{B:Ja->Prop}{EX:PX->Hp->Prop}{H0 H:Hp}{σ:St}{Γ Γ':List Md}{ρ:LI5}{F:Nat->LI2}{R:LI2}{x:PV}{v:V}{te:TE}{f:LI5->Rr PV}{c:LI5->Rr Bool}{hb:PV->Rr LI5}
inductive Oh(K:ZmM):List V->List (List (Str×Bool))->Prop
 |nil:Oh K [] []
 |cons {c:V}{L:List (Str×Bool)}{cs:List V}{Ls:List (List (Str×Bool))}:M1 K c L->Oh K cs Ls->Oh K (c::cs) (L::Ls)
noncomputable def Wo:List (List (Str×Bool))->Str->Option Bool
 |[],_=>some false
 |L::Ls,n=>match L.lookup n with
  |some true=>some true
  |some false=>Wo Ls n
  |none=>none
def VM(K:ZmM)(cs:List V)(Ls:List (List (Str×Bool))):List V->Hp->VK->Prop:=fun xs H Q=>∃x t,xs=[x,.ref t]/\Re K H t cs/\((x=.non/\Q (.bl false) H)\/∃n b,C1 K H n x/\Wo Ls n=some b/\Q (.bl b) H)
theorem Zic(T:Oh K cs Ls): ∀{us:LI3},Ub cs us->PySem.W.kitAny K (.type "NoneType") us=some false:=by
 induction T with
 |nil=>intro us r;cases r;rfl
 |cons h _ ih =>
  intro us r;cases r with
  |cons r1 r2 =>
   obtain rfl:=TH h.cls r1;simp only[PySem.W.kitAny,h.non,ih r2]
theorem Zid(T:Oh K cs Ls)(hD:Ig K n D): ∀{us:LI3}{b:Bool},Ub cs us->Wo Ls n=some b->PySem.W.kitAny K (.ref D) us=some b:=by
 induction T with
 |nil=>intro us b r e;cases r;exact e
 |@cons c L cs Ls h _ ih =>
  intro us b r e;cases r with
  |cons r1 r2 =>
   obtain rfl:=TH h.cls r1;simp only[Wo] at e;cases q:L.lookup n with
   |none=>rw[q] at e;cases e
   |some b1 =>
    rw[q] at e;have h2:=(h.own n b1 q D hD).2;cases b1 with
    |true=>cases e;simp only[PySem.W.kitAny,h2]
    |false=>simp only[PySem.W.kitAny,h2];exact ih r2 e
def IN:List V->TA
 |[]=>Rj
 |c::cs=>Di (tC c) (IN cs)
theorem ZaP:∀{cs:List V}{Q:List V->Hp->Prop},Q cs H->IN cs σ H Q
 |[],Q,h=>h
 |c::cs,Q,h=>ZaP (cs:=cs) (Q:=fun xs H2=>Q (c::xs) H2) h
def Rn(Ls:List (List (Str×Bool)))(x:PV):Rr PV:=match x with
 |.non=>.ok (.bl false)
 |.exc n=>(match Wo Ls n with|some b=>.ok (.bl b)|none=>.bad)
 |.exa n _=>(match Wo Ls n with|some b=>.ok (.bl b)|none=>.bad)
 |_=>.bad
theorem VU(hl:cs.length<=1000000)(he:DE K EX Γ Γ' .A te f): DE K EX Γ Γ' .P (Ci (VM K cs Ls) (Di te (Di (M5 (IN cs)) Rj))) (fun ρ=>(f ρ).bind (Rn Ls)):=fun B H0 H σ ρ F R Q A d=>by
 refine he B H0 H σ ρ F R _ A (d.bind.imp (fun x _ d v H1 s1 r1=>?_) fun e q=>q);obtain⟨F1,f1,p1,A1⟩:=r1;refine ZaP (Q:=fun xs H2=>xs.length<=Rb/\∀p,H2 p=none->VM K cs Ls [v,.ref p] (upd H2 p (.tup xs)) Q) ⟨Ek hl,fun p hp=>?_⟩;have e:Ia H1 (upd H1 p (.tup cs)):=Ia.new hp;refine⟨v,p,rfl,Re.of Hd, ?_⟩;have p2:=p1.same e;cases x with
 |non=>exact .inl ⟨p2,d _ _ (s1.trans e) ⟨F1,f1,rfl,rfl,A1.grow e⟩⟩
 |exc n =>
  simp only[Rn] at d;cases hb:Wo Ls n with
  |some b=>rw[hb] at d;exact .inr ⟨n,b,.inl p2,hb,d _ _ (s1.trans e) ⟨F1,f1,rfl,rfl,A1.grow e⟩⟩
  |none=>rw[hb] at d;exact d.elim
 |exa n i =>
  simp only[Rn] at d;cases hb:Wo Ls n with
  |some b=>rw[hb] at d;exact .inr ⟨n,b,.inr ⟨i,p2⟩,hb,d _ _ (s1.trans e) ⟨F1,f1,rfl,rfl,A1.grow e⟩⟩
  |none=>rw[hb] at d;exact d.elim
 |_=>exact d.elim
theorem Vy(h:Wo Ls n=some b): Rn Ls (.exc n)=.ok (.bl b):=by unfold Rn;simp only[h]
end
section
variable {X:Cx}
theorem NS{K:ZmM}{c:V}{L:List (Str×Bool)}{cs:List V}{Ls:List (List (Str×Bool))}(T:Oh K (c::cs) (L::Ls))(e:X.K=K:=by rfl):Xf X (.builtin "isinstance") (VM K (c::cs) (L::Ls)):=by
 subst e;intro Za s σ H xs us Q I r h;obtain⟨x,t,rfl,ht,h⟩:=h;obtain⟨u,w',rfl,rx,rn⟩:=ZE r;cases rn;obtain⟨its,rv,⟨o,ho,hc,n,hd⟩,_⟩:=I.tuple ht;have ho':s.heap.get? t=some ⟨.type "tuple",o.dict,.seq its.toArray n,o.slots⟩:=by rw[ho,<- hc,<- hd]
 rcases h with ⟨rfl,q⟩|⟨m,b,hx,hb,q⟩
 ·cases rx
  exact PySem.W.kia_tup PySem.W.kitx_none I.kIn True.intro ho' (Zic T rv) (fun z=>nomatch z) fun tk=>⟨.bl false,H,I.tok _,rfl,q⟩
 ·obtain⟨a,o2,C,od,rfl,h5,hI,-⟩:=hx.inst I
  cases rx;have t1:PySem.W.exOk X.K C=true:=by
   cases T with
   |cons hT _ =>
    simp only[Wo] at hb;cases q2:L.lookup m with
    |none=>rw[q2] at hb;cases hb
    |some b1=>exact(hT.own m b1 q2 C h5).1
  exact PySem.W.kia_tup (PySem.W.kitx_exc t1) I.kIn ⟨o2,od,hI⟩ ho' (Zid T h5 rv hb) (fun z=>nomatch z) fun tk=>⟨.bl b,H,I.tok _,rfl,q⟩
end
theorem ZjX{k: Int}(h0:0<=k)(h1:k<xs.length): pIx (.lst xs) (.int k)=.ok (xs.getD k.toNat .non):=by
 simp only[pIx,Ef,P3 h0 h1,AF];rw[Bb,Rc (by lia)];rfl
section
end
structure Jk(n:Nat)(x:PV):Prop where
 nx:x.noX=true
 can:x.dat.canLay0=true
 dep:x.dat.depth<=n
theorem Jk.ok(h:Jk n x)(hn:n<=64:=by decide): Ni x=true:=by
 unfold Ni;rw[h.nx,h.can,Hb (Oe h.dep hn)];rfl
theorem ZI(i:Int):Jk 0 (.int i):=⟨rfl,by simp[PV.dat,PyData.canLay0],by simp[PV.dat,PyData.depth]⟩
theorem YT: ∀{xs:LI5},(∀x∈xs,Jk n x)->PV.noXs xs=true/\PyData.canLayAll0 (PV.dats xs)=true/\PyData.depthAll (PV.dats xs)<=n
 |[],_=>⟨rfl,rfl,Og _⟩
 |x::xs,h=>by
  obtain⟨h1,h2,h3⟩:=YT (xs:=xs) fun y hy=>h y (by simp[hy]);have hx:=h x (by simp);refine⟨by simp[PV.noXs,hx.nx,h1],by simp[PV.dats,PyData.canLayAll0,hx.can,h2], ?_⟩;simp only[PV.dats,PyData.depthAll];exact Nat.max_le.mpr ⟨hx.dep,h3⟩
theorem RT(h:∀x∈xs,Jk n x): Jk (n+1) (.lst xs):=by
 obtain⟨h1,h2,h3⟩:=YT h;exact⟨by simp[PV.noX,h1],by simp[PV.dat,PyData.canLay0,h2],by simp only[PV.dat,PyData.depth];lia⟩
theorem Zff(ns:LI0):Jk 1 (.lst (ns.map PV.int)):=RT fun x hx=>by
 obtain⟨i,_,rfl⟩:=Ze.mp hx;exact ZI i
theorem X7(h:PyData.canLay0 (.str a)=true): Jk 0 (.str a):=⟨rfl,h,by simp[PV.dat,PyData.depth]⟩
theorem ZfX{f:PV->Rr (Option PV)}{p:Nat->Bool}{g:Nat->PV}{lo:Int}{n:Nat}(h:∀i,i<n->f (.int (lo+(i:Nat)))=.ok (if p i=true then some (g i) else none)):Ck f (Kh lo n)=.ok (((List.range n).filter p).map g):=by
 have key:∀(l:List Nat),(∀i∈l,i<n)->Ck f (l.map fun(i:Nat)=>PV.int (lo+i))=.ok ((l.filter p).map g):=by
  intro l
  induction l with
  |nil=>intro _;rfl
  |cons a l ih =>
   intro hl;simp only[Dd,Ck,h a (hl a (by simp)),Rr.bind_ok,ih fun i hi=>hl i (by simp[hi])];cases hp:p a<;>simp[hp,List.filter_cons]
 exact key _ fun i hi=>Qg.mp hi
theorem ZiV{f:PV->Rr PV}{g:Nat->PV}{lo:Int}{n:Nat}(h:∀i,i<n->f (.int (lo+(i:Nat)))=.ok (g i)):Fg f (Kh lo n)=.ok ((List.range n).map g):=by
 have key:∀(l:List Nat),(∀i∈l,i<n)->Fg f (l.map fun(i:Nat)=>PV.int (lo+i))=.ok (l.map g):=by
  intro l
  induction l with
  |nil=>intro _;rfl
  |cons a l ih =>
   intro hl;simp only[Dd,Fg,h a (hl a (by simp)),Rr.bind_ok,ih fun i hi=>hl i (by simp[hi])]
 exact key _ fun i hi=>Qg.mp hi
theorem NY{L: List α}{k: Int}(h0:0<=k)(h1:k<L.length): pIx (.lst (L.map q)) (.int k)=.ok (q (L.getD k.toNat d)):=by
 rw[ZjX h0 (by simpa using h1),Bb,Bb,Cd,Rc (by lia)];rfl
section
end
theorem us1(h:us.length=1): ∃a,us=[a]:=match us,h with | [a],_=>⟨a,rfl⟩
theorem us2(h:us.length=2): ∃a b,us=[a,b]:=match us,h with | [a,b],_=>⟨a,b,rfl⟩
theorem us3(h:us.length=3): ∃a b c,us=[a,b,c]:=match us,h with | [a,b,c],_=>⟨a,b,c,rfl⟩
theorem us4(h:us.length=4): ∃a b c d,us=[a,b,c,d]:=match us,h with | [a,b,c,d],_=>⟨a,b,c,d,rfl⟩
section
end
theorem Jk.okE(h:Jk n x)(hn:n<=60:=by decide): okE x=true:=by
 unfold L2.okE;rw[h.nx,h.can,Hb (Oe h.dep hn)];rfl
theorem C4{i: Int}{ns: LI0}: Zy g (.int i) (.lst (ns.map PV.int))=.ok (.bl (g (decide (i∈ns)))):=by
 have hall:∀ns:LI0,(okE (.int i)&&(ns.map PV.int).all okE)=true:=fun ns=>by
  rw[(ZI i).okE,Bool.true_and,Hg];intro x hx;obtain⟨q,_,rfl⟩:=Ze.mp hx;exact(ZI q).okE
 simp only[Zy];rw[Ba (hall ns)];congr 3
 induction ns with
 |nil=>simp
 |cons q M ih =>
  rw[Dd,Gr,ih];simp only[PV.dat,PyData.eqv];by_cases c:q=i
  ·simp[c]
  ·have:¬i=q:=fun z=>c z.symm
   simp[c,this]
section
end
noncomputable def ZbI(K:ZmM)(ts:List Str):Bool:=ts.all fun n=>match PySem.W.nsIn K Pg n with
 |some (some (.ref C))=>PySem.W.kitOne K (.type "NoneType") (.ref C)==some false
 |_=>false
theorem Uo{K:ZmM}{ns ts:List Str}{ss:List (Str×Str×Bool)}{c:Str}{L:List (Str×Bool)}(h:Pp K ns ss=true)(ht:ZbI K ts=true)(hc:c∈ts)(hL:(L.all fun p=>ns.contains p.1&&ss.contains (p.1,c,p.2))=true):∃C,Ig K c C/\M1 K (.ref C) L:=by
 have:=Hg.mp ht c hc
 split at this
 ·rename_i C e
  have e2:=beq_iff_eq.mp this;refine⟨C,e,rfl,e2,fun n b hb D hD=>?_⟩;have:=Hg.mp hL _ (EK hb);simp only[Bool.and_eq_true,Et] at this;obtain⟨D',d1,_,d2,_⟩:=Ct h this.1;obtain rfl:=d1.inj hD;exact⟨d2,(BO h this.2 hD e).1⟩
 ·cases this
abbrev Xd:=Ja×LI0
section
end
def Fc(t:LI0):PV:=.lst (t.map PV.int)
theorem lstsQ_inj{a b:LI1}(h:a.map Fc=b.map Fc):a=b:=by
 induction a generalizing b with
 |nil=>cases b with
  |nil=>rfl
  |cons x b=>simp at h
 |cons x a ih=>cases b with
  |nil=>simp at h
  |cons y b =>
   simp only[Dd,List.cons.injEq,Fc,PV.lst.injEq] at h;rw[Sg h.1,ih h.2]
section
variable {K:ZmM}{H:Hp}
theorem Zbq:∀{xs:LI5}{vs:List V}{G:LI2}{n:Nat}{z:PV},Trees K H xs vs G->xs[n]?=some z->∃u G',vs[n]?=some u/\Pb K H z u G'/\∀a∈G',a∈G
 |[],_,_,n,z,_,e=>by simp at e
 |x::xs,vs,G,n,z,h,e=>by
  obtain⟨v,r,G1,G2,rfl,h1,h2,h3,rfl⟩:=h;cases n with
  |zero=>simp at e;subst e;exact⟨v,G1,by simp,h1,fun a ha=>Bf _ ha⟩
  |succ n =>
   obtain⟨u,G',e1,e2,e3⟩:=Zbq (n:=n) h2 (by simpa using e);exact⟨u,G',by simpa using e1,e2,fun a ha=>Fe _ (e3 a ha)⟩
theorem Zbr:∀{xs:LI5}{vs:List V}{G:LI2},Trees K H xs vs G->vs.length=xs.length
 |[],_,_,h=>by rw[h.1];rfl
 |x::xs,vs,G,h=>by
  obtain⟨v,r,G1,G2,rfl,h1,h2,h3,rfl⟩:=h;simp[Zbr h2]
theorem ZlT{i: Int}(h:Trees K H xs vs G)(e:Ef xs i=some z): ∃u G',Ef vs i=some u/\Pb K H z u G'/\∀a∈G',a∈G:=by
 unfold Ef at e ⊢;rw[Zbr h];cases hk:Lj xs.length i with
 |none=>rw[hk] at e;cases e
 |some k =>
  rw[hk] at e;obtain⟨u,G',e1,e2,e3⟩:=Zbq (n:=k) h e;exact⟨u,G',e1,e2,e3⟩
end
theorem ZjK(hx:Jk m x)(hy:Jk n y)(h1:m<=64:=by decide)(h2:n<=64:=by decide): Mf g x y=.ok (.bl (g (PyData.eqv x.dat y.dat))):=by
 unfold Mf;rw[hx.ok h1,hy.ok h2,Bool.and_self,Ba rfl]
theorem LU[DecidableEq α](h:∀a b,PyData.eqv (q a).dat (q b).dat=decide (a=b)): ∀L M:List α,PyData.eqvAll (PV.dats (L.map q)) (PV.dats (M.map q))=decide (L=M)
 |[],[]=>by simp[PV.dats,PyData.eqvAll]
 |[],b::M=>by simp[PV.dats,PyData.eqvAll]
 |a::L,[]=>by simp[PV.dats,PyData.eqvAll]
 |a::L,b::M=>by
  simp only[Dd,PV.dats,PyData.eqvAll,h a b,LU h L M,List.cons.injEq];by_cases c:a=b<;>by_cases d:L=M<;>simp[c,d]
theorem ZfT(a b:LI0):PyData.eqv (Fc a).dat (Fc b).dat=decide (a=b):=by
 simp only[Fc,PV.dat,JI,PyData.eqv,OI]
theorem WT(M:LI1):Jk 2 (.lst (M.map Fc)):=RT fun x hx=>by
 obtain⟨q,_,rfl⟩:=Ze.mp hx;exact Zff q
theorem ZjN(L M:LI1): Mf g (.lst (L.map Fc)) (.lst (M.map Fc))=.ok (.bl (g (decide (L=M)))):=by
 rw[ZjK (WT L) (WT M)];simp only[PV.dat,PyData.eqv,LU ZfT]
theorem RI{α:Type}{f:PV->Rr (Option PV)}{q:α->PV}{p:α->Bool}{g:α->PV}{L:List α}(h:∀x∈L,f (q x)=.ok (if p x=true then some (g x) else none)):Ck f (L.map q)=.ok ((L.filter p).map g):=by
 induction L with
 |nil=>rfl
 |cons a l ih =>
  simp only[Dd,Ck,h a (by simp),Rr.bind_ok,ih fun z hz=>h z (by simp[hz])];cases hp:p a<;>simp[hp,List.filter_cons]
noncomputable def minus(H:Hp)(G:LI2):Hp:=fun a=>if a∈G then none else H a
theorem TX(h:a∈G): minus H G a=none:=Ba h
theorem Ol(h:a ∉ G): minus H G a=H a:=Aa h
theorem ZiX: Ia (minus H G) H:=fun a o h=>by
 unfold minus at h
 split at h
 ·cases h
 ·exact h
theorem Rd.minus(h:Rd H a u)(n:a ∉ G): Rd (minus H G) a u:=by
 rcases h with h|⟨o,h⟩
 ·exact .inl (by rw[Ol n];exact h)
 ·exact .inr ⟨o,by rw[Ol n];exact h⟩
theorem Im.minus{K:ZmM}{H:Hp}{G:LI2}{a:Ja}{k:HO}(hG:∀b∈G,∃vs:Qn,H b=some vs.1)(h:Im K H a k):Im K (minus H G) a k:=by
 refine⟨?_,h.2⟩;rw[Ol fun z=>?_]
 ·exact h.1
 ·obtain⟨vs,q⟩:=hG a z
  exact JK vs.2 h.2 (by rw[h.1] at q;exact Option.some.inj q)
section
variable {K:ZmM}{B:Ja->Prop}{H0 H H':Hp}{σ:St}{Γ:List Md}{ρ:LI5}{F:Nat->LI2}
theorem Ag.lost(A:Ag K B H0 H σ Γ ρ F (G++[]))(s:Ia (minus H G) H'): Ag K B H0 H' σ Γ ρ F []:=by
 have hG:∀b∈G,∃vs:Qn,H b=some vs.1:=fun b hb=>A.liveR b (by simp[hb]);refine⟨fun a o h=>s a o ?_,A.own,A.young,by simp,fun i a ha=>?_,by simp,A.disj,by simp,A.lenS,A.lenR,fun i=>?_⟩
 ·rw[Ol (fun z=>by have:=A.youngR a (by simp[z]);rw[h] at this;cases this)]
  exact A.same a o h
 ·obtain⟨vs,q⟩:=A.live i a ha
  exact⟨vs,s _ _ (by rw[Ol (fun z=>A.disjR i a ha (by simp[z]))];exact q)⟩
 ·refine(A.slot i).mono (fun a vs n r=>⟨(r.minus (fun z=>n.2.1 (by simp[z]))).same s,n.1,by simp,n.2.2⟩) (fun a vs r=>s.im (r.minus hG)) fun a ha vs q=>s _ _ (by rw[Ol (fun z=>A.disjR i a ha (by simp[z]))];exact q)
end
noncomputable def frz(m:Md):Md:=if m=.O\/m=.T then .S else m
section
end
end L2
namespace HL
open PySem PyProof.Rows
section
open PySem.SeqAt
open PySem.AutoSeq1 (wpAny_loadPart')
open PySem.MeetsSeq PySem.MeetsSeq2 PySem.MeetsSeq3 SeqRoads2
end
section
end
end HL
namespace L2
open PySem PySem.Spec PyProof.Rows
section
end
def G0(K:ZmM)(B:Ja->Prop)(H0 H:Hp)(σ:St)(Γb:List Md)(ρ:LI5)(L v:Nat)(a:Ja)(vs:List V)(xs:LI5)(G Gx:LI2):Prop:=
 Ag K B H0 H σ Γb ρ (fun _=>[]) (a::(G++Gx))/\σ[L]?=some (some (.ref a))/\gv L ρ=.lst xs/\H a=some (.lst vs)/\Trees K H xs vs G/\a ∉ G/\∃w,σ[v]?=some (some w)/\vs[0]?=some w/\xs[0]?=some (gv v ρ)
section
end
theorem SI{α β:Type}{f:α->Rr β}:∀{xs:List α},Ck (fun x=>(f x).bind fun y=>.ok (some y)) xs=Fg f xs
 |[]=>rfl
 |x::xs=>by
  simp only[Ck,Fg,Rr.assoc,SI (xs:=xs),Rr.bind_ok,CF,XE]
section
variable {K:ZmM}{EX:PX->Hp->Prop}{Γ Γ1:List Md}{te:TE}{fe:LI5->Rr PV}
theorem Am{fi: LI5->Rr LI5}(hi:Q1 K EX Γ Γ1 wi fi)(he:DE K EX (Γ1++[.S]) (Γ1++[.S]) .F te fe):
  DE K EX Γ Γ1 .F (Hz wi Gz N5 te) (fun ρ=>(fi ρ).bind fun xs=>(lenM xs).bind fun _=>(Fg (fun x=>fe (ρ++[x])) xs).bind fun ys=>.ok (.lst ys)):=by
 have h:=Lu (k:=1) hi Xw NI he;simp only[Rr.bind_ok,if_true,SI] at h;exact h
variable {X:Cx}{scope:Scope}{x y:Str}{elt iter:Expr}{pos px py spos:Pos}{wi:TI}{i:Nat}
theorem Ep(hi:PI X (.Name x px) iter wi)(he:∀C s₂ H₂ ex,PE (Zf X scope [x] C ex s₂ H₂) elt te)(hNd:X.N.Nodup)(hc:X.calm=true)(hclos:F0 scope X.env=pure (Jh scope X.env):=by rfl)(hchk:Hq X.N X.env.scope scope [x]=true:=by rfl)(hs:∀x,K0 iter X.env x=pure x:=by exact fun _=>rfl) :
  PE X (.ListComp elt [⟨.Name x px,iter,[],0⟩] scope pos) (Hz wi Gz N5 te):=Ay hi (Ev hNd hchk) (fun _ _ _ _=>WA) he Wu hNd hc hclos hchk hs
theorem GZ(hN:X.N.Nodup)(hi:X.N[i]?=some y)(hit:PI X (.Name x px) iter wi)(he:∀C s₂ H₂ ex,PE (Zf X scope [x] C ex s₂ H₂) elt te)(hc:X.calm=true)(hsw:swapsWith (.ListComp elt [⟨.Name x px,iter,[],0⟩] scope pos) (some (.Name y py)) spos.line X.env=pure true:=by rfl)(hy:X.env.scope.names.lookup y=some .local:=by rfl)(hclos:F0 scope X.env=pure (Jh scope X.env):=by rfl)(hchk:Hq X.N X.env.scope scope [x]=true:=by rfl)(hs:∀x,K0 iter X.env x=pure x:=by exact fun _=>rfl) :
  PS X (.Assign [.Name y py] (.ListComp elt [⟨.Name x px,iter,[],0⟩] scope pos) spos) (LN i wi Gz N5 te):=EZ hN hi hit (Ev hN hchk) (fun _ _ _ _=>WA) he Wu hc hsw hy hclos hchk hs
end
section
open Builtin Builtin.Str
end
section
end
def newT(xs:LI5):Rr PV:=if xs.length<=1000000 then .ok (.lst xs) else .bad
section
variable {K:ZmM}{EX:PX->Hp->Prop}{Γ Γ1 Γ2:List Md}{te tb:TE}{f fb:LI5->Rr PV}
theorem QI(ha:DE K EX Γ Γ1 .Z te f)(hb:DE K EX Γ1 Γ2 .Z tb fb) :
  DE K EX Γ Γ2 .T (Ff (JM K) te tb) (fun ρ=>(f ρ).bind fun x=>(fb ρ).bind fun y=>(asL x).bind fun xs=>(asL y).bind fun ys=>newT (xs++ys)):=fun B H0 H σ ρ F R Q A d=>by
 refine ha B H0 H σ ρ F R _ A (d.bind.imp (fun x _ d v H1 s1 r1=>?_) fun e q=>q);obtain⟨F1,f1,p1,A1⟩:=r1;refine hb B H0 H1 σ ρ F1 R _ A1 (d.bind.imp (fun y _ d w H2 s2 r2=>?_) fun e q=>q);obtain⟨F2,f2,p2,A2⟩:=r2;have p1':Ya K H2 (NO B F2 R) x v:=Ya.mono (fun a us s r=>⟨r.same s2,s.1,s.2.1,fun i z=>s.2.2 i (f2 i a z)⟩) (fun a us r=>s2.im r) p1;cases x with
 |lst xs =>
  cases y with
  |lst ys =>
   obtain⟨a,vs,rfl,hn,hr⟩:=p1';obtain⟨b,ws,rfl,hn',hr'⟩:=p2;have d:Dn (newT (xs++ys)) _ _:=d;unfold newT at d
   split at d
   ·rename_i hc
    refine⟨a,b,vs,ws,rfl,rfl,S9 hn,S9 hn', ?_,fun p hp=>?_⟩
    ·rw[hr.length,hr'.length,<- Nh];exact Ek hc
    ·exact d _ _ ((s1.trans s2).trans (Ia.new hp)) (Cc.newT (s1.trans s2) (fun i z h=>f1 i z (f2 i z h)) (hr.append hr') A2 hp)
   ·exact d.elim
  |_=>exact d.elim
 |_=>exact d.elim
variable {B:Ja->Prop}{H0 H:Hp}{σ:St}{Γ':List Md}{ρ:LI5}{F:Nat->LI2}{R:LI2}
def MY(x y:PV):Rr PV:=match x,y with
 |.lst xs,.int i=>match Ef xs i with
  |some z=>.ok z
  |none=>.bad
 |_,_=>.bad
theorem Zft(ha:DE K EX Γ Γ1 .F ta' fa')(hb:DE K EX Γ1 Γ2 .A tb fb): DE K EX Γ Γ2 .F (Ff (Jt K) ta' tb) (fun ρ=>(fa' ρ).bind fun x=>(fb ρ).bind fun y=>MY x y):=fun B H0 H σ ρ F R Q A d=>by
 refine ha B H0 H σ ρ F R _ A (d.bind.imp (fun x _ d v H1 s1 r1=>?_) fun e q=>q);obtain⟨F1,f1,G,t1,o1,A1⟩:=r1;refine hb B H0 H1 σ ρ F1 (G++R) _ A1 (d.bind.imp (fun y _ d w H2 s2 r2=>?_) fun e q=>q);obtain⟨F2,f2,p2,A2⟩:=r2;cases x with
 |lst xs =>
  cases y with
  |int i =>
   cases p2;have t2:=t1.same s2;obtain⟨a,vs,G1,rfl,hq,ht,hn,rfl⟩:=t2;unfold MY at d;cases e1:Ef xs i with
   |none=>simp only[e1] at d;exact d.elim
   |some z =>
    simp only[e1] at d;obtain⟨u,G',e2,e3,e4⟩:=ZlT ht e1;exact .inl ⟨a,vs,i,u,rfl,rfl,Uc.of hq,e2,d u H2 (s1.trans s2) ⟨F2,fun i a h=>f1 i a (f2 i a h),G',e3,fun b hb=>o1 b (Fi _ (e4 b hb)),A2.less fun b hb=>by
     rcases Ud.mp hb with z|z
     ·exact Bf _ (Fi _ (e4 b z))
     ·exact Fe _ z⟩⟩
  |_=>exact d.elim
 |_=>exact d.elim
theorem UU(ha:Ge K EX Γ Γ' ta fa): DE K EX Γ Γ' .A (K5 ta) (fun ρ=>(fa ρ).bind mkL):=fun B H0 H σ ρ F R Q A d=>by
 refine ha B H0 H σ ρ F R _ A (d.bind.imp (fun xs _ d vs H1 F1 s1 f1 p1 A1=>?_) fun e q=>q);obtain⟨hl,d⟩:=Dn.mkL d;refine⟨by rw[p1.length];exact Jv hl,fun p hp=>?_⟩;have e:=Ia.new (H:=H1) (o:=.lst vs) hp;exact d _ _ (s1.trans e) ⟨F1,f1,⟨p,vs,rfl,.inl ⟨.inl Hd,trivial⟩,p1.same e⟩,A1.grow e⟩
end
def Pr(l:Ja)(a b c:Int):HO:=.ext fun h=>∃t u v,IsRange h l a b c t u v
def Zab:List V->Hp->VK->Prop:=fun xs H Q=>(∃n,xs=[.int n]/\∀l,H l=none->Q (.ref l) (upd H l (Pr l 0 n 1))) \/
 ∃a b c:Int,xs=[.int a,.int b,.int c]/\c≠0/\c.natAbs<1073741824/\∀l,H l=none->Q (.ref l) (upd H l (Pr l a b c))
section
variable {X:Cx}
theorem Zat{a b c: Int}(e:IsRange h l a b c t u v): Df P w H h l (Pr l a b c):=
 ⟨⟨t,u,v,e⟩,⟨_,e⟩,fun h1 h2 ⟨t,u,v,q⟩ k=>⟨t,u,v,k _ q⟩⟩
theorem Zen:Xf X (.type "range") Zab:=by
 intro Za s σ H xs us Q I r h;have hf:=I.hok.fresh (Cb _);rcases h with ⟨n,rfl,q⟩|⟨a,b,c,rfl,hc,hc2,q⟩
 ·cases r with
  |cons r1 r2 =>
   cases r2;obtain⟨t,rfl⟩:=r1;refine call_range_1 ?_;exact⟨.ref s.heap.objs.size,_,I.laid (a:=s.heap.objs.size) (o:=Pr s.heap.objs.size 0 n 1) (t':=s.toks+1+1) (fun b u e=>Heap.get?_push_of_some _ e) (Cb _) (Zat (IsRange.new ..)),rfl,q _ hf⟩
 ·cases r with
  |cons r1 r2 =>
   cases r2 with
   |cons r2 r3 =>
    cases r3 with
    |cons r3 r4 =>
     cases r4;obtain⟨t,rfl⟩:=r1;obtain⟨u,rfl⟩:=r2;obtain⟨v,rfl⟩:=r3;refine call_range_3 hc ?_ (.inl (PyProof.noPylong_small hc2));exact⟨.ref s.heap.objs.size,_,I.laid (a:=s.heap.objs.size) (o:=Pr s.heap.objs.size a b c) (t':=s.toks) (fun b u e=>Heap.get?_push_of_some _ e) (Cb _) (Zat (IsRange.new ..)),rfl,q _ hf⟩
noncomputable def Sn(a c:Int)(n:Nat):LI0:=(List.range n).map fun(k:Nat)=>a+(k:Int)*c
theorem Zmo{a c:Int}:∀{n:Nat}{us:LI3},us.length=n->(∀(j:Nat) (v:Va),us[j]?=some v->∃t,v=Value.int (a+(j:Int)*c) t)->Ub ((Sn a c n).map V.int) us:=by
 intro n us hl h;have key:∀(us:LI3) (k:Nat),(∀(j:Nat) (v:Va),us[j]?=some v->∃t,v=Value.int (a+((k+j:Nat):Int)*c) t)->Ub (((List.range' k us.length).map fun(k:Nat)=>a+(k:Int)*c).map V.int) us:=by
  intro us
  induction us with
  |nil=>intro k _;exact .nil
  |cons u us ih =>
   intro k h;obtain⟨t,e⟩:=h 0 u rfl;refine .cons ⟨t,by simpa using e⟩ ?_;have:=ih (k+1) (fun j v hj=>by
    obtain⟨t,e⟩:=h (j+1) v (by simpa using hj);exact⟨t,by rw[e];congr 3;lia⟩)
   exact this
 have:=key us 0 (fun j v hj=>by simpa using h j v hj);rw[hl,<- List.range_eq_range'] at this;exact this
def UM:List V->Hp->VK->Prop:=fun xs H Q=>∃p a b c,xs=[.ref p]/\H p=some (Pr p a b c)/\Builtin.Range.small a b c=true/\0<=Builtin.Range.rangeSize a b c/\Builtin.Range.rangeSize a b c<=1000000 /\
 ∀l,H l=none->Q (.ref l) (upd H l (.lst ((Sn a c (Builtin.Range.rangeSize a b c).toNat).map V.int)))
theorem Zel(hc:X.calm=true):Xf X (.type "list") UM:=by
 intro Za s σ H xs us Q I r h;obtain⟨p,a,b,c,rfl,hp,hs,h0,h1,q⟩:=h;cases r with
 |cons r1 r2 =>
  cases r2;cases r1;obtain⟨⟨t,u,v,hr⟩,_⟩:=I.hok p _ hp;have hf:=I.hok.fresh (Cb _);refine call_list_range (n:=(Builtin.Range.rangeSize a b c).toNat) (I.ok.hd hc) hr hs (by lia) (by lia) fun h' tk acc' c' hk hS hacc=>?_;refine⟨.ref s.heap.objs.size,_,I.laid (a:=s.heap.objs.size) (o:=.lst ((Sn a c (Builtin.Range.rangeSize a b c).toNat).map V.int)) (t':=tk) hk (Cb _) ?_,rfl,q _ hf⟩;refine⟨?_,acc'.toList,c',Zmo (by simpa using hacc.1) (fun j v hj=>hacc.2 j v (by simpa using hj)),by simpa using hS⟩;simp only[Lb,Sn,A6];exact Oe (show _<=1000000 by lia) (by decide)
variable {K:ZmM}{B:Ja->Prop}{EX:PX->Hp->Prop}{H0 H H':Hp}{σ:St}{Γ Γ':List Md}{ρ:LI5}{F:Nat->LI2}{R:LI2}{ta:TA}{fa:LI5->Rr LI5}
noncomputable def VL(xs:LI5):Rr PV:=match xs with
 |[.int n]=>if Pn n=true/\n<=1000000 then .ok (.lst ((Sn 0 1 n.toNat).map PV.int)) else .bad
 |[.int a,.int b,.int c]=>if c≠0/\c.natAbs<1073741824/\Builtin.Range.small a b c=true/\0<=Builtin.Range.rangeSize a b c/\Builtin.Range.rangeSize a b c<=1000000 then .ok (.lst ((Sn a c (Builtin.Range.rangeSize a b c).toNat).map PV.int)) else .bad
 |_=>.bad
theorem Zkg{n:Int}(h:Pn n=true/\n<=1000000):VL [.int n]=.ok (.lst ((Sn 0 1 n.toNat).map PV.int)):=Ba h
theorem Zap: ∀{ns:LI0},Reps K H S (ns.map PV.int) (ns.map V.int)
 |[]=>rfl
 |n::ns=>⟨.int n,ns.map V.int,rfl,rfl,Zap⟩
theorem Zlx{n:Int}:(Builtin.Range.rangeSize 0 n 1).toNat=n.toNat/\0<=Builtin.Range.rangeSize 0 n 1/\(n<=1000000->Builtin.Range.rangeSize 0 n 1<=1000000):=by
 rw[rangeSize_one]
 split<;>lia
theorem Zfw(ha:Ge K EX Γ Γ' ta fa):DE K EX Γ Γ' .F (Ci UM (Di (Ci Zab ta) Rj)) (fun ρ=>(fa ρ).bind VL):=fun B H0 H σ ρ F R Q A d=>by
 refine ha B H0 H σ ρ F R _ A (d.bind.imp (fun xs _ d vs H1 F1 s1 f1 p1 A1=>?_) fun e q=>q);have fin:∀(a b c:Int),Builtin.Range.small a b c=true->0<=Builtin.Range.rangeSize a b c->Builtin.Range.rangeSize a b c<=1000000 ->
   (∀v H',Ia H H'->Cc K B H0 H σ Γ' ρ F R .F (.lst ((Sn a c (Builtin.Range.rangeSize a b c).toNat).map PV.int)) v H'->Q v H') ->
   ∀l,H1 l=none->Rj σ (upd H1 l (Pr l a b c)) fun us H2=>UM (.ref l::us) H2 Q:=fun a b c h1 h2 h3 d l hl=>by
  have e:=Ia.new (H:=H1) (o:=Pr l a b c) hl;refine⟨l,a,b,c,rfl,Hd,h1,h2,h3,fun l2 hl2=>d _ _ ((s1.trans e).trans (Ia.new hl2)) (Cc.newP (s1.trans e) f1 (S:=fun _=>True) Zap (PV.flats_ints _) (A1.grow e) hl2)⟩
 unfold VL at d
 split at d
 ·rename_i n _
  split at d
  ·rename_i hc
   obtain⟨v,rfl,p⟩:=Ik p1;cases p;obtain⟨z1,z2,z3⟩:=Zlx (n:=n);unfold Pn at hc;rw[decide_eq_true_eq] at hc;refine .inl ⟨n,rfl,fin 0 n 1 (small_one (by decide) (by decide) hc.1.1 hc.1.2) z2 (z3 hc.2) (fun v H' s r=>d v H' s (by rw[z1] at r;exact r))⟩
  ·exact d.elim
 ·rename_i a b c _
  split at d
  ·rename_i hc
   obtain⟨va,r1,rfl,p,vb,r2,rfl,p',vc,r3,rfl,p'',e⟩:=p1;cases p;cases p';cases p'';cases e;exact .inr ⟨a,b,c,rfl,hc.1,hc.2.1,fin a b c hc.2.2.1 hc.2.2.2.1 hc.2.2.2.2 d⟩
  ·exact d.elim
 ·exact d.elim
end
section
variable {κ:Type} [DecidableEq κ]
noncomputable def Jo(Ra:List (κ×V))(k:κ):Option V:=(Ra.find? fun kv=>decide (kv.1=k)).map (·.2)
noncomputable def Km(Ra:List (κ×V))(k:κ)(v:V):List (κ×V):=
 if (Ra.any fun kv=>decide (kv.1=k))=true then Ra.map (fun kv=>if kv.1=k then (kv.1,v) else kv) else Ra++[(k,v)]
theorem YD{p: κ×V}(e:p.1=k): Jo (p::r) k=some p.2:=by simp[Jo,Oz,e]
theorem XD{p: κ×V}(e:¬p.1=k): Jo (p::r) k=Jo r k:=by simp[Jo,Oz,e]
theorem Zby(k:κ):∀Ra:List (κ×V),(Ra.any fun kv=>decide (kv.1=k))=(Jo Ra k).isSome
 |[]=>rfl
 |p::r=>by
  rw[Gr];by_cases e:p.1=k
  ·simp only[YD e,Hb e,Bool.true_or,Option.isSome_some]
  ·rw[XD e,Tb e,Bool.false_or];exact Zby k r
theorem VX(Ra:List (κ×V))(k:κ)(v:V):(Km Ra k v).length<=Ra.length+1:=by
 unfold Km
 split
 ·rw[Lb];lia
 ·rw[Nh,Dh,Rz];lia
theorem Po.isSome_eq(r:Po o u): o.isSome=u.isSome:=by
 cases o with
 |none=>cases u with
  |none=>rfl
  |some _=>exact(show False from r).elim
 |some _=>cases u with
  |none=>exact(show False from r).elim
  |some _=>rfl
theorem KV.val(r:KV Ra vs)(k:κ): Po (Jo Ra k) (valueAt vs k):=by
 unfold KV at r
 induction r with
 |nil=>exact True.intro
 |@cons p q ps qs h t ih =>
  obtain⟨h1,h2⟩:=h;by_cases e:p.1=k
  ·have e':q.1=k:=h1.symm.trans e
   have b:valueAt (q::qs) k=some q.2:=by simp[valueAt,Oz,e']
   rw[YD e,b];exact h2
  ·have e':¬q.1=k:=fun z=>e (h1.trans z)
   have b:valueAt (q::qs) k=valueAt qs k:=by simp[valueAt,Oz,e']
   rw[XD e,b];exact ih
theorem KV.any(r:KV Ra vs)(k:κ): (Ra.any fun kv=>decide (kv.1=k))=vs.any fun kv=>decide (kv.1=k):=by
 unfold KV at r
 induction r with
 |nil=>rfl
 |cons h t ih=>rw[Gr,Gr,ih,h.1]
theorem KV.repl(r:KV Ra vs)(k:κ)(ry:Nb y u):
  KV (Ra.map fun kv=>if kv.1=k then (kv.1,y) else kv) (vs.map fun kv=>if kv.1=k then (kv.1,u) else kv):=by
 unfold KV at r ⊢
 induction r with
 |nil=>exact .nil
 |@cons p q ps qs h t ih =>
  rw[Dd,Dd];refine .cons ?_ ih;obtain⟨h1,h2⟩:=h;by_cases e:p.1=k
  ·rw[Ba e,Ba (h1.symm.trans e)];exact⟨h1,ry⟩
  ·rw[Aa e,Aa (fun z=>e (h1.trans z))];exact⟨h1,h2⟩
theorem KV.put(r:KV Ra vs)(k:κ)(ry:Nb y u): KV (Km Ra k y) (stored vs k u):=by
 unfold Km stored;rw[r.any k];by_cases e:(vs.any fun kv=>decide (kv.1=k))=true
 ·rw[Ba e,Ba e];exact r.repl k ry
 ·rw[Aa e,Aa e];exact Paired.snoc r ⟨rfl,ry⟩
theorem KV.length(r:KV Ra vs): Ra.length=vs.length:=Paired.length r
end
theorem B9(r:Nb (kV k) u): (Sk P w).is k u=true:=by
 cases k with
 |inl i=>obtain⟨t,e⟩:=(show ∃t,u=Value.int i t from r);subst e;exact ZiY P w i t
 |inr x=>obtain⟨t,e⟩:=(show ∃t,u=Value.str x t from r);subst e;exact ZiZ P w x t
theorem LW: ∀{ks:List Sb}{us:LI3},Ub (ks.map kV) us->ItemsAre (Sk P w) ks us
 |[],_,r=>by rw[Zw] at r;cases r;exact .nil
 |k::ks,_,r=>by
  rw[Dd] at r;cases r with
  |cons h t=>exact .cons (B9 h) (LW t)
abbrev KT(H:Hp):List (List Sb×V)->List (List Sb×Ja×Va)->Prop:=Paired fun p q=>p.1=q.1/\H q.2.1=some (.tup (p.1.map kV))/\Nb p.2 q.2.2
theorem KT.val(r:KT H Ra xs)(k:List Sb): Po (Jo Ra k) ((atKey xs k).map (·.2)):=by
 induction r with
 |nil=>exact True.intro
 |@cons p q ps qs h t ih =>
  obtain⟨h1,_,h2⟩:=h;by_cases e:p.1=k
  ·have e':q.1=k:=h1.symm.trans e
   have b:atKey (q::qs) k=some q.2:=by simp[atKey,Oz,e']
   rw[YD e,b];exact h2
  ·have e':¬q.1=k:=fun z=>e (h1.trans z)
   have b:atKey (q::qs) k=atKey qs k:=by simp[atKey,Oz,e']
   rw[XD e,b];exact ih
theorem KT.repl(r:KT H Ra xs)(k:List Sb)(ry:Nb y u):
  KT H (Ra.map fun kv=>if kv.1=k then (kv.1,y) else kv) (xs.map (putAt k u)):=by
 induction r with
 |nil=>exact .nil
 |@cons p q ps qs h t ih =>
  rw[Dd,Dd];refine .cons ?_ ih;obtain⟨h1,h2,h3⟩:=h;unfold putAt;by_cases e:p.1=k
  ·rw[Ba e,Ba (h1.symm.trans e)];exact⟨h1,h2,ry⟩
  ·rw[Aa e,Aa (fun z=>e (h1.trans z))];exact⟨h1,h2,h3⟩
theorem KT.put(r:KT H Ra xs)(k:List Sb)(hb:H b=some (.tup (k.map kV)))(ry:Nb y u):
  KT H (Km Ra k y) (storedH xs k b u):=by
 have e:(Ra.any fun kv=>decide (kv.1=k))=(atKey xs k).isSome:=by
  rw[Zby,(r.val k).isSome_eq,Option.isSome_map]
 unfold Km storedH;rw[e];by_cases q:(atKey xs k).isSome=true
 ·rw[Ba q,Ba q];exact r.repl k ry
 ·rw[Aa q,Aa q];exact Paired.snoc r ⟨rfl,hb,ry⟩
theorem KT.keeps(r:KT H Ra xs)(ht:∀b ys,H b=some (.tup ys)->H' b=some (.tup ys)): KT H' Ra xs:=
 Paired.mapP r fun _ _ z=>⟨z.1,ht _ _ z.2.1,z.2.2⟩
section
variable {P:Qc}{w:Xb}{H:Hp}{h:Heap}{a:Ja}
theorem EB(ok:Pe P w H h)(e:Rd H a u): Df P w H h a u:=e.ok ok
theorem H8(ok:Pe P w H h)(e:Rd H a (.dK Ra)): Ra.length<=Rb/\(a==Yj)=false/\∃vs,KV Ra vs/\h.DictOf (Sk P w) a vs:=
 show Df P w H h a (.dK Ra) from EB ok e
theorem ZfE(ok:Pe P w H h)(e:H a=some (.dK Ra)): Ra.length<=Rb/\(a==Yj)=false/\∃vs,KV Ra vs/\h.DictOf (Sk P w) a vs:=H8 ok (.inl e)
theorem T3(ok:Pe P w H h)(e:H a=some (.tup (ks.map kV))): (tupleKind (Sk P w)).is h ks a:=by
 obtain⟨_,its,r,o,h1,h2,n,h3⟩:=(show Df P w H h a (.tup (ks.map kV)) from ok a _ e)
 exact⟨o,its.toArray,n,h1,h2,h3,by simpa using LW r⟩
theorem M8(ok:Pe P w H h)(e:Rd H a (.dT Ra)): Ra.length<=Rb/\(a==Yj)=false /\
  ∃xs,KT H Ra xs/\h.DictOfH (tupleKind (Sk P w)) a xs:=by
 obtain⟨z,y,xs,r,o,es,ep,h1,h2,h3,h4,h5⟩:=(show Df P w H h a (.dT Ra) from EB ok e)
 refine⟨z,y,xs,r,o,es,ep,h1,h2,h3,h4,fun x hx=>?_,h5⟩;have all:∀{l:List (List Sb×V)}{m:List (List Sb×Ja×Va)},KT H l m->∀x∈m,(tupleKind (Sk P w)).is h x.1 x.2.1:=by
  intro l m q
  induction q with
  |nil=>intro x hx;exact nomatch hx
  |@cons p q ps qs hq t ih =>
   intro x hx;rcases Lc.mp hx with e|hx
   ·subst e
    exact T3 ok (by rw[<- hq.1];exact hq.2.1)
   ·exact ih x hx
 exact all r x hx
theorem IU(ok:Pe P w H h)(e:H a=some (.dT Ra)): Ra.length<=Rb/\(a==Yj)=false /\
  ∃xs,KT H Ra xs/\h.DictOfH (tupleKind (Sk P w)) a xs:=M8 ok (.inl e)
end
def Gw(H:Hp)(a:Ja)(y:V)(r:Option V):Prop:=
 (∃Ra k,Rd H a (.dK Ra)/\y=kV k/\r=Jo Ra k)\/∃Ra k b,Rd H a (.dT Ra)/\y=.ref b/\H b=some (.tup (k.map kV))/\r=Jo Ra k
def WP(H:Hp)(a:Ja)(y v:V)(H':Hp):Prop:=
 (∃Ra k,H a=some (.dK Ra)/\y=kV k/\Ra.length<Rb/\H'=upd H a (.dK (Km Ra k v))) \/
 ∃Ra k b,H a=some (.dT Ra)/\y=.ref b/\H b=some (.tup (k.map kV))/\Ra.length<Rb/\H'=upd H a (.dT (Km Ra k v))
section
variable {X:Cx}{Za:List (Ja×Obj)}{σ:St}{H:Hp}{s:Ha}{a:Ja}{y v:V}{u r:Va}{o:Option V}{A:Qe}{E:Va->Ha->Prop}
theorem Da.big(I:Da X Za σ H s):Yj<s.heap.objs.size:=by
 have h:Pg<s.heap.objs.size:=(I.mod.glob.keeps I.bk).lt;exact Nat.lt_trans (by decide) h
theorem ZeJ(hu:A.units+1<cLine)(I:Da X Za σ H s)(g:Gw H a y (some v))(ry:Nb y u)(h:∀w' s',Da X Za σ H s'->Nb v w'->Q w' s'):
  Sa (La X.prog X.w) A (getItem (.ref a) u) Q E s:=by
 rcases g with ⟨Ra,k,e,ey,l⟩|⟨Ra,k,b,e,ey,eb,l⟩
 ·subst ey
  obtain⟨z,hd,vs,rel,dd⟩:=H8 I.hok e;obtain⟨w',hw,rw'⟩:=Po.some_of (v:=v) (o:=valueAt vs k) (by rw[l];exact rel.val k);exact wpAny_getItem_of (B9 ry) dd.mapOf hw (h w' _ (I.tok _) rw')
 ·subst ey
  cases (show u=Value.ref b from ry);obtain⟨z,hd,xs,rel,dd⟩:=M8 I.hok e;obtain⟨w',hw,rw'⟩:=Po.some_of (v:=v) (o:=(atKey xs k).map (·.2)) (by rw[l];exact rel.val k);obtain⟨p,hp,hp2⟩:=BF.mp hw;refine wpAny_getItem_heap (FP hu) (T3 I.hok eb) dd hp ?_;rw[hp2];exact h w' _ (I.tok _) rw'
theorem ZeT(hu:A.units+1<cLine)(I:Da X Za σ H s)(g:Gw H a y o)(ry:Nb y u)(h:∀s',Da X Za σ H s'->Q (.bool (!o.isSome)) s'):
  Sa (La X.prog X.w) A (Xl .NotIn u (.ref a)) Q E s:=by
 rcases g with ⟨Ra,k,e,ey,l⟩|⟨Ra,k,b,e,ey,eb,l⟩
 ·subst ey
  obtain⟨z,hd,vs,rel,dd⟩:=H8 I.hok e;refine wpAny_notIn_of (B9 ry) hd dd.mapOf ?_;rw[<- (rel.val k).isSome_eq,<- l];exact h _ (I.tok _)
 ·subst ey
  cases (show u=Value.ref b from ry);obtain⟨z,hd,xs,rel,dd⟩:=M8 I.hok e;refine wpAny_notIn_heap (FP hu) (T3 I.hok eb) hd dd ?_;have q:=(rel.val k).isSome_eq;rw[Option.isSome_map] at q;rw[<- q,<- l];exact h _ (I.tok _)
theorem YH(I:Da X Za σ H s)(mu:X1 (H a))(hs:Heap.SameBut a s.heap h')(he:∃q,h'.get? a=some q)(new:Df X.prog X.w (upd H a ob) h' a ob):
  Da X Za σ (upd H a ob) { s with heap:=h',toks:=t' }:=
 I.write (x:=a) (e:=a) mu (.inl rfl) (fun b q hb z=>(hs.2 b hb).trans z) he new
theorem ZfD(z:Ra.length<=Rb)(hd:(a==Yj)=false)(rel:KV Ra vs)(dd:h'.DictOf (Sk P w) a vs):
  Df P w H' h' a (.dK Ra):=⟨z,hd,vs,rel,dd⟩
theorem ZeW(hu:A.units+1<cLine)(I:Da X Za σ H s)(g:WP H a y v H')(ry:Nb y u)(rv:Nb v r)(h:∀s',Da X Za σ H' s'->Q () s'):
  Sa (La X.prog X.w) A (setItem (.ref a) u r) Q E s:=by
 rcases g with ⟨Ra,k,e,ey,l,eH⟩|⟨Ra,k,b,e,ey,eb,l,eH⟩
 ·subst ey eH
  obtain⟨z,hd,vs,rel,dd⟩:=ZfE I.hok e;have hz:vs.length<=Rb:=by rw[<- rel.length];exact z
  have hl:(Km Ra k v).length<=Rb:=by have:=VX Ra k v;lia
  refine wpAny_setItem_pairs (hsz:=hz) (B9 ry) dd fun h' dd' hs=>h _ ?_;have he:∃q,h'.get? a=some q:=let ⟨q,_,_,hq,_⟩:=dd';⟨q,hq⟩;exact YH I (by rw[e];exact True.intro) hs he (ZfD hl hd (rel.put k rv) dd')
 ·subst ey eH
  cases (show u=Value.ref b from ry);obtain⟨z,hd,xs,rel,dd⟩:=IU I.hok e;have hz:xs.length<=Rb:=by rw[<- Paired.length rel];exact z
  have hl:(Km Ra k v).length<=Rb:=by have:=VX Ra k v;lia
  refine wpAny_setItem_heap (hsz:=hz) (FP hu) (T3 I.hok eb) dd fun h' dd' hs=>h _ ?_;obtain⟨q,es,ep,hq,h2,h3,h4,_,h5⟩:=dd';refine YH I (by rw[e];exact True.intro) hs ⟨q,hq⟩ ⟨hl,hd,_,(rel.put k eb rv).keeps fun c ys ec=>?_,q,es,ep,hq,h2,h3,h4,h5⟩;rw[Ab (IK ec e (fun z=>nomatch z))];exact ec
end
def XQ(i:Expr):Prop:=∀ov iv,subscripted i false ov iv=operate [ov,iv] (getItem ov iv)
theorem ZlI{prog:Qc}{w:Xb}{A:Qe}{E:Va->Ha->Prop}{s:Ha}{env:Env}{value slice:Expr}{pos:Pos}{T id:String}{Q:Va->Ha->Prop}(hl:typeLookup (.type T) "__getitem__"=pure (some (.builtin id)))(hs:XQ slice)(h:Sa (La prog w) A (eval value env) (fun o s₁=>Sa (La prog w) A (eval slice env) (fun i s₂=>s₂.TypeIs o T/\Sa (La prog w) A (getItem o i) Q E s₂) E s₁) E s) :
  Sa (La prog w) A (eval (.Subscript value slice pos) env) Q E s:=by
 refine Subscript_ (Cf h (fun o s₁ h₁=>Cf h₁ (fun i s₂ h₂=>?_) fun _ _ x=>x) fun _ _ x=>x);obtain⟨hT,h₂⟩:=h₂;unfold subscriptTail;refine Ka ?_;rw[getitemInPython_of_ne hT.not_modules];refine Ka (wpAny_specialOf hT hl ?_);have fin:Sa (La prog w) A (subscripted slice false o i) (fun r s₃=>Sa (La prog w) A (letTemporaryGo value o r >>= fun _=>pure r) Q E s₃) E s₂:=by
  rw[hs o i];exact wpAny_operating (Cf h₂ (fun r s₃ h₃=>Ka (wpAny_letTemporaryGo (Mb h₃))) fun _ _ x=>x)
 first
  |exact Mb (Ka fin)
  |exact Ka (Mb (Ka fin))
  |exact Ka fin
theorem ZfC(I:Da X Za σ H s)(g:Gw H a y o): s.TypeIs (.ref a) "dict":=by
 rcases g with ⟨Ra,k,e,_,_⟩|⟨Ra,k,b,e,_,_,_⟩
 ·obtain⟨_,_,vs,_,dd⟩:=H8 I.hok e
  exact dd.typeIs
 ·obtain⟨_,_,xs,_,dd⟩:=M8 I.hok e
  exact dd.typeIs
def ZaQ(td ty:TE):TE:=fun σ H Q=>td σ H fun x H1=>ty σ H1 fun y H2=>∃a v,x=.ref a/\Gw H2 a y (some v)/\Q v H2
def ZaS(ty td:TE):TE:=fun σ H Q=>ty σ H fun y H1=>td σ H1 fun x H2=>∃a o,x=.ref a/\Gw H2 a y o/\Q (.bl (!o.isSome)) H2
def Zau(td ty tv:TE):TS:=fun D σ H=>tv σ H fun v H1=>td σ H1 fun x H2=>ty σ H2 fun y H3=>∃a H4,x=.ref a/\WP H3 a y v H4/\D.nx σ H4
section
variable {X:Cx}{o i value:Expr}{pos pos':Pos}{td ty tv:TE}
theorem Hv(hu:X.A.units+1<cLine)(ho:PE X o td)(hi:PE X i ty)(hs:XQ i):PE X (.Subscript o i pos) (ZaQ td ty):=by
 intro Za s σ H Q I h;refine ZlI PySem.F.slot_dict_getitem.lookup hs (Db (ho Za s σ H _ I h) fun u s1 ⟨x,H1,I1,rx,q1⟩=>Db (hi Za s1 σ H1 _ I1 q1) fun iv s2 ⟨y,H2,I2,ry,a,v,ex,g,q2⟩=>?_);subst ex;obtain rfl:u=Value.ref a:=rx;exact⟨ZfC I2 g,ZeJ hu I2 g ry fun w' s3 I3 rw'=>⟨v,H2,I3,rw',q2⟩⟩
theorem Zkw(hu:X.A.units+1<cLine)(hi:PE X i ty)(ho:PE X o td):PC X .NotIn i o (ZaS ty td):=by
 intro Za s σ H Q I h;refine Db (hi Za s σ H _ I h) fun iv s1 ⟨y,H1,I1,ry,q1⟩=>Db (ho Za s1 σ H1 _ I1 q1) fun u s2 ⟨x,H2,I2,rx,a,ov,ex,g,q2⟩=>?_;subst ex;obtain rfl:u=Value.ref a:=rx;exact ZeT hu I2 g ry fun s3 I3=>⟨.bl (!ov.isSome),H2,I3,rfl,q2⟩
theorem DZ(hu:X.A.units+1<cLine)(ho:PE X o td)(hi:PE X i ty)(hv:PE X value tv)(hs:swapsWith value (some (.Subscript o i pos')) pos.line X.env=pure false) :
  PS X (.Assign [.Subscript o i pos'] value pos) (Zau td ty tv):=by
 intro Za s σ H D I h;refine wpAny_Assign_Subscript (Db (hv Za s σ H _ I h) fun r s1 ⟨v,H1,I1,rv,q1⟩=>Db (ho Za s1 σ H1 _ I1 q1) fun u s2 ⟨x,H2,I2,rx,q2⟩=>Db (hi Za s2 σ H2 _ I2 q2) fun iv s3 ⟨y,H3,I3,ry,a,H4,ex,g,q3⟩=>?_) hs;subst ex;obtain rfl:u=Value.ref a:=rx;exact ZeW hu I3 g ry rv fun s4 I4=>⟨σ,H4,I4,q3⟩
end
theorem HU(h:Heap)(hb:Yj<h.objs.size): Df P w H (h.push { cls:=.type "dict",data:=.dict #[] }) h.objs.size (.dT []):=
 ⟨Og _,beq_eq_false_iff_ne.mpr (Ne.symm (Vf hb)),[],.nil,_,#[],0,Heap.get?_push_size _ rfl,⟨rfl,rfl,rfl⟩,rfl,rfl,List.nodup_nil⟩
def ZaR:TE:=fun _ H Q=>∀p,H p=none->Q (.ref p) (upd H p (.dT []))
section
variable {X:Cx}{pos:Pos}
theorem Zk6:PE X (.Dict [] [] pos) ZaR:=fun Za s σ H Q I h =>
 wpAny_Dict_empty ⟨.ref s.heap.objs.size,_,I.laid (a:=s.heap.objs.size) (o:=.dT []) (t':=s.toks) (fun _ _ q=>Heap.get?_push_of_some _ q) (Cb _) (HU s.heap I.big),rfl,h _ (I.hok.fresh (Cb _))⟩
end
def ND:List (TE×TE)->St->Hp->(List (V×V)->Hp->Prop)->Prop
 |[],_,H,Q=>Q [] H
 |(tk,tv)::r,σ,H,Q=>tk σ H fun x H1=>tv σ H1 fun y H2=>ND r σ H2 fun ps H3=>Q ((x,y)::ps) H3
abbrev VV:List (V×V)->List (Va×Va)->Prop:=Paired fun p q=>Nb p.1 q.1/\Nb p.2 q.2
def FG(X:Cx)(pos:Pos)(keys:List (Option Expr))(values:List Expr)(trs:List (TE×TE)):Prop:=
 ∀(Za:List (Ja×Obj)) (s:Ha) (σ:St) (H:Hp) (Q:List (V×V)->Hp->Prop),Da X Za σ H s->ND trs σ H Q ->
  Sa (La X.prog X.w) X.A (evalPairs (pairTrees keys values X.env pos)) (fun vs s'=>∃ps H',Da X Za σ H' s'/\VV ps vs/\Q ps H') X.xe s
theorem ZkN: FG X pos [] [] []:=fun Za s σ H Q I h=>pairTrees_nil_walk ⟨[],H,I,.nil,h⟩
theorem ZkM(hk:PE X k tk)(hv:PE X v tv)(hr:FG X pos ks vs trs):
  FG X pos (some k::ks) (v::vs) ((tk,tv)::trs):=fun Za s σ H Q I h =>
 pairTrees_cons_walk (Db (hk Za s σ H _ I h) fun u s1 ⟨x,H1,I1,rx,q1⟩=>Db (hv Za s1 σ H1 _ I1 q1) fun w2 s2 ⟨y,H2,I2,ry,q2⟩ =>
  Db (hr Za s2 σ H2 _ I2 q2) fun ws s3 ⟨ps,H3,I3,rel,q3⟩=>⟨(x,y)::ps,H3,I3,.cons ⟨rx,ry⟩ rel,q3⟩)
section
end
noncomputable def Dk:Sb->PV
 |.inl i=>.int i
 |.inr x=>.str x
noncomputable def Ox:PV->Option Sb
 |.int i=>some (.inl i)
 |.str x=>some (.inr x)
 |_=>none
noncomputable def Nq:LI5->Option (List Sb)
 |[]=>some []
 |x::xs=>match Ox x,Nq xs with
  |some k,some ks=>some (k::ks)
  |_,_=>none
theorem OJ(h:Ox x=some k): x=Dk k:=by
 cases x<;>first|(cases h;rfl)|cases h
theorem D9:∀{xs:LI5}{ks:List Sb},Nq xs=some ks->xs=ks.map Dk
 |[],ks,h=>by cases h;rfl
 |x::xs,ks,h=>by
  unfold Nq at h
  split at h
  ·rename_i k ks' h1 h2
   cases h;rw[OJ h1,D9 h2];rfl
  ·cases h
@[simp] theorem ZmL(k:Sb):Ox (Dk k)=some k:=by cases k<;>rfl
@[simp] theorem E9:∀ks:List Sb,Nq (ks.map Dk)=some ks
 |[]=>rfl
 |k::ks=>by simp[Nq,E9 ks]
section
variable {K:ZmM}{H:Hp}{S:Ja->Prop}
theorem EM(h:Ya K H S (Dk k) v): v=kV k:=by cases k<;>exact h
theorem GB:∀{ks:List Sb}{vs:List V},Reps K H S (ks.map Dk) vs->vs=ks.map kV
 |[],_,h=>h
 |k::ks,_,h=>by
  obtain⟨v,r,rfl,h1,h2⟩:=h;rw[EM h1,GB h2];rfl
end
section
variable {κ:Type} [DecidableEq κ] {α:Type}
noncomputable def Ye:List κ->List α->κ->Option α
 |k'::ks,x::xs,k=>if k'=k then some x else Ye ks xs k
 |_,_,_=>none
noncomputable def Ur:List κ->List α->κ->α->List α
 |k'::ks,x::xs,k,y=>(if k'=k then y else x)::Ur ks xs k y
 |_,_,_,_=>[]
noncomputable def CK(k:κ)(ks:List κ):Bool:=decide (k∈ks)
theorem MX{k: κ}(h:CK k ks=false): k ∉ ks:=F6 h
def Fp(ks:List κ)(k:κ):List κ:=if k∈ks then ks else ks++[k]
def Rl(ks:List κ)(xs:List α)(k:κ)(y:α):List α:=if k∈ks then Ur ks xs k y else xs++[y]
theorem Za1:∀{ks:List κ}{xs:List α}{k:κ}{y:α},ks.length=xs.length->(Ur ks xs k y).length=ks.length
 |[],[],_,_,_=>rfl
 |k'::ks,x::xs,k,y,h=>by simp[Ur,Za1 (ks:=ks) (xs:=xs) (k:=k) (y:=y) (by simpa using h)]
 |[],_::_,_,_,h=>by simp at h
 |_::_,[],_,_,h=>by simp at h
theorem LZ{ks: List κ}{xs: List α}(h:ks.length=xs.length): (Fp ks k).length=(Rl ks xs k y).length:=by
 unfold Fp Rl
 split
 ·rw[Za1 h]
 ·simp[h]
theorem YN:∀{ks:List κ}{vs:List V}{k:κ},ks.length=vs.length->Jo (ks.zip vs) k=Ye ks vs k
 |[],[],_,_=>rfl
 |k'::ks,v::vs,k,h=>by
  rw[ZF];unfold Ye;by_cases e:k'=k
  ·rw[YD e,Ba e]
  ·rw[XD e,Aa e,YN (by simpa using h)]
 |[],_::_,_,h=>by simp at h
 |_::_,[],_,h=>by simp at h
theorem SG:∀{ks:List κ}{vs:List V}{k:κ},ks.length=vs.length->(((ks.zip vs).any fun kv=>decide (kv.1=k))=true ↔ k∈ks)
 |[],[],_,_=>by simp
 |k'::ks,v::vs,k,h=>by
  rw[ZF,Gr,Bool.or_eq_true,SG (by simpa using h),Lc,decide_eq_true_eq];exact⟨fun z=>z.imp Eq.symm id,fun z=>z.imp Eq.symm id⟩
 |[],_::_,_,h=>by simp at h
 |_::_,[],_,h=>by simp at h
theorem Za2:∀{ks:List κ}{vs:List V}{k:κ}{y:V},ks.length=vs.length->((ks.zip vs).map fun kv=>if kv.1=k then (kv.1,y) else kv)=ks.zip (Ur ks vs k y)
 |[],[],_,_,_=>rfl
 |k'::ks,v::vs,k,y,h=>by
  rw[ZF,Dd,Za2 (by simpa using h)];show _=(k'::ks).zip ((if k'=k then y else v)::Ur ks vs k y);by_cases e:k'=k
  ·rw[Ba e,Ba e];rfl
  ·rw[Aa e,Aa e];rfl
 |[],_::_,_,_,h=>by simp at h
 |_::_,[],_,_,h=>by simp at h
theorem HZ{ks: List κ}{vs: List V}(h:ks.length=vs.length): Km (ks.zip vs) k y=(Fp ks k).zip (Rl ks vs k y):=by
 unfold Km Fp Rl;by_cases c:k∈ks
 ·rw[Ba ((SG h).mpr c),Ba c,Ba c,Za2 h]
 ·rw[Aa (fun z=>c ((SG h).mp z)),Aa c,Aa c,List.zip_append h];rfl
end
section
variable {κ:Type} [DecidableEq κ] {K:ZmM}{H:Hp}{S:Ja->Prop}
theorem Zan:∀{ks:List κ}{xs:LI5}{vs:List V}{k:κ},Reps K H S xs vs->match Ye ks xs k with
  |some y=>∃v,Ye ks vs k=some v/\Ya K H S y v
  |none=>Ye ks vs k=none
 |[],xs,vs,k,h=>by simp[Ye]
 |k'::ks,[],vs,k,h=>by rw[h];simp[Ye]
 |k'::ks,x::xs,vs,k,h=>by
  obtain⟨v,r,rfl,h1,h2⟩:=h;unfold Ye;by_cases e:k'=k
  ·rw[Ba e,Ba e];exact⟨v,rfl,h1⟩
  ·rw[Aa e,Aa e];exact Zan h2
theorem Zbt:∀{ks:List κ}{xs:LI5}{vs:List V}{G:LI2}{k:κ}{y:PV}{w:V},ks.length=xs.length->Trees K H xs vs G->Pb K H y w []->∃G',(∀a∈G',a∈G)/\Trees K H (Ur ks xs k y) (Ur ks vs k w) G'
 |[],[],vs,G,k,y,w,_,h,_=>⟨[],by simp,by rw[h.1];exact⟨rfl,rfl⟩⟩
 |k'::ks,x::xs,vs,G,k,y,w,hl,h,hy=>by
  obtain⟨v,r,G1,G2,rfl,h1,h2,h3,rfl⟩:=h;obtain⟨G',g1,g2⟩:=Zbt (ks:=ks) (k:=k) (y:=y) (w:=w) (by simpa using hl) h2 hy;unfold Ur;by_cases e:k'=k
  ·rw[Ba e,Ba e]
   exact⟨G',fun a ha=>Fe _ (g1 a ha),w,_,[],G',rfl,hy,g2,by simp,rfl⟩
  ·rw[Aa e,Aa e]
   refine⟨G1++G',fun a ha=>?_,v,_,G1,G',rfl,h1,g2,fun a ha z=>h3 a ha (g1 a z),rfl⟩;rcases Ud.mp ha with z|z
   ·exact Bf _ z
   ·exact Fe _ (g1 a z)
 |[],_::_,_,_,_,_,_,hl,_,_=>by simp at hl
 |_::_,[],_,_,_,_,_,hl,_,_=>by simp at hl
theorem Pb.flatG(f:x.flat=true)(h:Pb K H x v G): Pb K H x v []:=Ya.tree f (h.rep (S:=fun _=>True) fun _ _=>trivial)
end
section
variable {K:ZmM}{B:Ja->Prop}{EX:PX->Hp->Prop}{H0 H H':Hp}{σ:St}{Γ Γ' Γ1 Γ2 Γ3:List Md}{ρ:LI5}{F F':Nat->LI2}{R:LI2}{ta tb:TE}{f fa fb:LI5->Rr PV}{k:Kd}
theorem Cc.newBox(s1:Ia H H1)(f1:∀i,∀a∈F1 i,a∈F i)(hb:Cw K s vs u)(p1:Reps K H1 S xs vs)(hx:PV.flats xs=true)(A1:Ag K B H0 H1 σ Γ' ρ F1 R)(hp:H1 p=none):
  Cc K B H0 H σ Γ' ρ F R .F (.box none s xs) (.ref p) (upd H1 p u):=by
 have e:Ia H1 (upd H1 p u):=Ia.new hp;refine⟨F1,f1,[p],⟨p,vs,u,[],rfl,Hd,⟨trivial,hb⟩,(Reps.trees hx p1).same e,by simp,rfl⟩,fun a ha=>?_,A1.newB hb.lv hp⟩;rw[Gi.mp ha];exact⟨(A1.fresh hp).1,.inl (s1.free hp)⟩
theorem Zfn:DE K EX Γ Γ .F ZaR (fun _=>.ok (.box none (.dt []) [])):=fun B H0 H σ ρ F R Q A d p hp =>
 d _ _ (Ia.new hp) (Cc.newBox (S:=fun _=>True) (vs:=[]) (Ia.refl _) (fun _ _ h=>h) ⟨rfl,rfl⟩ rfl rfl A hp)
noncomputable def Vs(x y:PV):Option (Option PV):=match x,y with
 |.box _ (.dk ks) xs,y=>(Ox y).map fun k=>Ye ks xs k
 |.box _ (.dt ks) xs,.tup ys=>(Nq ys).map fun k=>Ye ks xs k
 |_,_=>none
def CA(g:Bool->Bool)(y x:PV):Rr PV:=match Vs x y with
 |some o=>.ok (.bl (g o.isSome))
 |none=>.bad
def BA(x y:PV):Rr PV:=match Vs x y with
 |some (some z)=>.ok z
 |_=>.bad
theorem AT(hx:Ya K H S x v)(hy:Ya K H (fun _=>True) y w)(e:Vs x y=some o):
  ∃a r,v=.ref a/\Gw H a w r/\r.isSome=o.isSome/\∀z,o=some z->∃u,r=some u/\Ya K H S z u:=by
 have fin:∀{κ:Type} [DecidableEq κ] {ks:List κ}{xs:LI5}{vs:List V}{k:κ},Reps K H S xs vs->o=Ye ks xs k->(Ye ks vs k).isSome=o.isSome/\∀z,o=some z->∃u,Ye ks vs k=some u/\Ya K H S z u:=fun {κ} _ {ks xs vs k} h e=>by
  have:=Zan (ks:=ks) (k:=k) h;rw[<- e] at this;cases o with
  |none=>exact⟨by rw[this];rfl,fun z q=>by cases q⟩
  |some z =>
   obtain⟨u,e1,e2⟩:=this;exact⟨by rw[e1];rfl,fun z' q=>by cases q;exact⟨u,e1,e2⟩⟩
 unfold Vs at e
 split at e
 ·rename_i p ks xs
  obtain⟨a,vs,u,rfl,hr,⟨_,hl,rfl⟩,hxs⟩:=hx;cases ek:Ox y with
  |none=>rw[ek] at e;cases e
  |some k =>
   rw[ek] at e;cases e;rw[OJ ek] at hy;obtain⟨g1,g2⟩:=fin (ks:=ks) (k:=k) hxs rfl;exact⟨a,Ye ks vs k,rfl,.inl ⟨_,k,hr.1,EM hy,(YN hl).symm⟩,g1,g2⟩
 ·rename_i p ks xs ys
  obtain⟨a,vs,u,rfl,hr,⟨_,hl,rfl⟩,hxs⟩:=hx;cases ek:Nq ys with
  |none=>rw[ek] at e;cases e
  |some k =>
   rw[ek] at e;cases e;rw[D9 ek] at hy;obtain⟨b,ws,rfl,hb,hws⟩:=hy;rw[GB hws] at hb;obtain⟨g1,g2⟩:=fin (ks:=ks) (k:=k) hxs rfl;exact⟨a,Ye ks vs k,rfl,.inr ⟨_,k,b,hr.1,rfl,hb.1,(YN hl).symm⟩,g1,g2⟩
 ·cases e
theorem Zfo(ha:DE K EX Γ Γ1 .A ta fa)(hb:DE K EX Γ1 Γ2 .A tb fb):DE K EX Γ Γ2 .P (ZaS ta tb) (fun ρ=>(fa ρ).bind fun y=>(fb ρ).bind fun x=>CA (!·) y x):=fun B H0 H σ ρ F R Q A d=>by
 refine Dr ha hb A d.bind2 fun y x w v H' F' d s f py px A'=>?_;unfold CA at d;cases e:Vs x y with
 |none=>rw[e] at d;exact d.elim
 |some o =>
  rw[e] at d;obtain⟨a,r,rfl,g1,g2,_⟩:=AT px py e;exact⟨a,r,rfl,g1,by rw[g2];exact d _ _ s ⟨F',f,rfl,rfl,A'⟩⟩
theorem Mu(ha:DE K EX Γ Γ1 .A ta fa)(hb:DE K EX Γ1 Γ2 .A tb fb):DE K EX Γ Γ2 .A (ZaQ ta tb) (fun ρ=>(fa ρ).bind fun x=>(fb ρ).bind fun y=>BA x y):=fun B H0 H σ ρ F R Q A d=>by
 refine Dr ha hb A d.bind2 fun x y v w H' F' d s f px py A'=>?_;unfold BA at d;cases e:Vs x y with
 |none=>rw[e] at d;exact d.elim
 |some o =>
  rw[e] at d;cases o with
  |none=>exact d.elim
  |some z =>
   obtain⟨a,r,rfl,g1,_,g3⟩:=AT px py e;obtain⟨u,rfl,hu⟩:=g3 z rfl;exact⟨a,u,rfl,g1,d _ _ s ⟨F',f,hu,A'⟩⟩
noncomputable def DA(x y z:PV):Rr PV:=match x,y with
 |.box p (.dk ks) xs,y=>match Ox y with
  |some k=>if xs.length<1000000/\(CK k ks=false\/z.flat=true) then .ok (.box p (.dk (Fp ks k)) (Rl ks xs k z)) else .bad
  |none=>.bad
 |.box p (.dt ks) xs,.tup ys=>match Nq ys with
  |some k=>if xs.length<1000000/\(CK k ks=false\/z.flat=true) then .ok (.box p (.dt (Fp ks k)) (Rl ks xs k z)) else .bad
  |none=>.bad
 |_,_=>.bad
theorem Zbs{κ: Type}[DecidableEq κ]{ks: List κ}{xs: LI5}{k: κ}{y: PV}(hl:ks.length=xs.length)(h:Trees K H xs vs G)(hy:Pb K H y w G2)(hd:∀a∈G,a ∉ G2)(hk:k∈ks->y.flat=true):
  ∃G',(∀a∈G',a∈G\/a∈G2)/\Trees K H (Rl ks xs k y) (Rl ks vs k w) G':=by
 unfold Rl;by_cases c:k∈ks
 ·rw[Ba c,Ba c]
  obtain⟨G',g1,g2⟩:=Zbt (k:=k) hl h (hy.flatG (hk c));exact⟨G',fun a ha=>.inl (g1 a ha),g2⟩
 ·rw[Aa c,Aa c]
  exact⟨G++G2,fun a ha=>Ud.mp ha,Trees.append h (Trees.one hy) hd⟩
theorem EU{i:Nat}{tv:TE}{fv:LI5->Rr PV}(hm:Γ1[i]?=some .O)(hv:DE K EX Γ Γ1 .F tv fv)(hk:DE K EX Γ1 Γ1 .A tb fb) :
  DS K EX Γ ⟨Γ1,Γ2,Γ3,k⟩ (Zau (Wg i) tb tv) (fun ρ=>(fv ρ).thenS fun z=>(fb ρ).thenS fun y=>(DA (gv i ρ) y z).thenS fun x=>.next (ρ.set i x)):=fun B H0 H σ ρ F D A d=>by
 refine hv B H0 H σ ρ F [] _ A (d.thenS.imp (fun z _ d w H1 s1 r1=>?_) fun e q=>q);obtain⟨F1,f1,G2,t1,o1,A1⟩:=r1;obtain⟨v,h1,h2⟩:=A1.getO hm;refine⟨v,h1,hk B H0 H1 σ ρ F1 (G2++[]) _ A1 (d.thenS.imp (fun y _ d yv H2 s2 r2=>?_) fun e q=>q)⟩;obtain⟨F2,f2,p2,A2⟩:=r2;obtain⟨v',h1',h2'⟩:=A2.getO hm;rw[h1] at h1';cases h1';have d:=d.thenS;have t2:=t1.same s2;have core:∀{p:Option Ja}{s s':Sh}{xs xs':LI5}{a:Ja}{vs vs':List V}{u u':HO}{G G':LI2},ρ.getD i .non=.box p s xs->H2 a=some u->Z7 p a->Trees K H2 xs vs G->a ∉ G->F2 i=a::G->Cw K s' vs' u'->Trees K H2 xs' vs' G'->(∀b∈G',b∈G\/b∈G2) ->
   σ[i]?=some (some (.ref a))->Xi K B EX ⟨Γ1,Γ2,Γ3,k⟩ H0 H F D (.next (ρ.set i (.box p s' xs')))->D.nx σ (upd H2 a u'):=fun {p s s' xs xs' a vs vs' u u' G G'} er hH hpn ht hn hF hb Ad hsub hσ d=>by
  have haF:a∈F2 i:=by rw[hF];simp
  have na2:a ∉ G2:=fun z=>A2.disjR i a haF (Bf _ z);have hna:a ∉ G':=fun z=>(hsub a z).elim hn na2;have hsub2:∀b∈a::G',b∈F2 i\/b∈G2:=fun b hb=>by
   rcases Lc.mp hb with rfl|hb
   ·exact .inl haF
   ·rcases hsub b hb with z|z
    ·exact .inl (by rw[hF];simp[z])
    ·exact .inr z
  obtain⟨lv,hlv⟩:=A2.live i a haF;refine d σ _ (Se F2 i (a::G')) (W8 (s1.trans s2) (fun j b hb=>f1 j b (f2 j b hb)) haF fun b hb=>?_) (Ag.chgB hb.lv (G:=G2) (R:=[]) A2 hm haF hsub2 (by simp) ?_)
  ·rcases hsub2 b hb with z|z
   ·exact .inr ⟨i,f1 i b (f2 i b z)⟩
   ·exact(o1 b z).2
  ·exact⟨_,hσ,a,vs',u',G',rfl,Hd,⟨hpn,hb⟩,Trees.putL hlv hna Ad,hna,rfl⟩
 unfold DA at d
 split at d
 ·rename_i p ks xs er _ _
  rw[show ρ.getD i .non=.box p (.dk ks) xs from er] at h2';obtain⟨a,vs,u,G,rfl,hH,⟨hpn,hl,rfl⟩,ht,hn,hF⟩:=h2'
  split at d
  ·rename_i kk ek
   split at d
   ·rename_i hc
    rw[OJ ek] at p2;have hl':ks.length=xs.length:=by rw[hl,ht.length]
    have dj:∀b∈G,b ∉ G2:=fun b hb z=>A2.disjR i b (by rw[hF];simp[hb]) (Bf _ z);obtain⟨G',g1,g2⟩:=Zbs (k:=kk) hl' ht t2 dj (fun c=>hc.2.resolve_left (fun z=>MX z c));refine⟨a,_,rfl,.inl ⟨_,kk,hH,EM p2, ?_,rfl⟩,core er hH hpn ht hn hF (s':=.dk (Fp ks kk)) (vs':=Rl ks vs kk w) ⟨LZ hl, ?_⟩ g2 g1 h1 d⟩
    ·rw[Yv,hl,QF,ht.length];exact Ng hc.1 (by decide)
    ·rw[HZ hl]
   ·exact d.elim
  ·exact d.elim
 ·rename_i p ks xs ys er _ _
  rw[show ρ.getD i .non=.box p (.dt ks) xs from er] at h2';obtain⟨a,vs,u,G,rfl,hH,⟨hpn,hl,rfl⟩,ht,hn,hF⟩:=h2'
  split at d
  ·rename_i kk ek
   split at d
   ·rename_i hc
    rw[D9 ek] at p2;obtain⟨b,ws,rfl,hb,hws⟩:=p2;rw[GB hws] at hb;have hl':ks.length=xs.length:=by rw[hl,ht.length]
    have dj:∀b∈G,b ∉ G2:=fun b hb z=>A2.disjR i b (by rw[hF];simp[hb]) (Bf _ z);obtain⟨G',g1,g2⟩:=Zbs (k:=kk) hl' ht t2 dj (fun c=>hc.2.resolve_left (fun z=>MX z c));refine⟨a,_,rfl,.inr ⟨_,kk,b,hH,rfl,hb.1, ?_,rfl⟩,core er hH hpn ht hn hF (s':=.dt (Fp ks kk)) (vs':=Rl ks vs kk w) ⟨LZ hl, ?_⟩ g2 g1 h1 d⟩
    ·rw[Yv,hl,QF,ht.length];exact Ng hc.1 (by decide)
    ·rw[HZ hl]
   ·exact d.elim
  ·exact d.elim
 ·exact d.elim
end
def ZaT(tk tv:TE):TE:=fun σ H Q=>∀p,H p=none->tk σ (upd H p (.dT [])) fun x H1=>tv σ H1 fun y H2=>∃b k,x=.ref b/\H2 b=some (.tup (k.map kV))/\H2 p=some (.dT [])/\Q (.ref p) (upd H2 p (.dT [(k,y)]))
theorem Zk5(hu:X.A.units+1<cLine)(hk:PE X e tk)(hv:PE X v tv): PE X (.Dict [some e] [v] pos) (ZaT tk tv):=by
 intro Za s σ H Q I q;have hn:=I.hok.fresh (Cb s.heap.objs.size);have I1:=I.laid (a:=s.heap.objs.size) (o:=.dT []) (h':=s.heap.push { cls:=.type "dict",data:=.dict #[] }) (t':=s.toks) (fun _ _ q=>Heap.get?_push_of_some _ q) (Cb _) (HU s.heap I.big);have hp:=ZkM (pos:=pos) hk hv ZkN;refine wpAny_Dict_any rfl rfl (by simp) (by simp) (Db (hp Za _ σ _ (fun ps H2=>∃x y,ps=[(x,y)]/\∃b k,x=.ref b/\H2 b=some (.tup (k.map kV))/\H2 s.heap.objs.size=some (.dT [])/\Q (.ref s.heap.objs.size) (upd H2 s.heap.objs.size (.dT [(k,y)]))) I1 ?_) fun ws s2 ⟨ps,H2,I2,rel,x,y,ep,b,kk,ex,eb,e,q2⟩=>?_)
 ·have:=q _ hn
  show ND [(tk,tv)] σ _ _;unfold ND;refine cast (Wf (fun f=>tk σ (upd H s.heap.objs.size (.dT [])) f) (funext fun x=>funext fun H1=>Wf (fun f=>tv σ H1 f) (funext fun y=>funext fun H2=>propext ⟨fun z=>⟨x,y,rfl,z⟩,fun⟨x',y',e',z⟩=>by cases e';exact z⟩))) this
 subst ep ex;rcases ws with _|⟨⟨uk,uv⟩,ws⟩
 ·cases rel
 cases rel with
 |cons r1 r2 =>
  cases r2;obtain⟨rk,rv⟩:=r1;have ek:uk=Value.ref b:=rk;subst ek;obtain⟨z,hd,xs,rl,dd⟩:=IU I2.hok e;cases rl;show Sa _ _ (forIn [(Value.ref b,uv)] PUnit.unit _) _ _ s2;rw[List.forIn_cons];refine Ka (Ka (wpAny_dictSet_heap (hsz:=Og _) (show X.A.units<cLine by lia) (T3 I2.hok eb) dd fun h' dd' hs=>Mb ?_));dsimp only;rw[List.forIn_nil];refine Mb ⟨.ref s.heap.objs.size,_, ?_,rfl,q2⟩;obtain⟨qo,es,ep,hq,h2,h3,h4,_,h5⟩:=dd';refine YH I2 (by rw[e];exact True.intro) hs ⟨qo,hq⟩ ⟨?_,hd,_, ?_,qo,es,ep,hq,h2,h3,h4,h5⟩
  ·show 1<=Rb
   decide
  ·refine .cons ⟨rfl, ?_,rv⟩ .nil
   show upd H2 s.heap.objs.size _ b=_;rw[Ab (IK eb e (fun z=>nomatch z))];exact eb
section
variable {K:ZmM}{B:Ja->Prop}{EX:PX->Hp->Prop}{H0 H:Hp}{σ:St}{Γ Γ1 Γ2:List Md}{ρ:LI5}{F:Nat->LI2}{R:LI2}{ta tb:TE}{fa fb:LI5->Rr PV}{k:Kd}
def EA(y z:PV):Rr PV:=match y with
 |.tup ys=>match Nq ys with
  |some k=>.ok (.box none (.dt [k]) [z])
  |none=>.bad
 |_=>.bad
theorem Zfm(ha:DE K EX Γ Γ1 .A ta fa)(hb:DE K EX Γ1 Γ2 .P tb fb):DE K EX Γ Γ2 .F (ZaT ta tb) (fun ρ=>(fa ρ).bind fun y=>(fb ρ).bind fun z=>EA y z):=fun B H0 H σ ρ F R Q A d p hp=>by
 have A0:=A.newB (u:=.dT []) trivial hp;have s0:Ia H (upd H p (.dT [])):=Ia.new hp;refine ha B H0 _ σ ρ F (p::R) _ A0 (d.bind.imp (fun y _ d w H1 s1 r1=>?_) fun e q=>q);obtain⟨F1,f1,p1,A1⟩:=r1;refine hb B H0 H1 σ ρ F1 (p::R) _ A1 (d.bind.imp (fun z _ d v H2 s2 r2=>?_) fun e q=>q);obtain⟨F2,f2,z1,z2,A2⟩:=r2;have p1':=p1.same s2;unfold EA at d
 split at d
 ·rename_i ys
  split at d
  ·rename_i kk ek
   rw[D9 ek] at p1';obtain⟨b,ws,rfl,hb,hws⟩:=p1';rw[GB hws] at hb;have hH:H2 p=some (.dT []):=s2 _ _ (s1 _ _ Hd);refine⟨b,kk,rfl,hb.1,hH, ?_⟩;have hpR:p ∉ R:=fun q=>by obtain⟨u,e⟩:=A.liveR p q;rw[hp] at e;cases e
   have hpF:∀i,p ∉ F i:=fun i q=>by obtain⟨u,e⟩:=A.live i p q;rw[hp] at e;cases e
   have AR:Ag K B H0 (upd H2 p (.dT [(kk,v)])) σ Γ2 ρ F2 (p::R):=by
    refine⟨fun c o e=>?_,A2.own,A2.young,A2.youngR,fun i c hc=>?_,fun c hc=>?_,A2.disj,A2.disjR,A2.lenS,A2.lenR,fun i=>?_⟩
    ·rw[Ab (fun z=>by rw[z] at e;have:=A2.youngR p (by simp);rw[e] at this;cases this)];exact A2.same c o e
    ·rw[Ab (fun z=>by rw[z] at hc;exact A2.disjR i p hc (by simp))];exact A2.live i c hc
    ·by_cases q:c=p
     ·exact⟨⟨.dT [(kk,v)],trivial⟩,by rw[q,Hd]⟩
     ·rw[Ab q];exact A2.liveR c hc
    ·refine(A2.slot i).mono (fun c us s r=>⟨?_,s⟩) (fun c us r=>Im.putL (us:=⟨.dT [],trivial⟩) hH r) fun c hc us q=>?_
     ·have hne:c≠p:=fun z=>s.2.1 (by rw[z];simp)
      rcases r with r|⟨o',r⟩
      ·exact .inl (by rw[Ab hne];exact r)
      ·exact .inr ⟨o',by rw[Ab hne];exact r⟩
     ·have hne:c≠p:=fun z=>A2.disjR i c hc (by rw[z];simp)
      rw[Ab hne];exact q
   have sm:Ia H (upd H2 p (.dT [(kk,v)])):=fun c o e=>by
    rw[Ab (Gg e hp)];exact s2 _ _ (s1 _ _ (s0 _ _ e))
   refine d _ _ sm ⟨F2,fun i a h=>f1 i a (f2 i a h),[p],⟨p,[v],_,[],rfl,Hd,⟨trivial,rfl,rfl⟩, ?_,by simp,rfl⟩,fun a ha=>?_,AR⟩
   ·exact⟨v,[],[],[],rfl,Pb.mono (fun a ha=>by cases ha) (fun c us r=>Im.putL (us:=⟨.dT [],trivial⟩) hH r) (z2.tree z1),⟨rfl,rfl⟩,by simp,rfl⟩
   ·rw[Gi.mp ha];exact⟨hpR,.inl hp⟩
  ·exact d.elim
 ·exact d.elim
end
section
variable {X:Cx}{K:ZmM}
def Zad(K:ZmM):List V->Hp->VK->Prop:=fun xs H Q=>∃p ys,xs=[.ref p]/\((Uc K H p ys/\∀l,H l=none->Q (.ref l) (upd H l (.tup ys)))\/(Re K H p ys/\Q (.ref p) H))
theorem Sw(e:X.K=K:=by rfl):Xf X (.type "tuple") (Zad K):=by subst e;exact Zes
theorem Rw:Fh "tuple"=some (.type "tuple"):=by decide +kernel
theorem ZkJ(hl:PE X l tl)(e:X.K=K:=by rfl): PI X tg l (fun σ H R=>Kx K tl σ H R\/J9 K tl σ H R):=by
 subst e;intro Za s σ H R I h;rcases h with h|h
 ·exact QZ hl Za s σ H R I h
 ·exact ZkK hl Za s σ H R I h
def Zbi(K:ZmM)(ta:TE):TT:=fun σ H Q=>ta σ H fun x H'=>∃k,MG K x H' k/\Q k H'
theorem ZkS(ha:PE X a ta)(e:X.K=K:=by rfl)(he:∀whole,isTrue a X.env whole=(do let v <- whole;standAt a.pos;holding [v] (truthy v)):=by exact fun _=>rfl): PT X a (Zbi K ta):=by subst e;exact ZkT ha he
variable {B:Ja->Prop}{EX:PX->Hp->Prop}{H0 H:Hp}{σ:St}{Γ Γ':List Md}{ρ:LI5}{F:Nat->LI2}{R:LI2}{te:TE}{ta:TA}{f:LI5->Rr PV}{fa:LI5->Rr LI5}
def Dv(xs:LI5):Rr PV:=match xs with
 |[.lst ys]=>.ok (.tup ys)
 |[.tup ys]=>.ok (.tup ys)
 |_=>.bad
theorem Vx(ha:Ge K EX Γ Γ' ta fa):DE K EX Γ Γ' .A (Ci (Zad K) ta) (fun ρ=>(fa ρ).bind Dv):=fun B H0 H σ ρ F R Q A d=>by
 refine ha B H0 H σ ρ F R _ A (d.bind.imp (fun xs _ d vs H1 F1 s1 f1 p1 A1=>?_) fun e q=>q);unfold Dv at d
 split at d
 ·obtain⟨v,rfl,a,ws,rfl,hn,hr⟩:=Ik p1
  refine⟨a,ws,rfl,.inl ⟨Vg (S:=fun _=>True) hn,fun l hl=>?_⟩⟩;have e:=Ia.new (H:=H1) (o:=.tup ws) hl;exact d _ _ (s1.trans e) ⟨F1,f1,⟨l,ws,rfl,⟨Hd,trivial⟩,hr.same e⟩,A1.grow e⟩
 ·obtain⟨v,rfl,a,ws,rfl,hn,hr⟩:=Ik p1
  exact⟨a,ws,rfl,.inr ⟨hn.sqT,d _ _ s1 ⟨F1,f1,⟨a,ws,rfl,hn,hr⟩,A1⟩⟩⟩
 ·exact d.elim
def ER(x:PV):Rr LI5:=match x with
 |.lst xs=>.ok xs
 |.tup xs=>.ok xs
 |_=>.bad
theorem Zf9(he:DE K EX Γ Γ' .Z te f):DI K EX Γ Γ' (fun σ H R=>Kx K te σ H R\/J9 K te σ H R) (fun ρ=>(f ρ).bind ER):=fun B H0 H σ ρ F R Q A d=>by
 dsimp only at d;cases e:f ρ with
 |ok x =>
  cases x with
  |tup xs =>
   refine .inr (ZfA he B H0 H σ ρ F R Q A ?_);dsimp only;rw[e] at d ⊢;exact d
  |lst xs =>
   refine .inl (Bk he B H0 H σ ρ F R Q A ?_);dsimp only;rw[e] at d ⊢;exact d
  |_=>rw[e] at d;exact d.elim
 |exc q =>
  refine .inl (Bk he B H0 H σ ρ F R Q A ?_);dsimp only;rw[e] at d ⊢;exact d
 |bad=>rw[e] at d;exact d.elim
noncomputable def Zks(x:PV):Rr Bool:=match x with
 |.lst xs=>.ok (!xs.isEmpty)
 |.bl b=>.ok b
 |_=>.bad
theorem ZfM(ha:DE K EX Γ Γ' .A te f):DT K EX Γ Γ' (Zbi K te) (fun ρ=>(f ρ).bind Zks):=fun B H0 H σ ρ F R Q A d=>by
 refine ha B H0 H σ ρ F R _ A (d.bind.imp (fun x _ d v H1 s1 r1=>?_) fun e q=>q);obtain⟨F1,f1,p1,A1⟩:=r1;cases x with
 |lst xs =>
  obtain⟨a,vs,rfl,hn,hr⟩:=p1;refine⟨!xs.isEmpty,.inl ⟨vs,Vg (S:=fun _=>True) hn, ?_⟩,d _ F1 s1 f1 A1⟩;cases xs with
  |nil=>rw[show vs=[] from hr];rfl
  |cons x xs=>obtain⟨v,r,rfl,_⟩:=hr;rfl
 |bl b=>cases p1;exact⟨b,rfl,d _ F1 s1 f1 A1⟩
 |_=>exact d.elim
end
noncomputable def ins{α:Type}:Nat->α->List α->List α
 |0,v,us=>v::us
 |_+1,v,[]=>[v]
 |j+1,v,u::us=>u::ins j v us
theorem O3: ∀{j:Nat}{v:α}{us:List α},(ins j v us).length=us.length+1
 |0,_,_=>rfl
 |_+1,_,[]=>rfl
 |j+1,v,u::us=>by simp[ins,O3 (j:=j) (v:=v) (us:=us)]
theorem Q9: ∀{j:Nat}{v:α}{us:List α} (i:Nat),j<=us.length->(ins j v us)[i]?=if i<j then us[i]? else if i=j then some v else us[i-1]?
 |0,v,us,0,_=>rfl
 |0,v,us,i+1,_=>by simp[ins]
 |j+1,v,[],_,h=>by simp at h
 |j+1,v,u::us,0,_=>rfl
 |j+1,v,u::us,i+1,h=>by
  have:=Q9 (j:=j) (v:=v) (us:=us) i (by simpa using h);rw[ins,MO,this];by_cases c:i<j
  ·rw[Ba c,Ba (show i+1<j+1 by lia)];rfl
  ·by_cases e:i=j
   ·rw[Aa c,Ba e,Aa (show ¬i+1<j+1 by lia),Ba (show i+1=j+1 by lia)]
   ·rw[Aa c,Aa e,Aa (show ¬i+1<j+1 by lia),Aa (show ¬i+1=j+1 by lia)]
    obtain⟨m,rfl⟩:∃m,i=m+1:=⟨i-1,by lia⟩
    rfl
theorem DW: ∀{j:Nat}{v:α}{us:List α},(ins j v us).map f=ins j (f v) (us.map f)
 |0,_,_=>rfl
 |_+1,_,[]=>rfl
 |j+1,v,u::us=>by simp[ins,DW (j:=j) (v:=v) (us:=us)]
theorem CW: ∀{j:Nat}{v:α}{us:List α},j<=us.length->ins j v us++r=ins j v (us++r)
 |0,_,_,_=>rfl
 |_+1,_,[],h=>by simp at h
 |j+1,v,u::us,h=>by
  show u::(ins j v us++r)=u::ins j v (us++r);rw[CW (by simpa using h)]
section
variable {K:ZmM}{H:Hp}
theorem Pb.pin(h:Pb K H (.box p s ys) (.ref a) G): Pb K H (.box (some a) s ys) (.ref a) G:=by
 obtain⟨a',vs,u,G',e,h1,h2,h3⟩:=h;cases e;exact⟨a,vs,u,G',rfl,h1,⟨rfl,h2.2⟩,h3⟩
theorem Pb.unpin(h:Pb K H (.box p s ys) v G): Pb K H (.box none s ys) v G:=by
 obtain⟨a',vs,u,G',e,h1,h2,h3⟩:=h;exact⟨a',vs,u,G',e,h1,⟨trivial,h2.2⟩,h3⟩
theorem Pb.repin(hp:Z7 p a)(h:Pb K H (.box none s ys) (.ref a) G): Pb K H (.box p s ys) (.ref a) G:=by
 obtain⟨a',vs,u,G',e,h1,h2,h3⟩:=h;cases e;exact⟨a,vs,u,G',rfl,h1,⟨hp,h2.2⟩,h3⟩
theorem Pb.pinned(h:Pb K H (.box (some b) s ys) v G): v=.ref b:=by
 obtain⟨a',vs,u,G',e,h1,h2,h3⟩:=h;rw[e,show a'=b from h2.1]
end
def BN(K:ZmM)(n j:Nat)(m:PV->LI5->Rr PV):Sp:=fun vs H Q E=>∃(B:Ja->Prop) (xs:LI5) (us:List V) (a:Ja) (s:Sh) (ys:LI5) (G:LI2),
 vs=ins j (.ref a) us/\xs.length=n/\Reps K H B xs us/\Pb K H (.box none s ys) (.ref a) G/\(∀b,B b->b ∉ G) /\
 Dn (m (.box none s ys) xs) (fun r=>∃y s' ys',r=.tup [y,.box none s' ys']/\∀u H' G1 G2,Ia (minus H G) H'->Pb K H' y u G1->Pb K H' (.box none s' ys') (.ref a) G2->(∀b∈G1,b ∉ G2)->(∀b∈G1,minus H G b=none)->(∀b∈G2,minus H G b=none)->Q u H') (fun _=>False)
noncomputable def PL(a:Ja)(b:PV):PV:=match b with
 |.box _ s ys=>.box (some a) s ys
 |x=>x
def RL(a:Ja)(r:Rr PV):Rr PV:=match r with
 |.ok (.tup [y,.box _ s ys])=>.ok (.tup [y,.box (some a) s ys])
 |.ok _=>.bad
 |.exc e=>.exc e
 |.bad=>.bad
noncomputable def RS.outN(j:Nat)(r:RS):Rr PV:=match r with
 |.next ρ=>.ok (.tup [.non,gv j ρ])
 |.ret x=>.ok x
 |.exc e=>.exc e
 |_=>.bad
section
variable {K:ZmM}{B:Ja->Prop}{EX:PX->Hp->Prop}{H0 H:Hp}{σ:St}{Γ Γ' Γ1 Γ2 Γ3:List Md}{ρ:LI5}{F:Nat->LI2}
theorem Ag.initM(ht:Pb K H (.box none s ys) (.ref a) G)(h:Reps K H B xs us)(hB:∀b,B b->b ∉ G)(hj:j<=xs.length):
  Ag K (fun b=>B b\/minus H G b=none) (minus H G) H (ins j (some (.ref a)) (us.map some++List.replicate l none)) (ins j .O (List.replicate xs.length .S++List.replicate l .U)) (ins j (.box (some a) s ys) (xs++List.replicate l .non)) (Se (fun _=>[]) j G) []:=by
 have fin:∀i,∀b∈Se (fun _=>[]) j G i,i=j/\b∈G:=fun i b hb=>by
  unfold Se at hb
  split at hb
  ·exact⟨by assumption,hb⟩
  ·simp at hb
 have A:=Ag.init (n:=l) h;refine⟨ZiX,fun b h=>.inr h,fun i b hb=>TX (fin i b hb).2,by simp,fun i b hb=>ht.alive b (fin i b hb).2,by simp,fun i k hik b hb z=>hik ((fin i b hb).1.trans (fin k b z).1.symm),by simp,by simp[O3,h.length],by simp[O3],fun i=>?_⟩;have hjs:j<=(us.map some++List.replicate l (none:Option V)).length:=by simp[h.length];lia
 have hjg:j<=(List.replicate xs.length Md.S++List.replicate l Md.U).length:=by simp;lia
 have hjr:j<=(xs++List.replicate l PV.non).length:=by simp;lia
 rw[Bb,Bb,Q9 i hjs,Q9 i hjg,Q9 i hjr];have go:∀q,q≠j\/True->Ro K H (NO (fun b=>B b\/minus H G b=none) (Se (fun _=>[]) j G) []) ((List.replicate xs.length Md.S++List.replicate l Md.U)[q]?.getD .U) ((xs++List.replicate l PV.non)[q]?.getD .non) (us.map some++List.replicate l none)[q]? []:=fun q _=>by
  have sl:=A.slot q;rw[Bb,Bb] at sl;refine sl.mono (fun b u s r=>⟨r, ?_,by simp,fun k z=>?_⟩) (fun b u r=>r) (fun b hb=>by cases hb)
  ·rcases s.1 with s|s
   ·exact .inl s
   ·exact .inr (by
     by_cases q:b∈G
     ·exact TX q
     ·rw[Ol q];exact s)
  ·have z:=(fin k b z).2
   rcases s.1 with s|s
   ·exact hB b s z
   ·obtain⟨vs,q⟩:=ht.alive b z
    rw[s] at q;cases q
 by_cases c:i<j
 ·rw[Ba c,Ba c,Ba c,Ee (by lia)]
  exact go i (.inr trivial)
 ·rw[Aa c,Aa c,Aa c]
  by_cases e:i=j
  ·rw[Ba e,Ba e,Ba e]
   subst e;rw[Jf];exact⟨_,rfl,ht.pin⟩
  ·rw[Aa e,Aa e,Aa e,Ee e]
   exact go (i-1) (.inr trivial)
noncomputable def KM(y x:PV):RS:=match x with
 |.box (some a) s xs=>.ret (.tup [y,.box (some a) s xs])
 |_=>.bad
theorem ZfH(he:DE K EX Γ Γ' .F te f)(hm:Γ'[j]?=some .O): DS K EX Γ ⟨Γ3,Γ1,Γ2,.N⟩ (L5 te) (fun ρ=>(f ρ).thenS fun y=>KM y (gv j ρ)):=fun B H0 H σ ρ F D A d=>by
 refine he B H0 H σ ρ F [] _ A (d.thenS.imp (fun y _ d v H1 s1 r1=>?_) fun e q=>q);obtain⟨F1,f1,G,h1,h2,A1⟩:=r1;unfold KM at d
 split at d
 ·rename_i a s xs ex
  obtain⟨w,w1,w2⟩:=A1.getO hm;rw[show ρ.getD j .non=.box (some a) s xs from ex] at w2;have:=w2.pinned;subst this;exact d v H1 A1.same ⟨y,a,s,xs,G,F1 j,rfl,h1,w2,fun b hb z=>A1.disjR j b z (Bf _ hb),fun b hb=>A1.youngR b (Bf _ hb),fun b hb=>A1.young j b hb⟩
 ·exact d.elim
end
section
variable {P:Qc}{w:Xb}{K:ZmM}{mg:Str->Option Va}{base:Heap}
theorem Zc.okM{x qual:Str}{st:Fb}{f:Ja}{fd:Dl}{N ps:List Str}{k n l j:Nat}{m:PV->LI5->Rr PV}(F:Zc K x qual st f fd)(S:Gc N ps (Ob st))(hn:ps.length=n+1)(hl:N.length-(n+1)=l)(hj:j<=n)(hbody:∀(Ib:Va) (A:Qe) (outer:List Env) (s:Ha) (H:Hp) (E:XK),He k (A.deeper (envOfC qual (Ob st) s.heap.objs.size f Ib)) ->
   ∃t g Y,Y.r=.N/\Y.n[j]?=some .O/\Yg (Ki Ic P w K mg base N qual (Ob st) f Ib A outer s H E).nox (Bm st) t/\DS K X0 (ins j .O (List.replicate n .S++List.replicate l .U)) Y t g /\
    ∀a b xs,Nw (RL a (m b xs)) ((g (ins j (PL a b) (xs++List.replicate l .non))).outN j)) :
  Yb P w K mg base Ic (k+1) f fd ps (BN K n j m):=by
 refine F.ok S (fun vs H Q E h=>?_) (fun Ib A outer s H vs Q E hr h=>?_)
 ·obtain⟨B,xs,us,a,s,ys,G,rfl,h1,h2,_⟩:=h
  rw[O3,h2.length,h1,hn]
 ·obtain⟨B,xs,us,a,s',ys,G,rfl,h1,h2,h3,h4,dn⟩:=h
  obtain⟨t,g,Y,hY,hYn,ht,hd,href⟩:=hbody Ib A outer s H E hr;refine⟨t,ht, ?_⟩;have A0:=Ag.initM (l:=l) h3 h2 h4 (show j<=xs.length by lia);have est:Pj N (ins j (.ref a) us)=ins j (some (.ref a)) (us.map some++List.replicate l none):=by
   unfold Pj;rw[O3,h2.length,h1,hl,DW,CW (by rw[Lb,h2.length];lia)]
  rw[est];rw[h1] at A0;refine hd _ (minus H G) H _ _ _ _ A0 ?_;have hr:=href a (.box none s' ys) xs;rw[show PL a (.box none s' ys)=.box (some a) s' ys from rfl] at hr;cases em:m (.box none s' ys) xs with
  |bad=>rw[em] at dn;exact dn.elim
  |exc q=>rw[em] at dn;exact dn.elim
  |ok r =>
   rw[em] at dn hr;obtain⟨y,s2,ys2,rfl,q⟩:=dn;have ho:(g (ins j (.box (some a) s' ys) (xs++List.replicate l .non))).outN j=.ok (.tup [y,.box (some a) s2 ys2]):=by
    rcases hr with e|e
    ·cases e
    ·exact e.symm
   cases e:g (ins j (.box (some a) s' ys) (xs++List.replicate l .non)) with
   |next ρ =>
    rw[e] at ho;have hy:PV.tup [.non,gv j ρ]=.tup [y,.box (some a) s2 ys2]:=by simpa[RS.outN] using ho
    simp only[PV.tup.injEq,List.cons.injEq,and_true] at hy;obtain⟨rfl,hb⟩:=hy;refine fun σ' H' F' fr A'=>?_;obtain⟨v,w1,w2⟩:=A'.getO hYn;rw[show ρ.getD j .non=.box (some a) s2 ys2 from hb] at w2;have:=w2.pinned;subst this;exact q .non H' [] (F' j) A'.same ⟨rfl,rfl⟩ w2.unpin (by simp) (by simp) fun b hb=>A'.young j b hb
   |ret z =>
    rw[e] at ho;have hy:z=.tup [y,.box (some a) s2 ys2]:=by simpa[RS.outN] using ho
    subst hy;refine fun v H' s r=>?_;rw[hY] at r;obtain⟨y',a',s3,xs3,G1,G2,e1,r1,r2,r3,r4,r5⟩:=r;simp only[PV.tup.injEq,List.cons.injEq,and_true,PV.box.injEq,Option.some.injEq] at e1;obtain⟨rfl,rfl,rfl,rfl⟩:=e1;exact q v H' G1 G2 s r1 r2.unpin r3 r4 r5
   |exc q=>rw[e] at ho;cases ho
   |brk ρ=>rw[e] at ho;cases ho
   |cont ρ=>rw[e] at ho;cases ho
   |bad=>rw[e] at ho;cases ho
end
def Y1{α:Type}(f:LI5->Rr α):Prop:=∀ρ e,f ρ≠.exc e
def RP(K:ZmM)(Γ:List Md)(te:TE)(f:LI5->Rr PV):Prop:=Y1 f /\
 ∀(B:Ja->Prop) (H0 H:Hp) (σ:St) (ρ:LI5) (F:Nat->LI2) (R:LI2) (Q:VK),Ag K B H0 H σ Γ ρ F R ->
  (∃x,f ρ=.ok x/\∀v,Ya K H (fun a=>a ∉ R) x v->Q v H)->te σ H Q
def PP(K:ZmM)(Γ:List Md)(ta:TA)(f:LI5->Rr LI5):Prop:=Y1 f /\
 ∀(B:Ja->Prop) (H0 H:Hp) (σ:St) (ρ:LI5) (F:Nat->LI2) (R:LI2) (Q:List V->Hp->Prop),Ag K B H0 H σ Γ ρ F R ->
  (∃xs,f ρ=.ok xs/\∀vs,Reps K H (fun a=>a ∉ R) xs vs->Q vs H)->ta σ H Q
def N6(K:ZmM)(Γ:List Md)(i j:Nat)(ta:TA)(f:LI5->Rr LI5):Prop:=Y1 f /\
 ∀(B:Ja->Prop) (H0 H:Hp) (σ:St) (ρ:LI5) (F:Nat->LI2) (R:LI2) (v:V) (Q:List V->Hp->Prop),Ag K B H0 H σ Γ ρ F R->σ[i]?=some (some v) ->
  (∃xs,f ρ=.ok xs/\∀vs,Reps K H (fun a=>a ∉ R) xs vs->Q (ins j v vs) H)->ta σ H Q
theorem bind_ok{r: Rr α}(h:r.bind g=.ok y): ∃x,r=.ok x/\g x=.ok y:=by
 cases r with
 |ok x=>exact⟨x,rfl,h⟩
 |exc e=>cases h
 |bad=>cases h
theorem YX{α β:Type}{f:LI5->Rr α}{g:LI5->α->Rr β}(h1:Y1 f)(h2:∀ρ x e,g ρ x≠.exc e):Y1 (fun ρ=>(f ρ).bind (g ρ)):=fun ρ e q=>by
 cases ef:f ρ with
 |ok x=>simp only[ef] at q;exact h2 ρ x e q
 |exc e'=>exact h1 ρ e' ef
 |bad=>simp only[ef] at q;cases q
section
variable {K:ZmM}{B:Ja->Prop}{EX:PX->Hp->Prop}{H0 H H':Hp}{σ:St}{Γ Γ1 Γ2:List Md}{ρ:LI5}{F F':Nat->LI2}{R:LI2}{te:TE}{ta:TA}{f:LI5->Rr PV}{fa:LI5->Rr LI5}{i j n:Nat}{m:PV->LI5->Rr PV}
theorem BU(h:Γ[l]?=some md)(hm:md≠.U): RP K Γ (Wg l) (fun ρ=>.ok (gv l ρ)):=⟨fun ρ e q=>(by cases q),fun B H0 H σ ρ F R Q A d=>by
 obtain⟨x,e,d⟩:=d;cases e;cases md with
 |U=>exact Gb rfl hm
 |P=>obtain⟨v,h1,h2,h3⟩:=A.getP h;exact⟨v,h1,d v (h3.flatS h2)⟩
 |S=>obtain⟨v,h1,h2⟩:=A.getS h;exact⟨v,h1,d v (Ya.mono (fun a u s r=>⟨r,s.2.1⟩) (fun a u r=>r) h2)⟩
 |T =>
  obtain⟨a,vs,xs,h1,h2,h3,h4,h5⟩:=A.getT h;refine⟨_,h1,d _ ?_⟩;rw[show gv l ρ=.lst xs from h2];exact⟨a,vs,rfl,.inl ⟨.inl h3,A.disjR l a (by rw[h5];simp)⟩,Reps.mono (fun a u s r=>⟨r,s.2.1⟩) (fun a u r=>r) h4⟩
 |O=>obtain⟨v,h1,h2⟩:=A.getO h;exact⟨v,h1,d v (h2.rep fun a ha=>A.disjR l a ha)⟩⟩
theorem Zfe:PP K Γ Rj (fun _=>.ok []):=⟨fun ρ e q=>(by cases q),fun B H0 H σ ρ F R Q A d=>by
 obtain⟨x,e,d⟩:=d;cases e;exact d [] rfl⟩
theorem Zfd(ha:PP K Γ ta fa):N6 K Γ i 0 (Di (Wg i) ta) fa:=⟨ha.1,fun B H0 H σ ρ F R v Q A hv d=>⟨v,hv,ha.2 B H0 H σ ρ F R _ A d⟩⟩
theorem OT(he:RP K Γ te f)(ha:N6 K Γ i j ta fa):N6 K Γ i (j+1) (Di te ta) (fun ρ=>(f ρ).bind fun x=>(fa ρ).bind fun xs=>.ok (x::xs)):=⟨YX he.1 fun ρ x e q=>(YX (g:=fun _ xs=>.ok (x::xs)) ha.1 fun _ y e q=>by cases q) ρ e q,fun B H0 H σ ρ F R v Q A hv d=>by
 obtain⟨z,e,d⟩:=d;obtain⟨x,e1,e⟩:=bind_ok e;obtain⟨y,e2,e⟩:=bind_ok e;cases e;exact he.2 B H0 H σ ρ F R _ A ⟨x,e1,fun u hu=>ha.2 B H0 H σ ρ F R v _ A hv ⟨y,e2,fun vs hvs=>d (u::vs) ⟨u,vs,rfl,hu,hvs⟩⟩⟩⟩
def DM(K:ZmM)(EX:PX->Hp->Prop)(Γ:List Md)(i:Nat)(te:TE)(fm:LI5->Rr (PV×PV)):Prop:=
 ∀(B:Ja->Prop) (H0 H:Hp) (σ:St) (ρ:LI5) (F:Nat->LI2) (Q:VK),Ag K B H0 H σ Γ ρ F [] ->
  Dn (fm ρ) (fun r=>∀v H' F' G,Ec H F H' F'->Pb K H' r.1 v G->(∀b∈G,H b=none\/∃l,b∈F l)->Ag K B H0 H' σ Γ (ρ.set i r.2) F' (G++[])->Q v H') (fun e=>∀H',Ia H0 H'->EX e H')->te σ H Q
noncomputable def V3(m:PV->LI5->Rr PV)(x:PV)(xs:LI5):Rr (PV×PV):=match x with
 |.box p s ys=>match m (.box none s ys) xs with
  |.ok (.tup [y,.box none s' ys'])=>.ok (y,.box p s' ys')
  |_=>.bad
 |_=>.bad
theorem Zlv{l: List α}(h:l[i]?=some v): l.set i v=l:=by
 apply Qo;intro q;by_cases e:i=q
 ·subst e;rw[Fj (Pd.mp h).1,h]
 ·rw[Il e]
theorem ZfF(hm:Γ[i]?=some .O)(hn:Ph fa n)(ha:N6 K (Γ.set i .U) i j ta fa):DM K EX Γ i (Nm (BN K n j m) ta) (fun ρ=>(fa ρ).bind fun xs=>V3 m (gv i ρ) xs):=fun B H0 H σ ρ F Q A d=>by
 obtain⟨v,h1,h2⟩:=A.getO hm;have hi:=A.lt hm;cases ea:fa ρ with
 |bad=>dsimp only at d;rw[ea] at d;exact d.elim
 |exc q=>exact Gb ea (ha.1 ρ q)
 |ok xs =>
  refine ha.2 B H0 H σ ρ _ (F i++[]) v _ (A.move hm) h1 ⟨xs,ea,fun vs hvs=>?_⟩;dsimp only at d;rw[ea] at d;have d:Dn (V3 m (gv i ρ) xs) _ _:=d;unfold V3 at d
  split at d
  ·rename_i p s ys er
   rw[show ρ.getD i .non=.box p s ys from er] at h2
   split at d
   ·rename_i y s2 ys2 em
    obtain⟨a,ws,u0,G0,rfl,hH,hb,ht,hna,hF⟩:=id h2;refine⟨fun b=>b ∉ F i,xs,vs,a,s,ys,F i,rfl,hn ρ xs ea,Reps.mono (fun b u s r=>⟨r,fun z=>s (by simp[z])⟩) (fun b u r=>r) hvs,h2.unpin,fun b hb z=>hb z, ?_⟩;rw[em];refine⟨y,s2,ys2,rfl,fun u H' G1 G2 sm t1 t2 dj n1 n2=>?_⟩;have AL:=(A.move hm).lost sm;have hiU:(Γ.set i .U)[i]?=some .U:=by rw[Fj hi]
    have nw:∀b,minus H (F i) b=none->(∀l,b ∉ Se F i [] l)/\H0 b=none:=fun b hb=>by
     refine⟨fun l z=>?_, ?_⟩
     ·by_cases q:l=i
      ·subst q;rw[Jf] at z;simp at z
      ·rw[Ee q] at z
       rw[Ol (fun w=>A.disj l i q b z w)] at hb;obtain⟨o,e⟩:=A.live l b z;rw[hb] at e;cases e
     ·by_cases q:b∈F i
      ·exact A.young i b q
      ·rw[Ol q] at hb
       exact A.same.free hb
    have AM:Ag K B H0 H' σ (Γ.set i .U) ρ (Se F i []) (G2++(G1++[])):=by
     refine⟨AL.same,AL.own,AL.young,fun b hb=>?_,AL.live,fun b hb=>?_,AL.disj,fun l b hb z=>?_,AL.lenS,AL.lenR,fun l=>?_⟩
     ·rcases Ud.mp hb with z|z
      ·exact(nw b (n2 b z)).2
      ·exact(nw b (n1 b (by simpa using z))).2
     ·rcases Ud.mp hb with z|z
      ·exact t2.alive b z
      ·exact t1.alive b (by simpa using z)
     ·rcases Ud.mp z with z|z
      ·exact(nw b (n2 b z)).1 l hb
      ·exact(nw b (n1 b (by simpa using z))).1 l hb
     ·refine((A.move hm).slot l).mono (fun b o s r=>⟨(r.minus (fun z=>s.2.1 (by simp[z]))).same sm,s.1,fun z=>?_,s.2.2⟩) (fun b o r=>sm.im (r.minus fun c hc=>A.live i c hc)) fun b hb o q=>sm _ _ ?_
      ·have hb:minus H (F i) b≠none:=by
        rw[Ol (fun z=>s.2.1 (by simp[z]))];rcases r with r|⟨o',r⟩<;>(rw[r];simp)
       rcases Ud.mp z with z|z
       ·exact hb (n2 b z)
       ·exact hb (n1 b (by simpa using z))
      ·rw[Ol (fun z=>(A.move hm).disjR l b hb (by simp[z]))];exact q
    have AP:=Ag.put (i:=i) (m:=.O) (x:=.box p s2 ys2) (v:=.ref a) (G:=G2) (R:=G1++[]) AM (by rw[Nt];exact hi) (fun b hb z=>dj b (by simpa using z) hb) ⟨.ref a,rfl,t2.repin hb.1⟩;rw[Zlv h1,List.set_set,Zlw hm] at AP;refine d u H' _ G1 (fun b o h n=>?_) t1 (fun b hb=>?_) AP
    ·have e:minus H (F i) b=some o:=by rw[Ol (n i)];exact h
     refine⟨sm _ _ e,fun l z=>?_⟩;by_cases q:l=i
     ·subst q
      rw[Jf] at z;rw[n2 b z] at e;cases e
     ·rw[Ee q,Ee q] at z
      exact n l z
    ·have:=n1 b hb
     by_cases q:b∈F i
     ·exact .inr ⟨i,q⟩
     ·rw[Ol q] at this;exact .inl this
   ·exact d.elim
  ·exact d.elim
variable {fm:LI5->Rr (PV×PV)}{k:Kd}{l:Nat}
theorem ZgA(fr:Ec H F H' F1)(hG:∀a∈G,H a=none\/∃j,a∈F j): Ec H F H' (Se F1 l G):=fun b o h n=>by
 obtain⟨h1,h2⟩:=fr b o h n;refine⟨h1,fun q z=>?_⟩;by_cases e:q=l
 ·subst e;rw[Jf] at z
  rcases hG b z with w|⟨c,w⟩
  ·rw[h] at w;cases w
  ·exact n c w
 ·rw[Ee e] at z;exact h2 q z
theorem ZfI(he:DM K EX Γ i te fm)(hl:l<Γ.length):DS K EX Γ ⟨Γ.set l .O,Γ1,Γ2,k⟩ (Zo te (Aj l)) (fun ρ=>(fm ρ).thenS fun r=>.next ((ρ.set i r.2).set l r.1)):=fun B H0 H σ ρ F D A d=>by
 refine he B H0 H σ ρ F _ A (d.thenS.imp (fun r _ d v H1 F1 G fr t1 h1 A1=>?_) fun e q=>q);exact d _ H1 _ (ZgA fr h1) (Ag.put (R:=[]) A1 hl (by simp) ⟨v,rfl,t1⟩)
end
def Pm.fnM(m:Pm)(b:PV)(xs:LI5):Rr PV:=m.fn (b::xs)
theorem Ln(h:n+64<c): n+1<c:=by lia
theorem Zlb: KM y (.box (some a) s xs)=.ret (.tup [y,.box (some a) s xs]):=rfl
theorem Zed(h:m (.box none s ys) xs=.ok (.tup [y,.box none s' ys'])): V3 m (.box p s ys) xs=.ok (y,.box p s' ys'):=by
 unfold V3;simp only[h]
section
variable {prog:Qc}{w:Xb}{A:Qe}{s:Ha}
theorem N9: ∀{ns ms:LI0}{vs ws:LI3}{i:Nat},Ub (ns.map V.int) vs->Ub (ms.map V.int) ws->fin=decide (vs.length<ws.length)->Q (HT.Jc ns ms) s ->
  PySem.W.KatLex prog w A true fin Q (vs.zip ws) i s
 |[],[],_,_,i,.nil,.nil,e,q=>by subst e;exact q
 |[],m::ms,_,_,i,.nil,.cons r t,e,q=>by
  have:fin=true:=by rw[e];simp
  subst this;exact q
 |n::ns,[],_,_,i,.cons r t,.nil,e,q=>by
  have:fin=false:=by rw[e];simp
  subst this;exact q
 |n::ns,m::ms,_,_,i,.cons r t,.cons r' t',e,q=>by
  obtain⟨k,rfl⟩:=r;obtain⟨k',rfl⟩:=r';rw[ZF];refine PySem.W.kat_cons (wpAny_eqBool_int ?_);rw[HT.W3] at q;by_cases h:n=m
  ·subst h
   rw[Ba rfl] at q;simp only[beq_self_eq_true];exact PySem.W.kat_yes (N9 t t' (by rw[e];simp) q)
  ·rw[Aa h] at q
   have hb:(n==m)=false:=by simpa using h
   rw[hb];refine PySem.W.kat_no ?_;cases i with
   |zero=>exact oneLt_int q
   |succ i=>exact PySem.W.kat_one _ _ (PyProof.Rows.lt_int q)
end
def Qb(t:LI0):PV:=.tup (t.map PV.int)
theorem R5:∀{a b:LI1},a.map Qb=b.map Qb->a=b
 |[],[],_=>rfl
 |[],y::b,h=>by simp at h
 |x::a,[],h=>by simp at h
 |x::a,y::b,h=>by
  simp only[Dd,List.cons.injEq,Qb,PV.tup.injEq] at h;rw[Sg h.1,R5 h.2]
section
end
theorem Pm.refM2(m:Pm){r:Ja->PV->LI5->Rr PV}(h:∀i,m.pre i->∀a b xs,m.enc i=b::xs->r a b xs=RL a (m.out i)):∀a b xs,Nw (RL a (m.fnM b xs)) (r a b xs):=fun a b xs=>by
 unfold Pm.fnM Pm.fn;by_cases hx:∃i,m.enc i=b::xs/\m.pre i
 ·rw[Rm hx]
  exact .inr (h _ hx.choose_spec.2 a b xs hx.choose_spec.1).symm
 ·rw[dif_neg hx];exact .inl rfl
theorem YG:Fh "sorted"=some (.builtin "sorted"):=by decide +kernel
end L2
namespace My
open L2
def tab(n:Nat)(f:Nat->Int):LI0:=(List.range n).map f
theorem Qt(n:Nat)(f:Nat->Int):(tab n f).length=n:=by simp[tab]
theorem OD{n:Nat}{f:Nat->Int}{x:Nat}(h:x<n):(tab n f).getD x 0=f x:=by
 rw[Bb,tab,Cd,Ir h];rfl
theorem ON{n:Nat}{f:Nat->Int}{l:LI0}(hl:l.length=n)(h:∀x,x<n->l.getD x 0=f x):l=tab n f:=by
 apply List.ext_getElem
 ·rw[hl,Qt]
 ·intro i h1 h2
  have:=h i (by lia);rw[Bb,Rc h1] at this;simp only[tab,List.getElem_map,List.getElem_range];exact this
theorem getD_set{l:LI0}{j x:Nat}{v:Int}(h:j<l.length):(l.set j v).getD x 0=if x=j then v else l.getD x 0:=by
 rw[Bb,Bb];by_cases e:x=j
 ·subst e;rw[Fj h,Ba rfl];rfl
 ·rw[Il (Ne.symm e),Aa e]
theorem ZlN{n:Nat}{f:Nat->Int}{j:Nat}{v:Int}(h:j<n):(tab n f).set j v=tab n fun x=>if x=j then v else f x:=by
 refine ON (by rw[Nt,Qt]) fun x hx=>?_;rw[getD_set (by rw[Qt];exact h)];by_cases e:x=j
 ·rw[Ba e,Ba e]
 ·rw[Aa e,Aa e,OD hx]
theorem ZlM{n:Nat}{f g:Nat->Int}(h:∀x,x<n->f x=g x):tab n f=tab n g:=ON (Qt _ _) fun x hx=>by rw[OD hx,h x hx]
theorem M3{l:LI0}{x:Nat}(h:x<l.length):l.getD x 0∈l:=by
 rw[Bb,Rc h];exact Mt h
theorem FD:∀{l:LI0}{j:Nat}{v:Int},j<l.length->(l.set j v).sum=l.sum-l.getD j 0+v
 |a::l,0,v,_=>by simp;lia
 |a::l,j+1,v,h=>by
  have:=FD (l:=l) (j:=j) (v:=v) (by simpa using h);simp only[List.set_cons_succ,Jw,List.getD_cons_succ,this];lia
theorem ZaH:∀(ns:LI0) (c:Int),(ns.map fun v=>v+c).sum=ns.sum+ns.length*c
 |[],c=>by simp
 |a::l,c=>by
  simp only[Dd,Jw,Dh];rw[ZaH l c,Int.natCast_add,Int.add_mul];lia
theorem X9{n a b:Int}(ha:0<=a)(ha':a<n)(hb:0<=b)(hb':b<n):(a-b)%n=if b<=a then a-b else a-b+n:=by
 by_cases h:b<=a
 ·rw[Ba h,Sl (by lia) (by lia)]
 ·rw[Aa h,<- FE,Sl (by lia) (by lia)]
theorem V4{n a b:Int}(ha:0<=a)(ha':a<n)(hb:0<=b)(hb':b<n):(a+b)%n=if a+b<n then a+b else a+b-n:=by
 by_cases h:a+b<n
 ·rw[Ba h,Sl (by lia) (by lia)]
 ·rw[Aa h,<- Int.sub_emod_right,Sl (by lia) (by lia)]
structure Bw(ns:LI0):Prop where
 lo:2<=ns.length
 hi:ns.length<=24
 nn:∀x∈ns,0<=x
 sm:ns.sum<=10^60
theorem sum_nn:∀{l:LI0},(∀x∈l,0<=x)->0<=l.sum
 |[],_=>by simp
 |a::l,h=>by
  have:=sum_nn (l:=l) fun x hx=>h x (by simp[hx]);have:=h a (by simp);simp only[Jw];lia
theorem RJ:∀{l:LI0}{v:Int},(∀x∈l,0<=x)->v∈l->v<=l.sum
 |a::l,v,h,hv=>by
  have h1:=sum_nn (l:=l) fun x hx=>h x (by simp[hx]);have h2:=h a (by simp);simp only[Jw];rcases Lc.mp hv with rfl|hv
  ·lia
  ·have:=RJ (l:=l) (fun x hx=>h x (by simp[hx])) hv
   lia
def Mv(ns:LI0)(p:Int)(x:Nat):Int:=(if (x:Int)=p then 0 else ns.getD x 0)+ns.getD p.toNat 0/ns.length
def Br(n:Int)(p:Int)(i:Int)(x:Nat):Int:=if 1<=((x:Int)-p)%n/\((x:Int)-p)%n<=i then 1 else 0
def Ej(ns:LI0)(p:Int)(i:Int)(x:Nat):Int:=Mv ns p x+Br ns.length p i x
theorem UN(n p i:Int)(x:Nat):0<=Br n p i x:=by unfold Br;split<;>lia
theorem Q5{n p i:Int}{x:Nat}(h:1<=((x:Int)-p)%n/\((x:Int)-p)%n<=i):Br n p i x=1:=Ba h
theorem Nv{n p i:Int}{x:Nat}(h:¬(1<=((x:Int)-p)%n/\((x:Int)-p)%n<=i)):Br n p i x=0:=Aa h
theorem Zl5{ns:LI0}{p:Int}{x:Nat}(h:(x:Int)=p):Mv ns p x=ns.getD p.toNat 0/ns.length:=by unfold Mv;rw[Ba h];lia
theorem Zl4{ns:LI0}{p:Int}{x:Nat}(h:(x:Int)≠p):Mv ns p x=ns.getD x 0+ns.getD p.toNat 0/ns.length:=by unfold Mv;rw[Aa h]
def Uf(ns:LI0)(p:Int):LI0:=tab ns.length (Ej ns p (ns.getD p.toNat 0%ns.length))
noncomputable def Za8(ns:LI0)(p:Int):Int:=(p+ns.getD p.toNat 0%ns.length)%ns.length
theorem Zl7(ns:LI0)(p:Int):(Uf ns p).length=ns.length:=Qt _ _
section
variable {ns:LI0}{p:Int}
theorem QN(h0:0<=p)(h1:p<ns.length):(ns.map fun v=>v+ns.getD p.toNat 0/ns.length).set p.toNat (ns.getD p.toNat 0/ns.length)=tab ns.length (Ej ns p 0):=by
 refine ON (by simp) fun x hx=>?_;rw[getD_set (by simp;lia)];unfold Ej;rw[Nv (by lia)];by_cases e:x=p.toNat
 ·rw[Ba e,Zl5 (by lia)];lia
 ·rw[Aa e,Zl4 (by lia)]
  simp[Bb,Rc hx]
theorem ZaA(h0:0<=p)(h1:p<ns.length){i:Nat}(hi:(i:Int)+1<ns.length) :
  (tab ns.length (Ej ns p i)).set ((p+(i+1))%ns.length).toNat (Ej ns p i ((p+(i+1))%ns.length).toNat+1)=tab ns.length (Ej ns p ((i+1:Nat):Int)):=by
 have m1:=V4 h0 h1 (show (0:Int)<=(i:Int)+1 by lia) hi;have hlt:((p+((i:Int)+1))%ns.length).toNat<ns.length:=by
  rw[m1];split<;>lia
 rw[ZlN hlt];refine ZlM fun x hx=>?_;have m2:=X9 (n:=ns.length) (show (0:Int)<=(x:Int) by lia) (by lia) h0 h1;by_cases e:x=((p+((i:Int)+1))%ns.length).toNat
 ·rw[Ba e,<- e]
  unfold Ej;have hd:((x:Int)-p)%ns.length=i+1:=by
   rw[m2];rw[m1] at e
   split at e<;>split<;>lia
  rw[Nv (by lia),Q5 (by lia)];lia
 ·rw[Aa e]
  unfold Ej;have hd:((x:Int)-p)%ns.length≠i+1:=by
   intro z;apply e;rw[m2] at z;rw[m1]
   split at z<;>split<;>lia
  by_cases q:1<=((x:Int)-p)%ns.length/\((x:Int)-p)%ns.length<=i
  ·rw[Q5 q,Q5 (by lia)]
  ·rw[Nv q,Nv (by lia)]
theorem ZaB(h0:0<=p)(h1:p<ns.length):∀i:Nat,(i:Int)<ns.length->(tab ns.length (Ej ns p i)).sum=ns.sum+ns.length*(ns.getD p.toNat 0/ns.length)-ns.getD p.toNat 0+i
 |0,_=>by
  have:=QN h0 h1;rw[HE,<- this,FD (by simp;lia)];have e:=ZaH ns (ns.getD p.toNat 0/ns.length);rw[e];have e2:(ns.map fun v=>v+ns.getD p.toNat 0/ns.length).getD p.toNat 0=ns.getD p.toNat 0+ns.getD p.toNat 0/ns.length:=by
   have hx:p.toNat<ns.length:=by lia
   rw[Bb,Cd,Rc hx];simp[hx]
  rw[e2];lia
 |i+1,hi=>by
  have ih:=ZaB h0 h1 i (by lia);have m1:=V4 h0 h1 (show (0:Int)<=(i:Int)+1 by lia) (by lia);have hlt:((p+((i:Int)+1))%ns.length).toNat<ns.length:=by rw[m1];split<;>lia
  rw[<- ZaA h0 h1 (by lia),FD (by rw[Qt];exact hlt),ih,OD hlt];lia
theorem Zl8(h0:0<=p)(h1:p<ns.length)(hs:0<=ns.getD p.toNat 0):(Uf ns p).sum=ns.sum:=by
 have b1:=Af (ns.getD p.toNat 0) (show (ns.length:Int)≠0 by lia);have b2:=Qf (ns.getD p.toNat 0) (show (0:Int)<ns.length by lia);have:=ZaB h0 h1 (ns.getD p.toNat 0%ns.length).toNat (by lia);rw[Hl b1] at this;have e:=Int.mul_ediv_add_emod (ns.getD p.toNat 0) ns.length;unfold Uf;lia
theorem Zl9(hn:∀x∈ns,0<=x)(i:Int)(x:Nat)(hx:x<ns.length):0<=Ej ns p i x:=by
 have h1:=hn _ (M3 hx);have h2:0<=ns.getD p.toNat 0:=by
  by_cases hp:p.toNat<ns.length
  ·exact hn _ (M3 hp)
  ·rw[Bb,Ch (by lia)];exact Nz _
 have h3:=Int.ediv_nonneg h2 (show (0:Int)<=ns.length by lia);have h4:=UN ns.length p i x;unfold Ej Mv
 split<;>lia
end
noncomputable def run(f:Nat->Int):Nat->Nat->Nat
 |0,i=>i
 |k+1,i=>if 0<f i then run f k (i+1) else i
section
end
def Fz(a:LI0×Int):LI0×Int:=(Uf a.1 a.2,Za8 a.1 a.2)
noncomputable def its{α:Type}(f:α->α):Nat->α->α
 |0,a=>a
 |n+1,a=>f (its f n a)
section
end
end My
namespace My
open PySem L2
noncomputable abbrev FL(a:LI0×Int):PV:=.tup [.lst (a.1.map PV.int),.int a.2]
noncomputable def Xh(ns:LI0):Bool:=decide (2<=ns.length/\ns.length<=24/\(∀x∈ns,0<=x)/\ns.sum<=10^60)
theorem Fq{ns:LI0}:Xh ns=true ↔ Bw ns:=by
 unfold Xh;rw[decide_eq_true_iff];exact⟨fun⟨a,b,c,d⟩=>⟨a,b,c,d⟩,fun h=>⟨h.lo,h.hi,h.nn,h.sm⟩⟩
end My
namespace L2
def JW(p s:Int):Int:=p*s%(p+1)
noncomputable def ZS(p s:Int):Int:=p*s/(p+1)
noncomputable def VN(s:Int):Nat->Int
 |0=>s
 |k+1=>ZS (k+1) (VN s k)
def Zga(s:Int)(n:Nat):LI0:=(List.range n).map fun(k:Nat)=>JW (k+1) (VN s k)
noncomputable def ZbK(s:Int):Nat->Nat->Nat
 |0,k=>k
 |n+1,k=>if 0<VN s k then ZbK s n (k+1) else k
def Zm7(s:Int):Nat:=ZbK s s.toNat 0
def Zm6(s:Int):LI0:=Zga s (Zm7 s)
def RG(ns:LI0):Prop:=(∀x∈ns,0<=x)/\ns.length<=200/\ns.sum<=10000/\(ns=[]\/ns.getD (ns.length-1) 0≠0)
noncomputable instance (ns:LI0):Decidable (RG ns):=by unfold RG;infer_instance
def AQ(ns:LI0):Prop:=RG ns/\ns=Zm6 ns.sum
noncomputable instance (ns:LI0):Decidable (AQ ns):=by unfold AQ;infer_instance
noncomputable def s2(ns:LI0)(r:Nat):Nat->Int
 |0=>0
 |i+1=>s2 ns r i+if i%2=r then ns.getD i 0 else 0
theorem ZgI{ns:LI0}{i:Nat}(h:i<ns.length):ns.getD i 0∈ns:=by
 rw[Bb,Rc h];exact Mt _
noncomputable def hs:Nat->Nat->Int->LI0
 |_,0,_=>[]
 |k,m+1,l=>JW (k+1) l::hs (k+1) m (ZS (k+1) l)
noncomputable def s3(ns:LI0)(r:Nat):Nat->Int
 |0=>0
 |i+1=>s3 ns r i+if i%3=r then ns.getD i 0 else 0
def RQ(ns:LI0):Prop:=(∀x∈ns,0<=x)/\ns.length<=100/\ns.sum<=100/\(ns=[]\/(ns.getD 0 0≠0/\ns.getD (ns.length-1) 0≠0))
noncomputable instance (ns:LI0):Decidable (RQ ns):=by unfold RQ;infer_instance
theorem ZgH{ns:LI0}{i:Nat}(h:ns.length<=i):ns.getD i 0=0:=by
 rw[Bb,Ch h];rfl
theorem RV{ns:LI0}(h:∀x∈ns,0<=x)(i:Nat):0<=ns.getD i 0:=by
 by_cases z:i<ns.length
 ·exact h _ (ZgI z)
 ·rw[ZgH (by lia)];lia
theorem sum_nn:∀{ns:LI0},(∀x∈ns,0<=x)->0<=ns.sum
 |[],_=>by simp
 |x::xs,h=>by
  have:=h x (by simp);have:=sum_nn (ns:=xs) (fun y hy=>h y (by simp[hy]));simp;lia
noncomputable def Yn(s:Int):Nat->Int
 |0=>s
 |k+1=>Yn s k*48271%2147483647
theorem ZaD{s:Int}(h:0<=s/\s<=2147483647):∀k,0<=Yn s k/\Yn s k<=2147483647
 |0=>h
 |k+1=>by rw[Yn];lia
def Em(s:Int)(m:Nat):LI0:=(List.range m).map fun(k:Nat)=>Yn s (k+1)/16%1000000
theorem NV(s:Int)(m:Nat):Em s (m+1)=Em s m++[Yn s (m+1)/16%1000000]:=by simp[Em,Yz]
@[simp] theorem QJ(s:Int)(m:Nat):(Em s m).length=m:=by simp[Em]
noncomputable def Vp(fs ns:LI0)(m:Nat):Nat->LI0
 |0=>fs
 |i+1=>(Vp fs ns m i).set (i%m) (((Vp fs ns m i).getD (i%m) 0+ns.getD i 0)%1000000)
@[simp] theorem CV(fs ns:LI0)(m:Nat):∀i,(Vp fs ns m i).length=fs.length
 |0=>rfl
 |i+1=>by rw[Vp,Nt,CV]
noncomputable def Tf(ns:LI0):Int:=if 0<ns.length then 1+ns.getD 0 0%2147483646 else 1
theorem B5(ns:LI0):0<=Tf ns/\Tf ns<=2147483647:=by unfold Tf;split<;>lia
def Uv(ns:LI0)(m:Nat):LI0:=Vp (Em (Tf ns) m) ns m ns.length
@[simp] theorem Zjq(ns:LI0)(m:Nat):(Uv ns m).length=m:=by simp[Uv]
def KG(ns:LI0):Prop:=∀x∈ns,0<=x/\x<1000000
theorem DV(ns:LI0)(m:Nat){fs:LI0}(h:KG fs):∀i,KG (Vp fs ns m i)
 |0=>h
 |i+1=>fun x hx=>by
  rw[Vp] at hx;rcases XO hx with z|z
  ·exact DV ns m h i x z
  ·rw[z];lia
theorem Zjr(ns:LI0)(m:Nat):KG (Uv ns m):=DV ns m (fun x hx=>by
 obtain⟨k,_,rfl⟩:=Ze.mp hx;lia) _
theorem getD_set{l:LI0}{i j:Nat}{v:Int}(h:i<l.length):(l.set i v).getD j 0=if i=j then v else l.getD j 0:=by
 simp only[Bb,List.getElem?_set,Ba h]
 split<;>rfl
noncomputable def stir(c j:Int):Int:=((c%2147483647+1009*j+7)*48271%2147483647)*((c%2147483647+1009*j+7)*48271%2147483647)%998244353/8
end L2
namespace My
open L2
noncomputable def ZlZ(ns:LI0)(k:Int):LI0:=tab ns.length fun x=>ns.getD (((x:Int)-k)%ns.length).toNat 0
def Zma(a:LI0×Int)(s:Nat):Int:=((its Fz s a).2-a.2)%a.1.length
def KW(a:LI0×Int)(s:Nat):Prop:=(its Fz s a).1=ZlZ a.1 (Zma a s)
noncomputable instance (a:LI0×Int) (s:Nat):Decidable (KW a s):=by unfold KW;infer_instance
section
end
end My
namespace My
open PySem PySem.Spec PyProof.Rows L2
theorem JL{ns:LI0}{k:Int}(h0:0<=k)(h1:k<ns.length):pIx (.tup (ns.map PV.int)) (.int k)=.ok (.int (ns.getD k.toNat 0)):=GA (ns:=ns) h0 h1
theorem Zke{ns:LI0}:Pq [.tup (ns.map PV.int)]=.ok (.int ns.length):=by simp[Pq]
theorem Zgc{xs:LI5}:PV.flat (.tup xs)=PV.flats xs:=by simp[PV.flat]
theorem SU{ns:LI0}:PV.flat (.tup (ns.map PV.int))=true:=by rw[Zgc];exact R8
theorem TV{ns:LI0}:grd (.tup (ns.map PV.int))=.ok (.tup (ns.map PV.int)):=by unfold grd;rw[SU];rfl
def tI(b:LI0):List Sb:=b.map Sum.inl
theorem WD(b:LI0):Qb b=.tup ((tI b).map Dk):=by unfold Qb tI;rw[Me];rfl
theorem WU{α:Type}{q:α->PV}(h:∀a,PV.flat (q a)=true):∀L:List α,PV.flats (L.map q)=true
 |[]=>by simp[PV.flats]
 |a::L=>by
  rw[Dd];simp only[PV.flats,h a,WU h L,Bool.and_self]
theorem Zjk{xs:LI5}(h:PV.flats xs=true)(hl:xs.length<=1000000):newF xs=.ok (.lst xs):=by
 unfold newF;rw[h,Hb hl];rfl
theorem MK{α:Type}{q:α->PV}{L:List α}(h:∀a,PV.flat (q a)=true)(hl:L.length<=1000000):newF (L.map q)=.ok (.lst (L.map q)):=Zjk (WU h L) (by simpa using hl)
theorem Ru(t:LI0):PV.flat (Qb t)=true:=SU
theorem ID{a b:LI0}(h:tI a=tI b):a=b:=by
 unfold tI at h;exact(Sz fun x y h=>Sum.inl.inj h).mp h
section
variable {κ:Type} [DecidableEq κ] {α:Type}{k:κ}{ks:List κ}
theorem IZ(h:k ∉ ks):Fp ks k=ks++[k]:=Aa h
theorem KZ{xs:List α}{y:α}(h:k ∉ ks):Rl ks xs k y=xs++[y]:=Aa h
end
section
variable {ks:List (List Sb)}{xs:LI5}{p:Option PySem.Addr}{g:LI0}{v:PV}
theorem CT:Vs (.box p (.dt ks) xs) (Qb g)=some (Ye ks xs (tI g)):=by
 rw[WD];simp only[Vs,E9,D6]
theorem Bv(h:Ye ks xs (tI g)=some v):BA (.box p (.dt ks) xs) (Qb g)=.ok v:=by
 unfold BA;rw[CT,h]
theorem ZjE{f:Bool->Bool}:CA f (Qb g) (.box p (.dt ks) xs)=.ok (.bl (f (Ye ks xs (tI g)).isSome)):=by
 unfold CA;rw[CT]
theorem GY(hv:v.flat=true)(hl:xs.length<1000000):DA (.box p (.dt ks) xs) (Qb g) v=.ok (.box p (.dt (Fp ks (tI g))) (Rl ks xs (tI g) v)):=by
 rw[WD];unfold DA;simp only[E9];rw[Ba ⟨hl,.inr hv⟩]
theorem HR:∀{ks:List (List Sb)}{xs:LI5}{k:List Sb},k ∉ ks->Ye ks xs k=none
 |[],_,_,_=>by unfold Ye;rfl
 |k'::ks,[],k,_=>by unfold Ye;rfl
 |k'::ks,x::xs,k,h=>by
  unfold Ye;rw[Aa (fun e=>h (by rw[e];exact Tl ..)),HR fun z=>h (Fi _ z)]
theorem GR:∀{ks:List (List Sb)}{xs:LI5}{k:List Sb},ks.length=xs.length->k∈ks->∃x,Ye ks xs k=some x
 |[],_,_,_,h=>by simp at h
 |k'::ks,[],k,h,_=>by simp at h
 |k'::ks,x::xs,k,h,hm=>by
  unfold Ye;by_cases e:k'=k
  ·rw[Ba e];exact⟨x,rfl⟩
  ·rw[Aa e]
   exact GR (by simpa using h) ((Lc.mp hm).resolve_left fun z=>e z.symm)
end
def Cr(x:Int×LI0):PV:=.tup [.int x.1,Qb x.2]
end My
namespace L2
noncomputable def Dg(s:Int):Nat->Int
 |0=>1
 |k+1=>Dg s k*(s+((k:Int)+1))/((k:Int)+1)
theorem HH{s:Int}(h:0<=s):∀k,0<=Dg s k
 |0=>by simp[Dg]
 |k+1=>by
  rw[Dg];exact Int.ediv_nonneg (GE (HH h k) (by lia)) (by lia)
theorem WS{s:Int}(h:0<=s)(h1:s<=10^60):∀k:Nat,k<=1000->Dg s k<=(10^61)^k
 |0,_=>by simp[Dg]
 |k+1,hk=>by
  have ih:=WS h h1 k (by lia);have nn:=HH h k;rw[Dg];have e1:Dg s k*(s+((k:Int)+1))<=(10^61)^k*10^61:=Int.mul_le_mul ih (by lia) (by lia) (Int.pow_nonneg (by decide));have e2:Dg s k*(s+((k:Int)+1))/((k:Int)+1)<=Dg s k*(s+((k:Int)+1)):=Int.ediv_le_self _ (GE nn (by lia));rw[Int.pow_succ];lia
def Ie(p s:Int):Int:=if s<0 then 0 else Dg s (p-1).toNat
theorem Zev{s:Int}(h:0<=s)(h1:s<=10^60){k:Nat}(hk:k<=24):(Dg s k).natAbs<2^60000:=by
 have h2:=WS h h1 k (by lia);have h3:=HH h k;have h4:((10:Int)^61)^k<=(10^61)^24:=by
  have:((10:Nat)^61)^k<=(10^61)^24:=BP (by decide) hk;exact_mod_cast this
 have h5:((10:Int)^61)^24=10^1464:=by rw[<- Int.pow_mul]
 have h6:(Dg s k).natAbs<=10^1464:=by
  have:Dg s k<=10^1464:=by rw[<- h5];exact Int.le_trans h2 h4
  have e:((Dg s k).natAbs:Int)=Dg s k:=Int.natAbs_of_nonneg h3;have:((Dg s k).natAbs:Int)<=((10^1464:Nat):Int):=by rw[e];exact_mod_cast this
  exact_mod_cast this
 have h7:10^1464<2^60000:=by
  calc (10:Nat)^1464<=(2^4)^1464:=QP (by decide) _
   _=2^5856:=by rw[<- Nat.pow_mul]
   _<2^60000:=CP (by decide) (by decide)
 lia
noncomputable def bN:Nat->Nat->Nat
 |0=>fun _=>1
 |s+1=>fun k=>Nat.rec 1 (fun k ih=>bN s (k+1)+ih) k
@[simp] theorem ZmH(s:Nat):bN s 0=1:=by cases s<;>rfl
@[simp] theorem ZmI(k:Nat):bN 0 k=1:=by exact id rfl
theorem WG(s k:Nat):bN (s+1) (k+1)=bN s (k+1)+bN (s+1) k:=rfl
theorem ZcT:∀n s k,s+k=n->(k+1)*bN s (k+1)=(s+k+1)*bN s k/\(s+1)*bN (s+1) k=(s+k+1)*bN s k:=by
 intro n
 induction n using Nat.strongRecOn with
 |ind n ih =>
  intro s k h;constructor
  ·cases s with
   |zero=>simp
   |succ s =>
    have h1:=(ih (s+k) (by lia) s k rfl).1;have h2:=(ih (s+k) (by lia) s k rfl).2;rw[WG,Nat.mul_add,h1,<- h2,<- Nat.add_mul];congr 1
  ·cases k with
   |zero=>simp
   |succ k =>
    have h1:=(ih (s+k) (by lia) s k rfl).1;have h2:=(ih (s+k) (by lia) s k rfl).2;rw[WG,Nat.mul_add,h2,<- h1,<- Nat.add_mul];congr 1;lia
theorem SS(s:Nat):∀k:Nat,Dg s k=(bN s k:Nat)
 |0=>by simp[Dg]
 |k+1=>by
  have h:=(ZcT (s+k) s k rfl).1;rw[Dg,SS s k];have e:((bN s k:Nat):Int)*((s:Int)+((k:Int)+1))=((k:Int)+1)*(bN s (k+1):Nat):=by
   have:(((k+1)*bN s (k+1):Nat):Int)=(((s+k+1)*bN s k:Nat):Int):=by rw[h]
   rw[Int.natCast_mul,Int.natCast_mul] at this;rw[show ((k:Int)+1)=((k+1:Nat):Int) by lia,this,Int.mul_comm];congr 1
  rw[e,Int.mul_ediv_cancel_left _ (by lia)]
theorem Tw{p s:Int}(hs:0<=s):Ie p s=(bN s.toNat (p-1).toNat:Nat):=by
 unfold Ie;rw[Aa (by lia)];have:=SS s.toNat (p-1).toNat;rwa [Hl hs] at this
theorem IH{p s:Int}(hs:s<0):Ie p s=0:=Ba hs
theorem KH(p s:Int):0<=Ie p s:=by
 by_cases h:s<0
 ·rw[IH h];exact Nz _
 ·rw[Tw (by lia)];lia
theorem LH{s:Int}(hs:0<=s):Ie 1 s=1:=by rw[Tw hs];simp
theorem ZT(p:Int):Ie p 0=1:=by rw[Tw (Nz _)];simp
theorem NH{p s:Int}(hp:2<=p)(hs:0<=s):Ie p s=Ie p (s-1)+Ie (p-1) s:=by
 by_cases h:s=0
 ·subst h
  rw[IH (p:=p) (s:=0-1) (by lia),ZT,ZT];rfl
 ·rw[Tw hs,Tw (p:=p) (s:=s-1) (by lia),Tw (p:=p-1) hs]
  obtain⟨t,ht⟩:∃t:Nat,s=t+1:=⟨(s-1).toNat,by lia⟩
  obtain⟨q,hq⟩:∃q:Nat,p=q+2:=⟨(p-2).toNat,by lia⟩
  subst ht;subst hq;rw[show ((t:Int)+1).toNat=t+1 by lia,show ((q:Int)+2-1).toNat=q+1 by lia,show ((t:Int)+1-1).toNat=t by lia,show ((q:Int)+2-1-1).toNat=q by lia,WG];lia
theorem YS{p s t:Int}(hp:1<=p)(h:s<=t):Ie p s<=Ie p t:=by
 by_cases hs:s<0
 ·rw[IH hs];exact KH p t
 ·obtain⟨d,rfl⟩:∃d:Nat,t=s+d:=⟨(t-s).toNat,by lia⟩
  induction d with
  |zero=>simp
  |succ d ih =>
   have ih:=ih (by lia);by_cases h1:p=1
   ·subst h1;rw[LH (by lia),LH (by lia)];lia
   ·have h2:=NH (p:=p) (s:=s+((d+1:Nat):Int)) (by lia) (by lia)
    rw[show s+((d+1:Nat):Int)-1=s+(d:Int) by lia] at h2;have:=KH (p-1) (s+((d+1:Nat):Int));lia
noncomputable def Yo:LI0->Int
 |[]=>0
 |[_]=>0
 |_::y::r=>Ie (((y::r).length:Int)+1) ((y::r).sum-1)+Yo (y::r)
theorem K7:∀(l:LI0),l≠[]->(∀x∈l,0<=x)->0<=Yo l/\Yo l+1<=Ie l.length l.sum
 |[],h,_=>Gb rfl h
 |[x],_,hn=>by
  have hx:=hn x (by simp);simp only[Yo,Dh,Rz,Jw,List.sum_nil];rw[show ((0+1:Nat):Int)=1 by rfl,LH (by lia)];lia
 |x::y::r,_,hn=>by
  have hx:=hn x (by simp);have hr:∀z∈y::r,0<=z:=fun z hz=>hn z (by simp only[Lc] at hz ⊢;right;exact hz);have hs:=sum_nn hr;obtain⟨h1,h2⟩:=K7 (y::r) (by simp) hr;rw[Yo];have h3:=KH (((y::r).length:Int)+1) ((y::r).sum-1);refine⟨by lia, ?_⟩;have h4:=NH (p:=((y::r).length:Int)+1) (s:=(y::r).sum) (by simp only[Dh];lia) hs;rw[show ((y::r).length:Int)+1-1=(y::r).length by lia] at h4;have h5:=YS (p:=((y::r).length:Int)+1) (s:=(y::r).sum) (t:=(x::y::r).sum) (by lia) (by simp only[Jw];lia);rw[show (((x::y::r).length:Nat):Int)=((y::r).length:Int)+1 by simp only[Dh];lia];lia
def Nn(l:LI0):Int:=Ie l.length l.sum-1-Yo l
theorem Zjo{l:LI0}(h:l≠[])(hn:∀x∈l,0<=x):0<=Nn l/\Nn l<Ie l.length l.sum:=by
 have:=K7 l h hn;unfold Nn;lia
theorem JY:∀{a b:LI0},a.length=b.length->a.sum=b.sum->(∀x∈a,0<=x)->(∀x∈b,0<=x)->a≠[] ->
  (∃i,i<a.length/\(∀j,j<i->a.getD j 0=b.getD j 0)/\a.getD i 0<b.getD i 0)->Yo b<Yo a
 |[],_,_,_,_,_,h,_=>Gb rfl h
 |[x],b,hl,hs,_,_,_,hd=>by
  obtain⟨i,hi,h1,h2⟩:=hd;simp at hi;subst hi
  match b,hl with
  |[z],_=>simp at hs h2;lia
 |x::y::r,b,hl,hs,hna,hnb,_,hd=>by
  match b,hl with
  |z::w::q,hl =>
   have hra:∀v∈y::r,0<=v:=fun v hv=>hna v (by simp only[Lc] at hv ⊢;right;exact hv);have hrb:∀v∈w::q,0<=v:=fun v hv=>hnb v (by simp only[Lc] at hv ⊢;right;exact hv);have Ae:(y::r).length=(w::q).length:=by simpa using hl
   have sa:=sum_nn hra;have sb:=sum_nn hrb;obtain⟨i,hi,h1,h2⟩:=hd;rw[Yo,Yo];have hsum:x+(y::r).sum=z+(w::q).sum:=by simpa[Jw] using hs
   cases i with
   |zero =>
    have h2:x<z:=by simpa using h2
    obtain⟨b1,b2⟩:=K7 (w::q) (by simp) hrb;have a1:=(K7 (y::r) (by simp) hra).1;have h4:=NH (p:=((w::q).length:Int)+1) (s:=(w::q).sum) (by simp only[Dh];lia) sb;rw[show ((w::q).length:Int)+1-1=(w::q).length by lia] at h4;have h5:=YS (p:=((w::q).length:Int)+1) (s:=(w::q).sum) (t:=(y::r).sum-1) (by lia) (by lia);rw[Ae];lia
   |succ i =>
    have hxz:x=z:=by simpa using h1 0 (by lia)
    have ih:=JY (a:=y::r) (b:=w::q) Ae (by lia) hra hrb (by simp) ⟨i,by simpa using hi,fun j hj=>by simpa using h1 (j+1) (by lia),by simpa using h2⟩;rw[Ae,show (y::r).sum=(w::q).sum by lia];lia
end L2
namespace My
open L2
end My
namespace L2
end L2
namespace My
open L2
end My
namespace L2
noncomputable def SD:Nat->Int
 |0=>0
 |k+1=>SD k+(k+1)
def kN(s:Int):Nat:=((List.range (s.toNat+1)).find? fun(k:Nat)=>decide (s<SD (k+1))).getD 0
def QR(l:LI0)(k i:Nat):Int:=l.getD i 0-((k:Int)-i)
structure ZmE(l:LI0)(k:Nat):Prop where
 lo:SD k<=l.sum
 hi:l.sum<SD (k+1)
 ad:∀i,i<=k->0<=QR l k i/\QR l k i<=1
 z:∀i,k<i->l.getD i 0=0
noncomputable def ZgF:Bool:=(List.range 63).all fun n=>(List.range (n+1)).all fun m=>(List.range (n+1)).all fun a =>
 ((a*Nat.gcd (n+1) m%(n+1)==0)==(a%((n+1)/Nat.gcd (n+1) m)==0))&&(a*Nat.gcd (n+1) m/(n+1)==a/((n+1)/Nat.gcd (n+1) m))&&decide (a/((n+1)/Nat.gcd (n+1) m)<=Nat.gcd (n+1) m)&&decide (0<Nat.gcd (n+1) m)&&decide (0<(n+1)/Nat.gcd (n+1) m)&&decide (Nat.gcd (n+1) m<=n+1)
theorem ZgG:ZgF=true:=by decide +kernel
structure Gd(n m a:Nat):Prop where
 mod:a*Nat.gcd n m%n=0 ↔ a%(n/Nat.gcd n m)=0
 div:a*Nat.gcd n m/n=a/(n/Nat.gcd n m)
 le:a/(n/Nat.gcd n m)<=Nat.gcd n m
 p1:0<Nat.gcd n m
 p2:0<n/Nat.gcd n m
 le2:Nat.gcd n m<=n
theorem gd{n m a:Nat}(h1:n<=63)(hm:m<n)(ha:a<n):Gd n m a:=by
 have h:=Hg.mp (Hg.mp (Hg.mp ZgG (n-1) (Qg.mpr (by lia))) m (Qg.mpr (by lia))) a (Qg.mpr (by lia));rw[show n-1+1=n by lia] at h;simp only[Bool.and_eq_true,beq_iff_eq,decide_eq_true_eq] at h;obtain⟨⟨⟨⟨⟨h1,h2⟩,h3⟩,h4⟩,h5⟩,h6⟩:=h;refine⟨?_,h2,h3,h4,h5,h6⟩;rw[<- beq_iff_eq (a:=a*Nat.gcd n m%n),<- beq_iff_eq (a:=a%(n/Nat.gcd n m)),h1]
end L2
namespace L2
open PySem
end L2
namespace My
open PySem L2
theorem Zl6{b:LI0}{p:Int}{x:Nat}(hx:x<b.length):(Uf b p).getD x 0=Ej b p (b.getD p.toNat 0%b.length) x:=by
 unfold Uf tab;rw[Bb,Cd,Ir hx];rfl
end My
namespace L2
end L2
namespace My
open PySem L2
noncomputable def Bl(s:Int):Nat->Int
 |0=>s
 |k+1=>Bl s k*16807%2147483647
theorem EN{s:Int}(h:0<=s/\s<=2147483647):∀k,0<=Bl s k/\Bl s k<=2147483647
 |0=>h
 |k+1=>by unfold Bl;lia
def Nl(s:Int)(m:Nat):LI0:=(List.range m).map fun(k:Nat)=>Bl s (k+1)*Bl s (k+1)
theorem OV(s:Int)(m:Nat):Nl s (m+1)=Nl s m++[Bl s (m+1)*Bl s (m+1)]:=by simp[Nl,Yz]
@[simp] theorem AJ(s:Int)(m:Nat):(Nl s m).length=m:=by simp[Nl]
noncomputable def Gn(fs ns:LI0)(m:Nat):Nat->LI0
 |0=>fs
 |i+1=>(Gn fs ns m i).set (i%m) (((Gn fs ns m i).getD (i%m) 0+ns.getD i 0)%(10^60+1))
@[simp] theorem EV(fs ns:LI0)(m:Nat):∀i,(Gn fs ns m i).length=fs.length
 |0=>rfl
 |i+1=>by rw[Gn,Nt,EV fs ns m i]
def Xu(ns:LI0)(m:Nat):LI0:=Gn (Nl (Tf ns) m) ns m ns.length
@[simp] theorem Zim(ns:LI0)(m:Nat):(Xu ns m).length=m:=by unfold Xu;simp
def Wide(ns:LI0):Prop:=∀x∈ns,0<=x/\x<=10^60
theorem FV(ns:LI0)(m:Nat){fs:LI0}(h:Wide fs):∀i,Wide (Gn fs ns m i)
 |0=>h
 |i+1=>fun x hx=>by
  rw[Gn] at hx;rcases XO hx with z|z
  ·exact FV ns m h i x z
  ·rw[z]
   generalize (Gn fs ns m i).getD (i%m) 0+ns.getD i 0=a;lia
theorem Zin(ns:LI0)(m:Nat):Wide (Xu ns m):=FV ns m (fun x hx=>by
 unfold Nl at hx;obtain⟨k,_,rfl⟩:=Ze.mp hx;obtain⟨h1,h2⟩:=EN (B5 ns) (k+1);generalize Bl (Tf ns) (k+1)=a at h1 h2;refine⟨GE h1 h1,Int.le_trans (Int.mul_le_mul h2 h2 h1 (by lia)) (by decide)⟩) _
end My
namespace My
open L2
theorem UX:∀{x y:LI0},HT.Jc x y=true->∃i,i<y.length/\(∀j,j<i->x.getD j 0=y.getD j 0)/\(x.getD i 0<y.getD i 0\/x.length<=i)
 |[],[],h=>by simp[HT.Jc] at h
 |[],b::y,h=>⟨0,by simp,by simp,.inr (by simp)⟩
 |a::x,[],h=>by simp[HT.Jc] at h
 |a::x,b::y,h=>by
  rw[HT.W3] at h;by_cases e:a=b
  ·rw[Ba e] at h
   obtain⟨i,h1,h2,h3⟩:=UX h;refine⟨i+1,by simp;exact h1,fun j hj=>?_, ?_⟩
   ·cases j with
    |zero=>simpa using e
    |succ j=>simpa using h2 j (by lia)
   ·rcases h3 with z|z
    ·exact .inl (by simpa using z)
    ·exact .inr (by simpa using z)
  ·rw[Aa e] at h
   exact⟨0,by simp,by simp,.inl (by simpa using h)⟩
end My
namespace L2
open PySem PyProof.Rows
structure Mc(prog:Qc)(w:Xb)(A:Qe)(s:Ha)(κ:Si)(U:Ua->Prop)(R:Ua->Ua->Bool)(Ok:Ua->Ua->Prop):Prop where
 ask:∀x y,U x->U y->Ok x y->∀(Q:Bool->Ha->Prop),Q (R x y) s->Sa (La prog w) A (keyLt' κ x.1 y.1) Q (fun _ _=>False) s
 asy:∀x y,U x->U y->R x y=true->R y x=false
 tr:∀x y z,U x->U y->U z->R y x=false->R z y=false->R z x=false
section
variable {prog:Qc}{w:Xb}{A:Qe}{E:Va->Ha->Prop}{s:Ha}{κ:Si}{U:Ua->Prop}{R:Ua->Ua->Bool}{Ok:Ua->Ua->Prop}
theorem X5(C:Mc prog w A s κ U R Ok){st:Xa}{x y:Ua}{Q:Option Bool->Xa->Prop}(hk:Hc st=κ)(ux:U x)(uy:U y)(ok:Ok x y)(h:Q (some (R x y)) st):wpS (La prog w) A E s (lt' x y) Q st:=by
 rw[lt'_eq];refine Vb (Sm ?_);rw[hk];refine Vb (wpS_lift (J1 (Cf (C.ask x y ux uy ok (fun b s'=>s'=s/\b=R x y) ⟨rfl,rfl⟩) (fun b s' q=>?_) fun _ _ q=>q.elim)));obtain⟨rfl,rfl⟩:=q;exact⟨rfl,Eb h⟩
theorem Mg{st:Xa}{arr:LI4}{i:Nat}{x:Ua}{Q:Ua->Xa->Prop}(hx:arr[i]?=some x)(h:Q x st):wpS (La prog w) A E s (Xg arr i) Q st:=by
 rw[elem'_eq,hx];exact Eb h
end
def Ds:Bool->Ua->LI4->Nat->Nat->Nat->StateT Xa Sem (Option Nat):=sortPriv% PySem.Builtin.gallop
noncomputable def Qy(left:Bool)(key:Ua)(arr:LI4)(base:Nat)(i:Nat):StateT Xa Sem (Option Bool):=do
 let x <- Xg arr (base+i)
 if left then lt' x key else return (<- lt' key x).map (!·)
theorem ZgE(left:Bool)(key:Ua)(arr:LI4)(base n hint:Nat):Ds left key arr base n hint=(do
  let mut u:=0
  let mut v:=1
  let mut a:=0
  let mut b:=0
  let some r <- Qy left key arr base hint|return none
  if r then
   let w:=n-hint
   for _ in [0:n] do
    if v ≥ w then break
    let some m <- Qy left key arr base (hint+v)|return none
    if !m then break
    u:=v
    v:=2*v+1
   a:=hint+u+1
   b:=hint+min v w
  else
   let w:=hint+1
   for _ in [0:n] do
    if v ≥ w then break
    let some m <- Qy left key arr base (hint-v)|return none
    if m then break
    u:=v
    v:=2*v+1
   a:=hint+1-min v w
   b:=hint-u
  for _ in [0:n] do
   if a ≥ b then break
   let c:=a+(b-a)/2
   let some m <- Qy left key arr base c|return none
   if m then a:=c+1 else b:=c
  return some b):=rfl
section
variable {prog:Qc}{w:Xb}{A:Qe}{E:Va->Ha->Prop}{s:Ha}{κ:Si}{U:Ua->Prop}{R:Ua->Ua->Bool}{Ok:Ua->Ua->Prop}
structure Nr(U:Ua->Prop)(R:Ua->Ua->Bool)(Ok:Ua->Ua->Prop)(left:Bool)(key:Ua)(arr:LI4)(base n:Nat)(P:Nat->Bool):Prop where
 uk:U key
 it:∀i,i<n->∃x,arr[base+i]?=some x/\U x/\(if left=true then Ok x key else Ok key x)/\P i=(if left=true then R x key else !R key x)
 mono:∀i j,i<=j->j<n->P j=true->P i=true
theorem Y5(C:Mc prog w A s κ U R Ok){st:Xa}{left:Bool}{key:Ua}{arr:LI4}{base n i:Nat}{P:Nat->Bool}{Q:Option Bool->Xa->Prop}(hk:Hc st=κ)(K:Nr U R Ok left key arr base n P)(hi:i<n)(h:Q (some (P i)) st) :
  wpS (La prog w) A E s (Qy left key arr base i) Q st:=by
 obtain⟨x,hx,ux,ok,hp⟩:=K.it i hi;unfold Qy;refine Vb (Mg hx ?_);cases left with
 |true =>
  rw[Ba rfl] at hp ok ⊢;exact X5 C hk ux K.uk ok (by rw[<- hp];exact h)
 |false =>
  rw[Aa (by decide)] at hp ok ⊢;exact Vb (X5 C hk K.uk ux ok (Eb (by rw[D6,<- hp];exact h)))
theorem Kz(C:Mc prog w A s κ U R Ok){st:Xa}{left:Bool}{key:Ua}{arr:LI4}{base n hint:Nat}{P:Nat->Bool}{Q:Option Nat->Xa->Prop}(hk:Hc st=κ)(K:Nr U R Ok left key arr base n P)(hh:hint<n)(h:∀k,k<=n->(∀i,i<k->P i=true)->(∀i,k<=i->i<n->P i=false)->Q (some k) st):wpS (La prog w) A E s (Ds left key arr base n hint) Q st:=by
 rw[ZgE];refine Vb (Y5 C hk K hh ?_);dsimp only;have down:∀{i j},i<=j->j<n->P i=false->P j=false:=fun {i j} h1 h2 h3=>by
  cases hj:P j with
  |false=>rfl
  |true=>rw[K.mono i j h1 h2 hj] at h3;cases h3
 cases hP:P hint with
 |true =>
  rw[Ba rfl];refine Vb (Lk (Hi (I:=fun x (c:Option (Option Nat)×Nat×Nat) (Ca:Xa)=>Ca=st/\c.1=none/\P (hint+c.2.1)=true/\hint+c.2.1<n/\c.2.1<c.2.2/\x+1<=c.2.2)
   (Q:=fun(c:Option (Option Nat)×Nat×Nat) (Ca:Xa)=>Ca=st/\c.1=none/\P (hint+c.2.1)=true/\hint+c.2.1<n/\c.2.1<c.2.2/\(n-hint<=c.2.2\/(c.2.2<n-hint/\P (hint+c.2.2)=false))) ?_ ?_ ⟨rfl,rfl,by simpa using hP,by simpa using hh,Nat.zero_lt_one,Cb _⟩) ?_)
  ·rintro x ⟨o,u,v⟩ Ca _ hx ⟨rfl,rfl,q1,q2,q3,q4⟩
   dsimp only at q1 q2 q3 q4 ⊢;by_cases hv:v ≥ n-hint
   ·rw[Ba hv]
    exact Eb ⟨rfl,rfl,q1,q2,q3,.inl hv⟩
   ·rw[Aa hv]
    refine Vb (Y5 C hk K (by lia) ?_);dsimp only;cases hm:P (hint+v) with
    |true =>
     rw[Aa (by decide)];exact Eb ⟨rfl,rfl,hm,by dsimp only;lia,by dsimp only;lia,by dsimp only;lia⟩
    |false =>
     rw[Ba (by decide)];exact Eb ⟨rfl,rfl,q1,q2,q3,.inr ⟨by dsimp only;lia,hm⟩⟩
  ·rintro⟨o,u,v⟩ Ca ⟨rfl,rfl,q1,q2,q3,q4⟩
   dsimp only at q1 q2 q3 q4 ⊢;exact⟨rfl,rfl,q1,q2,q3,.inl (by lia)⟩
  rintro⟨o,u,v⟩ Ca ⟨hst,rfl,q1,q2,q3,q4⟩;have hst:=hst.symm;subst hst;dsimp only at q1 q2 q3 q4 ⊢;have ab:hint+u+1<=hint+min v (n-hint):=by lia
  have bn:hint+min v (n-hint)<=n:=by lia
  have pa:∀i,i<hint+u+1->P i=true:=fun i hi=>K.mono i (hint+u) (by lia) (by lia) q1;have pb:∀i,hint+min v (n-hint)<=i->i<n->P i=false:=fun i h1 h2=>by
   rcases q4 with q4|⟨q4,q5⟩
   ·lia
   ·exact down (by lia) h2 q5
  refine Vb (Lk (Hi (I:=fun x (c:Option (Option Nat)×Nat×Nat) (Ca:Xa)=>Ca=st/\c.1=none/\c.2.1<=c.2.2/\c.2.2<=n/\(∀i,i<c.2.1->P i=true)/\(∀i,c.2.2<=i->i<n->P i=false)/\c.2.2-c.2.1<=n-x)
   (Q:=fun(c:Option (Option Nat)×Nat×Nat) (Ca:Xa)=>Ca=st/\c.1=none/\c.2.1=c.2.2/\c.2.2<=n/\(∀i,i<c.2.1->P i=true)/\(∀i,c.2.2<=i->i<n->P i=false)) ?_ ?_ ⟨rfl,rfl,ab,bn,pa,pb,by dsimp only;lia⟩) ?_)
  ·rintro x ⟨o,a,b⟩ Ca _ hx ⟨rfl,rfl,q1,q2,q3,q4,q5⟩
   dsimp only at q1 q2 q3 q4 q5 ⊢;by_cases hab:a ≥ b
   ·rw[Ba hab]
    exact Eb ⟨rfl,rfl,by dsimp only;lia,q2,q3,q4⟩
   ·rw[Aa hab]
    refine Vb (Y5 C hk K (by lia) ?_);dsimp only;cases hm:P (a+(b-a)/2) with
    |true =>
     rw[Ba rfl];exact Eb ⟨rfl,rfl,by dsimp only;lia,q2,fun i hi=>K.mono i (a+(b-a)/2) (by dsimp only at hi;lia) (by lia) hm,q4,by dsimp only;lia⟩
    |false =>
     rw[Aa (by decide)];refine Eb ⟨rfl,rfl,by dsimp only;lia,by dsimp only;lia,q3,fun i h1 h2=>?_,by dsimp only;lia⟩;cases hi:P i with
     |false=>rfl
     |true=>rw[K.mono _ i h1 h2 hi] at hm;cases hm
  ·rintro⟨o,a,b⟩ Ca ⟨rfl,rfl,q1,q2,q3,q4,q5⟩
   dsimp only at q1 q2 q3 q4 q5 ⊢;exact⟨rfl,rfl,by lia,q2,q3,q4⟩
  ·rintro⟨o,a,b⟩ Ca ⟨rfl,rfl,q1,q2,q3,q4⟩
   dsimp only at q1 q2 q3 q4 ⊢;exact Eb (h b q2 (by rw[<- q1];exact q3) q4)
 |false =>
  rw[Aa (by decide)];refine Vb (Lk (Hi (I:=fun x (c:Option (Option Nat)×Nat×Nat) (Ca:Xa)=>Ca=st/\c.1=none/\P (hint-c.2.1)=false/\c.2.1<=hint/\c.2.1<c.2.2/\x+1<=c.2.2)
   (Q:=fun(c:Option (Option Nat)×Nat×Nat) (Ca:Xa)=>Ca=st/\c.1=none/\P (hint-c.2.1)=false/\c.2.1<=hint/\c.2.1<c.2.2/\(hint+1<=c.2.2\/(c.2.2<=hint/\P (hint-c.2.2)=true))) ?_ ?_ ⟨rfl,rfl,by simpa using hP,Og _,Nat.zero_lt_one,Cb _⟩) ?_)
  ·rintro x ⟨o,u,v⟩ Ca _ hx ⟨rfl,rfl,q1,q2,q3,q4⟩
   dsimp only at q1 q2 q3 q4 ⊢;by_cases hv:v ≥ hint+1
   ·rw[Ba hv]
    exact Eb ⟨rfl,rfl,q1,q2,q3,.inl hv⟩
   ·rw[Aa hv]
    refine Vb (Y5 C hk K (by lia) ?_);dsimp only;cases hm:P (hint-v) with
    |true =>
     rw[Ba rfl];exact Eb ⟨rfl,rfl,q1,q2,q3,.inr ⟨by dsimp only;lia,hm⟩⟩
    |false =>
     rw[Aa (by decide)];exact Eb ⟨rfl,rfl,hm,by dsimp only;lia,by dsimp only;lia,by dsimp only;lia⟩
  ·rintro⟨o,u,v⟩ Ca ⟨rfl,rfl,q1,q2,q3,q4⟩
   dsimp only at q1 q2 q3 q4 ⊢;exact⟨rfl,rfl,q1,q2,q3,.inl (by lia)⟩
  rintro⟨o,u,v⟩ Ca ⟨hst,rfl,q1,q2,q3,q4⟩;have hst:=hst.symm;subst hst;dsimp only at q1 q2 q3 q4 ⊢;have ab:hint+1-min v (hint+1)<=hint-u:=by lia
  have bn:hint-u<=n:=by lia
  have pa:∀i,i<hint+1-min v (hint+1)->P i=true:=fun i hi=>by
   rcases q4 with q4|⟨q4,q5⟩
   ·lia
   ·exact K.mono i (hint-v) (by lia) (by lia) q5
  have pb:∀i,hint-u<=i->i<n->P i=false:=fun i h1 h2=>down h1 h2 q1;refine Vb (Lk (Hi (I:=fun x (c:Option (Option Nat)×Nat×Nat) (Ca:Xa)=>Ca=st/\c.1=none/\c.2.1<=c.2.2/\c.2.2<=n/\(∀i,i<c.2.1->P i=true)/\(∀i,c.2.2<=i->i<n->P i=false)/\c.2.2-c.2.1<=n-x)
   (Q:=fun(c:Option (Option Nat)×Nat×Nat) (Ca:Xa)=>Ca=st/\c.1=none/\c.2.1=c.2.2/\c.2.2<=n/\(∀i,i<c.2.1->P i=true)/\(∀i,c.2.2<=i->i<n->P i=false)) ?_ ?_ ⟨rfl,rfl,ab,bn,pa,pb,by dsimp only;lia⟩) ?_)
  ·rintro x ⟨o,a,b⟩ Ca _ hx ⟨rfl,rfl,q1,q2,q3,q4,q5⟩
   dsimp only at q1 q2 q3 q4 q5 ⊢;by_cases hab:a ≥ b
   ·rw[Ba hab]
    exact Eb ⟨rfl,rfl,by dsimp only;lia,q2,q3,q4⟩
   ·rw[Aa hab]
    refine Vb (Y5 C hk K (by lia) ?_);dsimp only;cases hm:P (a+(b-a)/2) with
    |true =>
     rw[Ba rfl];exact Eb ⟨rfl,rfl,by dsimp only;lia,q2,fun i hi=>K.mono i (a+(b-a)/2) (by dsimp only at hi;lia) (by lia) hm,q4,by dsimp only;lia⟩
    |false =>
     rw[Aa (by decide)];refine Eb ⟨rfl,rfl,by dsimp only;lia,by dsimp only;lia,q3,fun i h1 h2=>?_,by dsimp only;lia⟩;cases hi:P i with
     |false=>rfl
     |true=>rw[K.mono _ i h1 h2 hi] at hm;cases hm
  ·rintro⟨o,a,b⟩ Ca ⟨rfl,rfl,q1,q2,q3,q4,q5⟩
   dsimp only at q1 q2 q3 q4 q5 ⊢;exact⟨rfl,rfl,by lia,q2,q3,q4⟩
  ·rintro⟨o,a,b⟩ Ca ⟨rfl,rfl,q1,q2,q3,q4⟩
   dsimp only at q1 q2 q3 q4 ⊢;exact Eb (h b q2 (by rw[<- q1];exact q3) q4)
end
def GK:LI4->LI4->StateT Xa Sem LI4:=sortPriv% PySem.Builtin.mergeLo
def V5(g:Nat):StateT Xa Sem Unit:=modify fun s=>SortSt.mk' (Hc s) (Ma s) (Ac s) g (Gj s)
noncomputable def endA(a b o:LI4)(i j:Nat):LI4:=o++a.extract i a.size++b.extract j b.size
noncomputable def endB(a b o:LI4)(i j:Nat):LI4:=o++b.extract j b.size++a.extract i a.size
def Oc(R:Ua->Ua->Bool)(l:List Ua):Prop:=l.Pairwise fun x y=>R y x=false
structure MI(R:Ua->Ua->Bool)(a b o:List Ua)(i j:Nat):Prop where
 perm:o.Perm (a.take i++b.take j)
 srt:Oc R o
 ga:∀x∈o,∀y∈a.drop i,R y x=false
 gb:∀x∈o,∀y∈b.drop j,R y x=false
 hi:i<=a.length
 hj:j<=b.length
section
variable {R:Ua->Ua->Bool}{a b o:List Ua}{i j:Nat}
theorem Ux(l:List Ua)(i k:Nat):(l.drop i).take k++l.drop (i+k)=l.drop i:=by
 rw[<- List.drop_drop];exact Ri k (l.drop i)
theorem Zbl(l:List Ua)(i k:Nat):l.take i++(l.drop i).take k=l.take (i+k):=(List.take_add).symm
theorem Oc.drop{l:List Ua}(h:Oc R l)(i:Nat):Oc R (l.drop i):=h.sublist (List.drop_sublist i l)
theorem MI.pushA(M:MI R a b o i j)(sa:Oc R a)(k:Nat)(hk:i+k<=a.length)(hle:∀x∈(a.drop i).take k,∀y∈b.drop j,R y x=false):MI R a b (o++(a.drop i).take k) (i+k) j:=by
 have sd:=sa.drop i;rw[<- Ux a i k] at sd;obtain⟨s1,s2,s3⟩:=Eh.mp sd;refine⟨?_, ?_, ?_, ?_,hk,M.hj⟩
 ·rw[<- Zbl]
  refine(M.perm.append_right _).trans ?_;rw[Hf,Hf];exact List.Perm.append_left _ Xz
 ·exact Eh.mpr ⟨M.srt,s1,fun x hx y hy=>M.ga x hx y (Eo hy)⟩
 ·intro x hx y hy
  rcases Ud.mp hx with hx|hx
  ·exact M.ga x hx y (by rw[<- Ux a i k];exact Fe _ hy)
  ·exact s3 x hx y hy
 ·intro x hx y hy
  rcases Ud.mp hx with hx|hx
  ·exact M.gb x hx y hy
  ·exact hle x hx y hy
theorem MI.pushB(M:MI R a b o i j)(sb:Oc R b)(k:Nat)(hk:j+k<=b.length)(hle:∀x∈(b.drop j).take k,∀y∈a.drop i,R y x=false):MI R a b (o++(b.drop j).take k) i (j+k):=by
 have sd:=sb.drop j;rw[<- Ux b j k] at sd;obtain⟨s1,s2,s3⟩:=Eh.mp sd;refine⟨?_, ?_, ?_, ?_,M.hi,hk⟩
 ·rw[<- Zbl]
  refine(M.perm.append_right _).trans ?_;rw[Hf]
 ·exact Eh.mpr ⟨M.srt,s1,fun x hx y hy=>M.gb x hx y (Eo hy)⟩
 ·intro x hx y hy
  rcases Ud.mp hx with hx|hx
  ·exact M.ga x hx y hy
  ·exact hle x hx y hy
 ·intro x hx y hy
  rcases Ud.mp hx with hx|hx
  ·exact M.gb x hx y (by rw[<- Ux b j k];exact Fe _ hy)
  ·exact s3 x hx y hy
theorem MI.all_perm(M:MI R a b o i j):(o++(a.drop i++b.drop j)).Perm (a++b):=by
 refine(M.perm.append_right _).trans ?_;have e1:(a.take i++b.take j++(a.drop i++b.drop j))=a.take i++(b.take j++a.drop i)++b.drop j:=by simp[Hf]
 rw[e1];have p1:(a.take i++(b.take j++a.drop i)++b.drop j).Perm (a.take i++(a.drop i++b.take j)++b.drop j):=(List.Perm.append_left _ Xz).append_right _;refine p1.trans ?_;have e2:a.take i++(a.drop i++b.take j)++b.drop j=(a.take i++a.drop i)++(b.take j++b.drop j):=by rw[Hf,Hf,Hf]
 rw[e2,Ri,Ri]
theorem MI.endA(M:MI R a b o i j)(sa:Oc R a)(sb:Oc R b)(h:i=a.length\/j=b.length):Oc R (o++(a.drop i++b.drop j))/\(o++(a.drop i++b.drop j)).Perm (a++b):=by
 refine⟨?_,M.all_perm⟩;refine Eh.mpr ⟨M.srt, ?_,fun x hx y hy=>?_⟩
 ·rcases h with h|h
  ·rw[h,List.drop_length,Ot];exact sb.drop j
  ·rw[h,List.drop_length,Dt];exact sa.drop i
 ·rcases Ud.mp hy with hy|hy
  ·exact M.ga x hx y hy
  ·exact M.gb x hx y hy
theorem MI.endB(M:MI R a b o i j)(sa:Oc R a)(sb:Oc R b)(h:∀x∈b.drop j,∀y∈a.drop i,R y x=false):Oc R (o++(b.drop j++a.drop i))/\(o++(b.drop j++a.drop i)).Perm (a++b):=by
 refine⟨?_,(List.Perm.append_left _ Xz).trans M.all_perm⟩;refine Eh.mpr ⟨M.srt,Eh.mpr ⟨sb.drop j,sa.drop i,h⟩,fun x hx y hy=>?_⟩;rcases Ud.mp hy with hy|hy
 ·exact M.gb x hx y hy
 ·exact M.ga x hx y hy
end
section
variable {prog:Qc}{w:Xb}{A:Qe}{s:Ha}{κ:Si}{U:Ua->Prop}{R:Ua->Ua->Bool}{Ok:Ua->Ua->Prop}
abbrev Pf(st:Xa)(g:Nat):Xa:=SortSt.mk' (Hc st) (Ma st) (Ac st) g (Gj st)
structure Je(U:Ua->Prop)(R:Ua->Ua->Bool)(Ok:Ua->Ua->Prop)(a b:LI4):Prop where
 ua:∀x∈a.toList,U x
 ub:∀x∈b.toList,U x
 ok:∀x∈b.toList,∀y∈a.toList,Ok x y
 sa:Oc R a.toList
 sb:Oc R b.toList
 na:0<a.size
 nb:0<b.size
 fst:∀x y,b.toList[0]?=some x->a.toList[0]?=some y->R y x=false
 lst:∀x∈b.toList,∀y,a.toList[a.size-1]?=some y->R y x=false
theorem Mc.irr(C:Mc prog w A s κ U R Ok){x:Ua}(ux:U x):R x x=false:=by
 cases h:R x x with
 |false=>rfl
 |true=>have:=C.asy x x ux ux h;rw[h] at this;cases this
theorem Mc.dropLe(C:Mc prog w A s κ U R Ok){l:List Ua}{i:Nat}{x z:Ua}(ul:∀y∈l,U y)(hs:Oc R l)(hz:l[i]?=some z)(ux:U x)(h:R z x=false):∀y∈l.drop i,R y x=false:=fun y hy=>by
 have hi:=(Pd.mp hz).1;have e:l.drop i=z::l.drop (i+1):=by
  rw[Hr hi];rw[Rc hi] at hz;cases hz;rfl
 have uz:U z:=ul z (Tc hz);have sd:=hs.drop i;rw[e] at sd hy;rcases Lc.mp hy with rfl|hy'
 ·exact h
 ·have h2:=(Wz.mp sd).1 y hy'
  exact C.tr x z y ux uz (ul y (Co hy')) h h2
theorem Oc.le(C:Mc prog w A s κ U R Ok){l:List Ua}(ul:∀y∈l,U y)(hs:Oc R l){i j:Nat}{x y:Ua}(hij:i<=j)(hx:l[i]?=some x)(hy:l[j]?=some y):R y x=false:=by
 by_cases e:i=j
 ·subst e
  rw[hx] at hy;cases hy;exact C.irr (ul x (Tc hx))
 ·have hi:=(Pd.mp hx)
  have hj:=(Pd.mp hy)
  have:=B6.mp hs i j hi.1 hj.1 (by lia);rw[hi.2,hj.2] at this;exact this
theorem ZlO(a b o:LI4)(i j:Nat):(endA a b o i j).toList=o.toList++(a.toList.drop i++b.toList.drop j):=by
 simp only[endA,J6,V6,Hf,Ht];rw[Ho (by simp),Ho (by simp)]
theorem ZlP(a b o:LI4)(i j:Nat):(endB a b o i j).toList=o.toList++(b.toList.drop j++a.toList.drop i):=by
 simp only[endB,J6,V6,Hf,Ht];rw[Ho (by simp),Ho (by simp)]
theorem RD{l:List Ua}{i:Nat}{x:Ua}(h:l[i]?=some x):(l.drop i).take 1=[x]:=by
 have hi:=(Pd.mp h)
 rw[Hr hi.1,hi.2];rfl
theorem NX{l:List Ua}{i k:Nat}{x:Ua}(h:x∈(l.drop i).take k):∃t,t<k/\l[i+t]?=some x:=by
 obtain⟨t,ht⟩:=Wj h;rw[Xj] at ht
 split at ht
 ·rename_i hk
  rw[Tj] at ht;exact⟨t,hk,ht⟩
 ·cases ht
theorem W9{l:List Ua}{i:Nat}{x:Ua}(h:x∈l.drop i):∃t,l[i+t]?=some x:=by
 obtain⟨t,ht⟩:=Wj h;rw[Tj] at ht;exact⟨t,ht⟩
theorem ZZ(C:Mc prog w A s κ U R Ok){l:LI4}{key:Ua}{i:Nat}(ul:∀y∈l.toList,U y)(hs:Oc R l.toList)(uk:U key)(okk:∀y∈l.toList,Ok key y)(hi:i<=l.size) :
  Nr U R Ok false key l i (l.size-i) (fun t=>!R key (l.getD (i+t) (.none,.none))):=by
 have get:∀t,t<l.size-i->l.toList[i+t]?=some (l.getD (i+t) (.none,.none))/\l[i+t]?=some (l.getD (i+t) (.none,.none)):=fun t ht=>by
  have hlt:i+t<l.size:=by lia
  have e:l.getD (i+t) (.none,.none)=l[i+t]:=by simp[Array.getD,hlt]
  rw[e];exact⟨by simp[hlt],by simp[hlt]⟩
 refine⟨uk,fun t ht=>⟨_,(get t ht).2,ul _ (Tc (get t ht).1),by rw[Aa (by decide)];exact okk _ (Tc (get t ht).1),by rw[Aa (by decide)]⟩,fun t u htu hu h=>?_⟩;have hu':=get u hu;have Ad:=get t (by lia);have h1:R key (l.getD (i+u) (.none,.none))=false:=by simpa using h
 have h2:=Oc.le C ul hs (show i+t<=i+u by lia) Ad.1 hu'.1;have:=C.tr _ _ key (ul _ (Tc Ad.1)) (ul _ (Tc hu'.1)) uk h2 h1;show (!R key _)=true;rw[this];rfl
theorem YY(C:Mc prog w A s κ U R Ok){l:LI4}{key:Ua}{i:Nat}(ul:∀y∈l.toList,U y)(hs:Oc R l.toList)(uk:U key)(okk:∀y∈l.toList,Ok y key)(hi:i<=l.size) :
  Nr U R Ok true key l i (l.size-i) (fun t=>R (l.getD (i+t) (.none,.none)) key):=by
 have get:∀t,t<l.size-i->l.toList[i+t]?=some (l.getD (i+t) (.none,.none))/\l[i+t]?=some (l.getD (i+t) (.none,.none)):=fun t ht=>by
  have hlt:i+t<l.size:=by lia
  have e:l.getD (i+t) (.none,.none)=l[i+t]:=by simp[Array.getD,hlt]
  rw[e];exact⟨by simp[hlt],by simp[hlt]⟩
 refine⟨uk,fun t ht=>⟨_,(get t ht).2,ul _ (Tc (get t ht).1),by rw[Ba rfl];exact okk _ (Tc (get t ht).1),by rw[Ba rfl]⟩,fun t u htu hu h=>?_⟩;have hu':=get u hu;have Ad:=get t (by lia);cases hc:R (l.getD (i+t) (.none,.none)) key with
 |true=>rfl
 |false =>
  have h2:=Oc.le C ul hs (show i+t<=i+u by lia) Ad.1 hu'.1;have:=C.tr key _ _ uk (ul _ (Tc Ad.1)) (ul _ (Tc hu'.1)) hc h2;rw[this] at h;cases h
end
section
variable {prog:Qc}{w:Xb}{A:Qe}{E:Va->Ha->Prop}{s:Ha}{κ:Si}{U:Ua->Prop}{R:Ua->Ua->Bool}{Ok:Ua->Ua->Prop}
def Vk(R:Ua->Ua->Bool)(a b:LI4)(st:Xa)(r:LI4)(Ca:Xa):Prop:=Oc R r.toList/\r.toList.Perm (a.toList++b.toList)/\∃g,Ca=Pf st g
def Vn(R:Ua->Ua->Bool)(a b:LI4)(st:Xa)(o:LI4)(i j:Nat)(Ca:Xa):Prop:=MI R a.toList b.toList o.toList i j/\i+1<a.size/\j<b.size/\∃g,Ca=Pf st g
theorem UE{st:Xa}{g:Nat}{Q:Unit->Xa->Prop}(h:Q () (Pf st g)):wpS (La prog w) A E s (V5 g) Q st:=Zq h
theorem Vm{l:LI4}{i:Nat}(h:i<l.size):∃x,l[i]?=some x/\l.toList[i]?=some x/\x∈l.toList:=
 ⟨l[i],by simp[h],by simp[h],by simp⟩
section
variable {st Ca:Xa}{a b o:LI4}{i j:Nat}
theorem Je.finA(M:Je U R Ok a b)(m:MI R a.toList b.toList o.toList i j)(h:i=a.size\/j=b.size)(hg:∃g,Ca=Pf st g):Vk R a b st (endA a b o i j) Ca:=by
 obtain⟨h1,h2⟩:=m.endA M.sa M.sb (by simpa using h);rw[<- ZlO] at h1 h2;exact⟨h1,h2,hg⟩
theorem Je.finB(M:Je U R Ok a b)(m:MI R a.toList b.toList o.toList i j)(h:i+1=a.size)(hg:∃g,Ca=Pf st g):Vk R a b st (endB a b o i j) Ca:=by
 obtain⟨h1,h2⟩:=m.endB M.sa M.sb fun x hx y hy=>M.lst x (Co hx) y (by
  obtain⟨t,ht⟩:=W9 hy;have hl:=(Pd.mp ht).1;rw[Gf] at hl;rw[show a.size-1=i+t by lia];exact ht)
 rw[<- ZlP] at h1 h2;exact⟨h1,h2,hg⟩
theorem Je.a1(C:Mc prog w A s κ U R Ok)(M:Je U R Ok a b)(m:MI R a.toList b.toList o.toList i j){x:Ua}(hx:a.toList[i]?=some x)(hle:∀y∈b.toList.drop j,R y x=false):MI R a.toList b.toList (o.push x).toList (i+1) j:=by
 have hi:=(Pd.mp hx).1;have:=m.pushA M.sa 1 (by lia) (by rw[RD hx];intro y hy;rw[Gi.mp hy];exact hle);rw[RD hx] at this;rw[EE];exact this
theorem Je.b1(C:Mc prog w A s κ U R Ok)(M:Je U R Ok a b)(m:MI R a.toList b.toList o.toList i j){x:Ua}(hx:b.toList[j]?=some x)(hle:∀y∈a.toList.drop i,R y x=false):MI R a.toList b.toList (o.push x).toList i (j+1):=by
 have hj:=(Pd.mp hx).1;have:=m.pushB M.sb 1 (by lia) (by rw[RD hx];intro y hy;rw[Gi.mp hy];exact hle);rw[RD hx] at this;rw[EE];exact this
theorem Zbn(l:LI4)(i k:Nat):(o++l.extract i (i+k)).toList=o.toList++(l.toList.drop i).take k:=by
 simp only[J6,V6,Ht];rw[show i+k-i=k by lia]
end
theorem Es{l:LI4}{i:Nat}{x:Ua}(h:l.toList[i]?=some x):l.getD i (.none,.none)=x:=by
 have hi:=Pd.mp h;have hs:i<l.size:=by simpa using hi.1
 simp only[Array.getD,hs,Rm];exact hi.2
abbrev Aq:=Option LI4×LI4×Nat×Nat×Nat×Nat×Nat
noncomputable def YJ(a b o:LI4)(i j g x y:Nat):StateT Xa Sem (ForInStep Aq):=do
 let t <- Xg a i
 if i+1+1==a.size then pure (.done (some (endB a b (o.push t) (i+1) j),o.push t,i+1,j,g,x,y))
 else if x<7&&y<7 then pure (.done (none,o.push t,i+1,j,g,x,y))
 else pure (.yield (none,o.push t,i+1,j,g,x,y))
noncomputable def XJ(a b o:LI4)(i j g x y:Nat):StateT Xa Sem (ForInStep Aq):=do
 let t <- Xg b j
 if j+1==b.size then pure (.done (some (endA a b (o.push t) i (j+1)),o.push t,i,j+1,g,x,y))
 else do
  let e <- Xg a i
  let r <- Ds true e b (j+1) (b.size-(j+1)) 0
  match r with
  |some k =>
   if k>0 then
    if j+1+k==b.size then pure (.done (some (endA a b (o.push t++b.extract (j+1) (j+1+k)) i (j+1+k)),o.push t++b.extract (j+1) (j+1+k),i,j+1+k,g,x,k))
    else YJ a b (o.push t++b.extract (j+1) (j+1+k)) i (j+1+k) g x k
   else YJ a b (o.push t) i (j+1) g x k
  |_=>pure (.done (some (endA a b (o.push t) i (j+1)),o.push t,i,j+1,g,x,y))
noncomputable def WJ(a b o:LI4)(i j g x y:Nat):StateT Xa Sem (ForInStep Aq):=do
 V5 g
 let e <- Xg b j
 let r <- Ds false e a i (a.size-i) 0
 match r with
 |some k =>
  if k>0 then
   if i+k+1==a.size then pure (.done (some (endB a b (o++a.extract i (i+k)) (i+k) j),o++a.extract i (i+k),i+k,j,g,k,y))
   else if i+k==a.size then pure (.done (some (endA a b (o++a.extract i (i+k)) (i+k) j),o++a.extract i (i+k),i+k,j,g,k,y))
   else XJ a b (o++a.extract i (i+k)) (i+k) j g k y
  else XJ a b o i j g k y
 |_=>pure (.done (some (endA a b o i j),o,i,j,g,x,y))
structure VG(R:Ua->Ua->Bool)(a b:LI4)(st:Xa)(p:Nat)(Y:ForInStep Aq->Xa->Prop):Prop where
 fin:∀r o i j g x y Ca,Vk R a b st r Ca->Y (.done (some r,o,i,j,g,x,y)) Ca
 brk:∀o i j g x y Ca,Vn R a b st o i j Ca->p<=i+j->Y (.done (none,o,i,j,g,x,y)) Ca
 go:∀o i j g x y Ca,Vn R a b st o i j Ca->p<=i+j->Y (.yield (none,o,i,j,g,x,y)) Ca
section
variable {st st1:Xa}{a b o:LI4}{i j p g x y:Nat}{Y:ForInStep Aq->Xa->Prop}{v z:Ua}
theorem B7{l:LI4}(h:l.toList[i]?=some z):l[i]?=some z:=by simpa using h
theorem ZbA(K:VG R a b st p Y)(C:Mc prog w A s κ U R Ok)(M:Je U R Ok a b)(m:MI R a.toList b.toList o.toList i j)(hi:i+1<a.size)(hj:j<b.size)(hp:p<=i+j)(hz:a.toList[i]?=some z)(fz:∀v∈b.toList.drop j,R v z=false)(hg:∃g,st1=Pf st g) :
  wpS (La prog w) A E s (YJ a b o i j g x y) Y st1:=by
 have m4:=Je.a1 C M m hz fz;refine Vb (Mg (B7 hz) ?_);by_cases e4:i+1+1=a.size
 ·rw[Ba (by simpa using e4)]
  exact Eb (K.fin _ _ _ _ _ _ _ _ (M.finB m4 e4 hg))
 ·rw[Aa (by simpa using e4)]
  split
  ·exact Eb (K.brk _ _ _ _ _ _ _ ⟨m4,by lia,hj,hg⟩ (by lia))
  ·exact Eb (K.go _ _ _ _ _ _ _ ⟨m4,by lia,hj,hg⟩ (by lia))
theorem Zb9(K:VG R a b st p Y)(C:Mc prog w A s κ U R Ok)(hk:Hc st1=κ)(M:Je U R Ok a b)(m:MI R a.toList b.toList o.toList i j)(hi:i+1<a.size)(hj:j<b.size)(hp:p<=i+j)(hv:b.toList[j]?=some v)(fb:∀z∈a.toList.drop i,R z v=false)(hg:∃g,st1=Pf st g) :
  wpS (La prog w) A E s (XJ a b o i j g x y) Y st1:=by
 have m2:=Je.b1 C M m hv fb;refine Vb (Mg (B7 hv) ?_);by_cases e2:j+1=b.size
 ·rw[Ba (by simpa using e2)]
  exact Eb (K.fin _ _ _ _ _ _ _ _ (M.finA m2 (.inr e2) hg))
 rw[Aa (by simpa using e2)];obtain⟨z,hz,hzl,hzm⟩:=Vm (show i<a.size by lia);refine Vb (Mg hz (Vb (Kz C hk (YY C M.ub M.sb (M.ua _ hzm) (fun y hy=>M.ok y hy _ hzm) (show j+1<=b.size by lia)) (by lia) fun k q1 q2 q3=>?_)));have fz:∀y∈b.toList.drop (j+1+k),R y z=false:=fun y hy=>by
  obtain⟨t,ht⟩:=W9 hy;have hl:=(Pd.mp ht).1;rw[Gf] at hl;have:=q3 (k+t) (by lia) (by lia);rw[show j+1+(k+t)=j+1+k+t by lia,Es ht] at this;exact this
 show wpS _ _ _ _ (if k>0 then _ else _) _ _;by_cases hk2:k>0
 ·rw[Ba hk2]
  have m3:=m2.pushB M.sb k (by rw[Gf];lia) (fun x hx y hy=>by
   obtain⟨t,htk,ht⟩:=NX hx;have h1:=q2 t htk;rw[Es ht] at h1;have ux:=M.ub x (Tc ht);exact C.dropLe M.ua M.sa hzl ux (C.asy _ _ ux (M.ua _ hzm) h1) y hy)
  rw[<- Zbn] at m3;by_cases e3:j+1+k=b.size
  ·rw[Ba (by simpa using e3)]
   exact Eb (K.fin _ _ _ _ _ _ _ _ (M.finA m3 (.inr e3) hg))
  ·rw[Aa (by simpa using e3)]
   exact ZbA K C M m3 hi (by lia) (by lia) hzl fz hg
 ·rw[Aa hk2]
  obtain rfl:k=0:=by lia
  exact ZbA K C M m2 hi (by lia) (by lia) hzl fz hg
theorem Zb8(K:VG R a b st p Y)(C:Mc prog w A s κ U R Ok)(hk:Hc st=κ)(M:Je U R Ok a b)(m:MI R a.toList b.toList o.toList i j)(hi:i+1<a.size)(hj:j<b.size)(hp:p<=i+j)(hg:∃g,st1=Pf st g) :
  wpS (La prog w) A E s (WJ a b o i j g x y) Y st1:=by
 obtain⟨gs,rfl⟩:=hg;obtain⟨v,hv,hvl,hvm⟩:=Vm hj;refine Vb (UE (Vb (Mg hv (Vb (Kz C (show Hc (Pf _ _)=κ from hk) (ZZ C M.ua M.sa (M.ub _ hvm) (M.ok _ hvm) (show i<=a.size by lia)) (by lia) fun k p1 p2 p3=>?_)))));have hg:∃g',Pf (Pf st gs) g=Pf st g':=⟨_,rfl⟩
 have fb:∀z∈a.toList.drop (i+k),R z v=false:=fun z hz=>by
  obtain⟨t,ht⟩:=W9 hz;have hl:=(Pd.mp ht).1;rw[Gf] at hl;have:=p3 (k+t) (by lia) (by lia);rw[show i+(k+t)=i+k+t by lia,Es ht] at this;exact C.asy _ _ (M.ub _ hvm) (M.ua _ (Tc ht)) (by simpa using this)
 show wpS _ _ _ _ (if k>0 then _ else _) _ _;by_cases hk1:k>0
 ·rw[Ba hk1]
  have m2:=m.pushA M.sa k (by rw[Gf];lia) (fun x hx z hz=>by
   obtain⟨t,htk,ht⟩:=NX hx;have h1:=p2 t htk;rw[Es ht] at h1;exact C.dropLe M.ub M.sb hvl (M.ua x (Tc ht)) (by simpa using h1) z hz)
  rw[<- Zbn] at m2;by_cases e0:i+k+1=a.size
  ·rw[Ba (by simpa using e0)]
   exact Eb (K.fin _ _ _ _ _ _ _ _ (M.finB m2 e0 hg))
  rw[Aa (by simpa using e0)];by_cases e1:i+k=a.size
  ·rw[Ba (by simpa using e1)]
   exact Eb (K.fin _ _ _ _ _ _ _ _ (M.finA m2 (.inl e1) hg))
  rw[Aa (by simpa using e1)];exact Zb9 K C hk M m2 (by lia) hj (by lia) hvl fb hg
 ·rw[Aa hk1]
  obtain rfl:k=0:=by lia
  exact Zb9 K C hk M m hi hj hp hvl fb hg
end
abbrev Kw:=Option LI4×LI4×Nat×Nat×Nat×Nat
abbrev Cu:=Option LI4×LI4×Nat×Nat×Nat
noncomputable def loE(a b:LI4)(g:Nat)(c:Kw):StateT Xa Sem (ForInStep Kw):=do
 let y <- Xg b c.2.2.2.1
 let z <- Xg a c.2.2.1
 let r <- lt' y z
 match r with
 |some t =>
  if t then do
   let e <- Xg b c.2.2.2.1
   if c.2.2.2.1+1==b.size then pure (.done (some (endA a b (c.2.1.push e) c.2.2.1 (c.2.2.2.1+1)),c.2.1.push e,c.2.2.1,c.2.2.2.1+1,0,c.2.2.2.2.2+1))
   else if c.2.2.2.2.2+1 ≥ g then pure (.done (none,c.2.1.push e,c.2.2.1,c.2.2.2.1+1,0,c.2.2.2.2.2+1))
   else pure (.yield (none,c.2.1.push e,c.2.2.1,c.2.2.2.1+1,0,c.2.2.2.2.2+1))
  else do
   let e <- Xg a c.2.2.1
   if c.2.2.1+1+1==a.size then pure (.done (some (endB a b (c.2.1.push e) (c.2.2.1+1) c.2.2.2.1),c.2.1.push e,c.2.2.1+1,c.2.2.2.1,c.2.2.2.2.1+1,0))
   else if c.2.2.2.2.1+1 ≥ g then pure (.done (none,c.2.1.push e,c.2.2.1+1,c.2.2.2.1,c.2.2.2.2.1+1,0))
   else pure (.yield (none,c.2.1.push e,c.2.2.1+1,c.2.2.2.1,c.2.2.2.2.1+1,0))
 |_=>pure (.done (some (endA a b c.2.1 c.2.2.1 c.2.2.2.1),c.2.1,c.2.2.1,c.2.2.2.1,c.2.2.2.2.1,c.2.2.2.2.2))
def QX(a b:LI4)(g:Nat)(c:Kw):StateT Xa Sem Kw:=forIn [0:a.size+b.size] c fun _ c=>loE a b g c
noncomputable def AX(a b:LI4)(c:Aq):StateT Xa Sem Aq:=forIn [0:a.size+b.size] c fun _ c=>if c.2.2.2.2.1>1 then WJ a b c.2.1 c.2.2.1 c.2.2.2.1 (c.2.2.2.2.1-1) c.2.2.2.2.2.1 c.2.2.2.2.2.2 else WJ a b c.2.1 c.2.2.1 c.2.2.2.1 c.2.2.2.2.1 c.2.2.2.2.2.1 c.2.2.2.2.2.2
noncomputable def loH(a b:LI4)(c:Cu):StateT Xa Sem (ForInStep Cu):=do
 let s <- QX a b c.2.2.2.2 (none,c.2.1,c.2.2.1,c.2.2.2.1,0,0)
 Break.runK.match_1 (fun _=>StateT Xa Sem (ForInStep Cu)) s.1 (fun r=>pure (.done (some r,s.2.1,s.2.2.1,s.2.2.2.1,c.2.2.2.2))) fun _=>do
  rule "list.sort.gallop"
  let s <- AX a b (none,s.2.1,s.2.2.1,s.2.2.2.1,c.2.2.2.2+1,s.2.2.2.2.1,s.2.2.2.2.2)
  Break.runK.match_1 (fun _=>StateT Xa Sem (ForInStep Cu)) s.1 (fun r=>pure (.done (some r,s.2.1,s.2.2.1,s.2.2.2.1,s.2.2.2.2.1))) fun _=>do
   V5 (s.2.2.2.2.1+1)
   pure (.yield (none,s.2.1,s.2.2.1,s.2.2.2.1,s.2.2.2.2.1+1))
noncomputable def loI(a b:LI4):StateT Xa Sem LI4:=do
 rule "list.sort.merge-lo"
 let e <- Xg b 0
 if 1==b.size then pure (endA a b #[e] 0 1)
 else if 0+1==a.size then pure (endB a b #[e] 0 1)
 else do
  let t <- get
  let s <- forIn [0:a.size+b.size] ((none,#[e],0,1,gallopOf t):Cu) fun _ c=>loH a b c
  Break.runK.match_1 (fun _=>StateT Xa Sem LI4) s.1 (fun r=>pure r) fun _=>unsupported "internal:list.sort.merge-bound"
theorem Zi9(a b:LI4):GK a b=loI a b:=rfl
section
variable {st st1:Xa}{a b o:LI4}{i j p g x y:Nat}
theorem Zmw(C:Mc prog w A s κ U R Ok)(hk:Hc st=κ)(M:Je U R Ok a b)(J:Vn R a b st o i j st1){Q:Kw->Xa->Prop}(h1:∀r o i j x y Ca,Vk R a b st r Ca->Q (some r,o,i,j,x,y) Ca)(h2:∀o' i' j' x y Ca,Vn R a b st o' i' j' Ca->i+j+1<=i'+j'->Q (none,o',i',j',x,y) Ca) :
  wpS (La prog w) A E s (QX a b g (none,o,i,j,x,y)) Q st1:=by
 have na:=M.na;refine Hi (I:=fun x' (c:Kw) (Ca:Xa)=>c.1=none/\Vn R a b st c.2.1 c.2.2.1 c.2.2.2.1 Ca/\i+j+x'<=c.2.2.1+c.2.2.2.1) ?_ ?_ ⟨rfl,J,Cb _⟩
 ·rintro x' ⟨o1,o',i',j',u,v⟩ Ca _ hx' ⟨rfl,⟨m,hi,hj,gs,rfl⟩,hp⟩
  dsimp only at m hi hj hp;obtain⟨y,hy,hyl,hym⟩:=Vm hj;obtain⟨z,hz,hzl,hzm⟩:=Vm (show i'<a.size by lia);refine Vb (Mg hy (Vb (Mg hz (Vb (X5 C hk (M.ub _ hym) (M.ua _ hzm) (M.ok _ hym _ hzm) ?_)))));show wpS _ _ _ _ (if R y z=true then _ else _) _ _;cases hR:R y z with
  |true =>
   rw[Ba rfl];refine Vb (Mg hy ?_);have m2:=Je.b1 C M m hyl (C.dropLe M.ua M.sa hzl (M.ub _ hym) (C.asy _ _ (M.ub _ hym) (M.ua _ hzm) hR));by_cases e1:j'+1=b.size
   ·rw[Ba (by simpa using e1)]
    exact Eb (h1 _ _ _ _ _ _ _ (M.finA m2 (.inr e1) ⟨gs,rfl⟩))
   ·rw[Aa (by simpa using e1)]
    have J2:Vn R a b st (o'.push y) i' (j'+1) (Pf st gs):=⟨m2,hi,by lia,gs,rfl⟩
    split
    ·exact Eb (h2 _ _ _ _ _ _ J2 (by dsimp only;lia))
    ·exact Eb ⟨rfl,J2,by dsimp only;lia⟩
  |false =>
   rw[Aa (by decide)];refine Vb (Mg hz ?_);have m2:=Je.a1 C M m hzl (C.dropLe M.ub M.sb hyl (M.ua _ hzm) hR);by_cases e1:i'+1+1=a.size
   ·rw[Ba (by simpa using e1)]
    exact Eb (h1 _ _ _ _ _ _ _ (M.finB m2 e1 ⟨gs,rfl⟩))
   ·rw[Aa (by simpa using e1)]
    have J2:Vn R a b st (o'.push z) (i'+1) j' (Pf st gs):=⟨m2,by lia,hj,gs,rfl⟩
    split
    ·exact Eb (h2 _ _ _ _ _ _ J2 (by dsimp only;lia))
    ·exact Eb ⟨rfl,J2,by dsimp only;lia⟩
 ·rintro⟨o1,o',i',j',u,v⟩ Ca ⟨e1,e2,e3⟩
  dsimp only at e1 e2 e3;subst e1;exact h2 _ _ _ _ _ _ e2 (by lia)
theorem Zmx(C:Mc prog w A s κ U R Ok)(hk:Hc st=κ)(M:Je U R Ok a b)(J:Vn R a b st o i j st1)(hp:p<=i+j){Q:Aq->Xa->Prop}(h1:∀r o i j g x y Ca,Vk R a b st r Ca->Q (some r,o,i,j,g,x,y) Ca)(h2:∀o' i' j' g x y Ca,Vn R a b st o' i' j' Ca->p<=i'+j'->Q (none,o',i',j',g,x,y) Ca) :
  wpS (La prog w) A E s (AX a b (none,o,i,j,g,x,y)) Q st1:=by
 refine Hi (I:=fun _ (c:Aq) (Ca:Xa)=>c.1=none/\Vn R a b st c.2.1 c.2.2.1 c.2.2.2.1 Ca/\p<=c.2.2.1+c.2.2.2.1) ?_ ?_ ⟨rfl,J,hp⟩
 ·rintro x' ⟨o1,o,i,j,g,u,v⟩ Ca _ hx' ⟨rfl,⟨m,hi,hj,hg⟩,hp⟩
  dsimp only at m hi hj hp
  split
  ·exact Zb8 (p:=p) ⟨fun _ _ _ _ _ _ _ _ h=>h1 _ _ _ _ _ _ _ _ h,fun _ _ _ _ _ _ _ h hp=>h2 _ _ _ _ _ _ _ h hp,fun _ _ _ _ _ _ _ h hp=>⟨rfl,h,hp⟩⟩ C hk M m hi hj hp hg
  ·exact Zb8 (p:=p) ⟨fun _ _ _ _ _ _ _ _ h=>h1 _ _ _ _ _ _ _ _ h,fun _ _ _ _ _ _ _ h hp=>h2 _ _ _ _ _ _ _ h hp,fun _ _ _ _ _ _ _ h hp=>⟨rfl,h,hp⟩⟩ C hk M m hi hj hp hg
 ·rintro⟨o1,o',i',j',g,u,v⟩ Ca ⟨e1,e2,e3⟩
  dsimp only at e1 e2 e3;subst e1;exact h2 _ _ _ _ _ _ _ e2 e3
end
theorem Zm0(C:Mc prog w A s κ U R Ok){st:Xa}{a b:LI4}{Q:LI4->Xa->Prop}(hk:Hc st=κ)(M:Je U R Ok a b)(h:∀o Ca,Vk R a b st o Ca->Q o Ca):wpS (La prog w) A E s (GK a b) Q st:=by
 rw[Zi9];obtain⟨b0,hb0,hb0l,hb0m⟩:=Vm M.nb;obtain⟨a0,ha0,ha0l,ha0m⟩:=Vm M.na;refine Vb (wpS_lift (Yp ⟨rfl, ?_⟩));refine Vb (Mg hb0 ?_);have m0:MI R a.toList b.toList (#[]:LI4).toList 0 0:=⟨by simp,List.Pairwise.nil,fun x hx=>by simp at hx,fun x hx=>by simp at hx,Og _,Og _⟩
 have m1:MI R a.toList b.toList (#[b0]:LI4).toList 0 1:=Je.b1 C M m0 hb0l (C.dropLe M.ua M.sa ha0l (M.ub _ hb0m) (M.fst _ _ hb0l ha0l));have g0:∃g,st=Pf st g:=⟨gallopOf st,rfl⟩
 by_cases c1:1=b.size
 ·rw[Ba (by simpa using c1)]
  exact Eb (h _ _ (M.finA m1 (.inr c1) g0))
 rw[Aa (by simpa using c1)];by_cases c2:0+1=a.size
 ·rw[Ba (by simpa using c2)]
  exact Eb (h _ _ (M.finB m1 c2 g0))
 rw[Aa (by simpa using c2)];refine Vb (Sm ?_);have na:=M.na;have nb:=M.nb;refine Vb (Lk (Hi (I:=fun x (c:Cu) (Ca:Xa)=>c.1=none/\Vn R a b st c.2.1 c.2.2.1 c.2.2.2.1 Ca/\x+1<=c.2.2.1+c.2.2.2.1)
  (Q:=fun(c:Cu) (Ca:Xa)=>∃r,c.1=some r/\Vk R a b st r Ca) ?step ?fin ⟨rfl,⟨m1,by dsimp only;lia,by dsimp only;lia,g0⟩,Cb _⟩) ?post)
 case fin =>
  rintro⟨o1,o,i,j,g⟩ Ca ⟨h1,⟨h2,h3,h4,h5⟩,h6⟩;dsimp only at h3 h4 h6;lia
 case post =>
  rintro⟨o1,o,i,j,g⟩ Ca ⟨r,h1,h2⟩;dsimp only at h1;subst h1;exact Eb (h _ _ h2)
 case step =>
  rintro x ⟨o1,o,i,j,g⟩ st1 _ hx ⟨rfl,J,hm⟩;dsimp only at J hm;refine Vb (Zmw C hk M J (fun r o i j x y Ca h=>Eb ⟨r,rfl,h⟩) fun o' i' j' u v Ca J' hp=>?_);refine Vb (wpS_lift (Yp ⟨rfl, ?_⟩));refine Vb (Zmx (p:=x+1+1) C hk M J' (by lia) (fun r o i j g x y Ca h=>Eb ⟨r,rfl,h⟩) fun o' i' j' g u v Ca J' hp=>?_);obtain⟨m,hi,hj,gs,rfl⟩:=J';exact Vb (UE (Eb ⟨rfl,⟨m,hi,hj,_,rfl⟩,hp⟩))
end
def FK:LI4->LI4->StateT Xa Sem LI4:=sortPriv% PySem.Builtin.mergeHi
def Hn(a b o:LI4)(i j:Nat):LI4:=a.extract 0 i++b.extract 0 j++o.reverse
noncomputable def Su(a b o:LI4)(i j:Nat):LI4:=b.extract 0 j++a.extract 0 i++o.reverse
structure MH(R:Ua->Ua->Bool)(a b q:List Ua)(i j:Nat):Prop where
 perm:q.Perm (a.drop i++b.drop j)
 srt:Oc R q
 ga:∀x∈a.take i,∀y∈q,R y x=false
 gb:∀x∈b.take j,∀y∈q,R y x=false
 hi:i<=a.length
 hj:j<=b.length
section
variable {R:Ua->Ua->Bool}{a b q:List Ua}{i j:Nat}
theorem O5(l:List Ua){c i:Nat}(h:c<=i):l.take c++(l.take i).drop c=l.take i:=by
 rw[show l.take c=(l.take i).take c by rw[List.take_take,Nat.min_eq_left h]];exact Ri c (l.take i)
theorem CU(l:List Ua){c i:Nat}(h:c<=i):(l.take i).drop c++l.drop i=l.drop c:=by
 have e:l.take c++((l.take i).drop c++l.drop i)=l.take c++l.drop c:=by
  rw[<- Hf,O5 l h,Ri,Ri]
 exact List.append_cancel_left e
theorem Oc.take{l:List Ua}(h:Oc R l)(i:Nat):Oc R (l.take i):=h.sublist (UP i l)
theorem MH.pushA(M:MH R a b q i j)(sa:Oc R a){c:Nat}(hc:c<=i)(hle:∀x∈b.take j,∀y∈(a.take i).drop c,R y x=false):MH R a b ((a.take i).drop c++q) c j:=by
 have sd:=sa.take i;rw[<- O5 a hc] at sd;obtain⟨s1,s2,s3⟩:=Eh.mp sd;refine⟨?_, ?_, ?_, ?_,Oe hc M.hi,M.hj⟩
 ·refine(List.Perm.append_left _ M.perm).trans ?_
  rw[<- Hf,CU a hc]
 ·exact Eh.mpr ⟨s2,M.srt,fun x hx y hy=>M.ga x (Co hx) y hy⟩
 ·intro x hx y hy
  rcases Ud.mp hy with hy|hy
  ·exact s3 x hx y hy
  ·exact M.ga x (by rw[<- O5 a hc];exact Bf _ hx) y hy
 ·intro x hx y hy
  rcases Ud.mp hy with hy|hy
  ·exact hle x hx y hy
  ·exact M.gb x hx y hy
theorem MH.pushB(M:MH R a b q i j)(sb:Oc R b){c:Nat}(hc:c<=j)(hle:∀x∈a.take i,∀y∈(b.take j).drop c,R y x=false):MH R a b ((b.take j).drop c++q) i c:=by
 have sd:=sb.take j;rw[<- O5 b hc] at sd;obtain⟨s1,s2,s3⟩:=Eh.mp sd;refine⟨?_, ?_, ?_, ?_,M.hi,Oe hc M.hj⟩
 ·refine(List.Perm.append_left _ M.perm).trans ?_
  rw[<- CU b hc];have:∀X Y Z:List Ua,(X++(Y++Z)).Perm (Y++(X++Z)):=fun X Y Z=>by
   rw[<- Hf,<- Hf];exact List.Perm.append_right _ Xz
  exact this _ _ _
 ·exact Eh.mpr ⟨s2,M.srt,fun x hx y hy=>M.gb x (Co hx) y hy⟩
 ·intro x hx y hy
  rcases Ud.mp hy with hy|hy
  ·exact hle x hx y hy
  ·exact M.ga x hx y hy
 ·intro x hx y hy
  rcases Ud.mp hy with hy|hy
  ·exact s3 x hx y hy
  ·exact M.gb x (by rw[<- O5 b hc];exact Bf _ hx) y hy
theorem MH.all_perm(M:MH R a b q i j):(a.take i++(b.take j++q)).Perm (a++b):=by
 refine(List.Perm.append_left _ (List.Perm.append_left _ M.perm)).trans ?_;have p1:∀X Y Z W:List Ua,(X++(Y++(Z++W))).Perm ((X++Z)++(Y++W)):=fun X Y Z W=>by
  rw[Hf];refine List.Perm.append_left _ ?_;rw[<- Hf,<- Hf];exact List.Perm.append_right _ Xz
 refine(p1 _ _ _ _).trans ?_;rw[Ri,Ri]
theorem MH.endA(M:MH R a b q i j)(sa:Oc R a)(sb:Oc R b)(h:i=0\/j=0):Oc R (a.take i++(b.take j++q))/\(a.take i++(b.take j++q)).Perm (a++b):=by
 refine⟨?_,M.all_perm⟩;have sq:Oc R (b.take j++q):=Eh.mpr ⟨sb.take j,M.srt,M.gb⟩;refine Eh.mpr ⟨sa.take i,sq,fun x hx y hy=>?_⟩;rcases h with h|h
 ·rw[h,List.take_zero] at hx;simp at hx
 ·rw[h,List.take_zero,Ot] at hy
  exact M.ga x hx y hy
theorem MH.endB(M:MH R a b q i j)(sa:Oc R a)(sb:Oc R b)(h:∀x∈b.take j,∀y∈a.take i,R y x=false):Oc R (b.take j++(a.take i++q))/\(b.take j++(a.take i++q)).Perm (a++b):=by
 refine⟨?_, ?_⟩
 ·refine Eh.mpr ⟨sb.take j,Eh.mpr ⟨sa.take i,M.srt,M.ga⟩,fun x hx y hy=>?_⟩
  rcases Ud.mp hy with hy|hy
  ·exact h x hx y hy
  ·exact M.gb x hx y hy
 ·refine List.Perm.trans ?_ M.all_perm
  rw[<- Hf,<- Hf];exact List.Perm.append_right _ Xz
end
section
variable {prog:Qc}{w:Xb}{A:Qe}{E:Va->Ha->Prop}{s:Ha}{κ:Si}{U:Ua->Prop}{R:Ua->Ua->Bool}{Ok:Ua->Ua->Prop}
theorem Nr.le{left:Bool}{key:Ua}{arr:LI4}{base n m:Nat}{P:Nat->Bool}(K:Nr U R Ok left key arr base m P)(h:n<=m):Nr U R Ok left key arr base n P:=
 ⟨K.uk,fun i hi=>K.it i (by lia),fun i j h1 h2 h3=>K.mono i j h1 (by lia) h3⟩
theorem Mc.takeLe(C:Mc prog w A s κ U R Ok){l:List Ua}{n:Nat}{v z:Ua}(ul:∀y∈l,U y)(hs:Oc R l)(hn:0<n)(hz:l[n-1]?=some z)(uv:U v)(h:R v z=false):∀x∈l.take n,R v x=false:=fun x hx=>by
 obtain⟨t,ht⟩:=Wj hx;rw[Xj] at ht
 split at ht
 ·rename_i htn
  have h1:=Oc.le C ul hs (show t<=n-1 by lia) ht hz;exact C.tr x z v (ul x (Tc ht)) (ul z (Tc hz)) uv h1 h
 ·cases ht
theorem Z4{l:List Ua}{i:Nat}{x:Ua}(h:x∈l.take i):∃t,t<i/\l[t]?=some x:=by
 obtain⟨t,ht⟩:=Wj h;rw[Xj] at ht
 split at ht
 ·rename_i hi;exact⟨t,hi,ht⟩
 ·cases ht
theorem OX{l:List Ua}{i c:Nat}{x:Ua}(h:x∈(l.take i).drop c):∃t,(c<=t/\t<i)/\l[t]?=some x:=by
 obtain⟨t,ht⟩:=Wj h;rw[Tj,Xj] at ht
 split at ht
 ·rename_i hi;exact⟨c+t,by lia,ht⟩
 ·cases ht
theorem PD{l:List Ua}{i:Nat}{x:Ua}(hi:0<i)(h:l[i-1]?=some x):(l.take i).drop (i-1)=[x]:=by
 have hl:=Pd.mp h;have e:(l.take i)[i-1]?=some x:=by rw[Xj,Ba (by lia),h]
 have h2:=Pd.mp e;rw[Hr h2.1,h2.2,IE (by rw[Ug];lia)]
theorem ZlQ(a b o:LI4)(i j:Nat):(Hn a b o i j).toList=a.toList.take i++(b.toList.take j++o.toList.reverse):=by
 simp[Hn,Hf,Ht]
theorem ZlR(a b o:LI4)(i j:Nat):(Su a b o i j).toList=b.toList.take j++(a.toList.take i++o.toList.reverse):=by
 simp[Su,Hf,Ht]
theorem Zbp(l o:LI4)(q i:Nat):(o++(l.extract q i).reverse).toList.reverse=(l.toList.take i).drop q++o.toList.reverse:=by
 simp[Ht,List.drop_take]
theorem Zbo(o:LI4)(x:Ua):(o.push x).toList.reverse=[x]++o.toList.reverse:=by simp
def Jn(R:Ua->Ua->Bool)(a b:LI4)(st:Xa)(o:LI4)(i j:Nat)(Ca:Xa):Prop:=MH R a.toList b.toList o.toList.reverse i j/\0<i/\1<j/\∃g,Ca=Pf st g
section
variable {st Ca:Xa}{a b o:LI4}{i j:Nat}
theorem Je.hfA(M:Je U R Ok a b)(m:MH R a.toList b.toList o.toList.reverse i j)(h:i=0\/j=0)(hg:∃g,Ca=Pf st g):Vk R a b st (Hn a b o i j) Ca:=by
 obtain⟨h1,h2⟩:=m.endA M.sa M.sb h;rw[<- ZlQ] at h1 h2;exact⟨h1,h2,hg⟩
theorem Je.hfB(C:Mc prog w A s κ U R Ok)(M:Je U R Ok a b)(m:MH R a.toList b.toList o.toList.reverse i j)(h:j=1)(hg:∃g,Ca=Pf st g):Vk R a b st (Su a b o i j) Ca:=by
 obtain⟨a0,ha0,ha0l,ha0m⟩:=Vm M.na;obtain⟨h1,h2⟩:=m.endB M.sa M.sb fun x hx y hy=>by
  obtain⟨t,ht,hx⟩:=Z4 hx;have ht0:t=0:=by lia
  rw[ht0] at hx;have:=C.dropLe M.ua M.sa ha0l (M.ub _ (Tc hx)) (M.fst _ _ hx ha0l);rw[Tv] at this;exact this y (Eo hy)
 rw[<- ZlR] at h1 h2;exact⟨h1,h2,hg⟩
theorem Je.ha1(M:Je U R Ok a b)(m:MH R a.toList b.toList o.toList.reverse i j){x:Ua}(hi:0<i)(hx:a.toList[i-1]?=some x)(hle:∀y∈b.toList.take j,R x y=false):MH R a.toList b.toList (o.push x).toList.reverse (i-1) j:=by
 have:=m.pushA M.sa (c:=i-1) (by lia) (by rw[PD hi hx];intro y hy z hz;rw[Gi.mp hz];exact hle y hy);rw[PD hi hx] at this;rw[Zbo];exact this
theorem Je.hb1(M:Je U R Ok a b)(m:MH R a.toList b.toList o.toList.reverse i j){x:Ua}(hj:0<j)(hx:b.toList[j-1]?=some x)(hle:∀y∈a.toList.take i,R x y=false):MH R a.toList b.toList (o.push x).toList.reverse i (j-1):=by
 have:=m.pushB M.sb (c:=j-1) (by lia) (by rw[PD hj hx];intro y hy z hz;rw[Gi.mp hz];exact hle y hy);rw[PD hj hx] at this;rw[Zbo];exact this
end
abbrev Qq:=Option LI4×Nat×Nat×LI4×Nat×Nat×Nat
noncomputable def EJ(a b o:LI4)(i j g x y:Nat):StateT Xa Sem (ForInStep Qq):=do
 let t <- Xg a (i-1)
 if i-1==0 then pure (.done (some (Hn a b (o.push t) (i-1) j),i-1,j,o.push t,g,x,y))
 else if x<7&&y<7 then pure (.done (none,i-1,j,o.push t,g,x,y))
 else pure (.yield (none,i-1,j,o.push t,g,x,y))
noncomputable def DJ(a b o:LI4)(i j g x y:Nat):StateT Xa Sem (ForInStep Qq):=do
 let t <- Xg b (j-1)
 if j-1==1 then pure (.done (some (Su a b (o.push t) i (j-1)),i,j-1,o.push t,g,x,y))
 else do
  let e <- Xg a (i-1)
  let r <- Ds true e b 0 (j-1) (j-1-1)
  match r with
  |some q =>
   if j-1-q>0 then
    if q==1 then pure (.done (some (Su a b (o.push t++(b.extract q (j-1)).reverse) i q),i,q,o.push t++(b.extract q (j-1)).reverse,g,x,j-1-q))
    else if q==0 then pure (.done (some (Hn a b (o.push t++(b.extract q (j-1)).reverse) i q),i,q,o.push t++(b.extract q (j-1)).reverse,g,x,j-1-q))
    else EJ a b (o.push t++(b.extract q (j-1)).reverse) i q g x (j-1-q)
   else EJ a b (o.push t) i (j-1) g x (j-1-q)
  |_=>pure (.done (some (Hn a b (o.push t) i (j-1)),i,j-1,o.push t,g,x,y))
noncomputable def CJ(a b o:LI4)(i j g x y:Nat):StateT Xa Sem (ForInStep Qq):=do
 V5 g
 let e <- Xg b (j-1)
 let r <- Ds false e a 0 i (i-1)
 match r with
 |some q =>
  if i-q>0 then
   if q==0 then pure (.done (some (Hn a b (o++(a.extract q i).reverse) q j),q,j,o++(a.extract q i).reverse,g,i-q,y))
   else DJ a b (o++(a.extract q i).reverse) q j g (i-q) y
  else DJ a b o i j g (i-q) y
 |_=>pure (.done (some (Hn a b o i j),i,j,o,g,x,y))
structure SF(R:Ua->Ua->Bool)(a b:LI4)(st:Xa)(p n:Nat)(Y:ForInStep Qq->Xa->Prop):Prop where
 fin:∀r o i j g x y Ca,Vk R a b st r Ca->Y (.done (some r,i,j,o,g,x,y)) Ca
 brk:∀o i j g x y Ca,Jn R a b st o i j Ca->i+j+p+1<=n->Y (.done (none,i,j,o,g,x,y)) Ca
 go:∀o i j g x y Ca,Jn R a b st o i j Ca->i+j+p+1<=n->Y (.yield (none,i,j,o,g,x,y)) Ca
section
variable {st st1:Xa}{a b o:LI4}{i j p n g x y:Nat}{Y:ForInStep Qq->Xa->Prop}{v z:Ua}
theorem Zb7(K:SF R a b st p n Y)(M:Je U R Ok a b)(m:MH R a.toList b.toList o.toList.reverse i j)(hi:0<i)(hj:1<j)(hp:i+j+p+1<=n)(hz:a.toList[i-1]?=some z)(fz:∀v∈b.toList.take j,R z v=false)(hg:∃g,st1=Pf st g) :
  wpS (La prog w) A E s (EJ a b o i j g x y) Y st1:=by
 have m4:=M.ha1 m hi hz fz;refine Vb (Mg (B7 hz) ?_);by_cases e4:i-1=0
 ·rw[Ba (by simpa using e4)]
  exact Eb (K.fin _ _ _ _ _ _ _ _ (M.hfA m4 (.inl e4) hg))
 ·rw[Aa (by simpa using e4)]
  split
  ·exact Eb (K.brk _ _ _ _ _ _ _ ⟨m4,by lia,hj,hg⟩ (by lia))
  ·exact Eb (K.go _ _ _ _ _ _ _ ⟨m4,by lia,hj,hg⟩ (by lia))
theorem Zb6(K:SF R a b st p n Y)(C:Mc prog w A s κ U R Ok)(hk:Hc st1=κ)(M:Je U R Ok a b)(m:MH R a.toList b.toList o.toList.reverse i j)(hi:0<i)(hj:1<j)(hp:i+j+p+1<=n)(hv:b.toList[j-1]?=some v)(fb:∀z∈a.toList.take i,R v z=false)(hg:∃g,st1=Pf st g) :
  wpS (La prog w) A E s (DJ a b o i j g x y) Y st1:=by
 have lia:=m.hi;have ljb:=m.hj;rw[Gf] at lia ljb;have m2:=M.hb1 m (by lia) hv fb;refine Vb (Mg (B7 hv) ?_);by_cases e2:j-1=1
 ·rw[Ba (by simpa using e2)]
  exact Eb (K.fin _ _ _ _ _ _ _ _ (Je.hfB C M m2 e2 hg))
 rw[Aa (by simpa using e2)];obtain⟨z,hz,hzl,hzm⟩:=Vm (show i-1<a.size by lia);refine Vb (Mg hz (Vb (Kz C hk ((YY C M.ub M.sb (M.ua _ hzm) (fun y hy=>M.ok y hy _ hzm) (Og b.size)).le (show j-1<=b.size-0 by lia)) (by lia) fun q r1 r2 r3=>?_)));have fz:∀y∈b.toList.take q,R z y=false:=fun y hy=>by
  obtain⟨t,htk,ht⟩:=Z4 hy;have h1:=r2 t htk;rw[Tp,Es ht] at h1;exact C.asy _ _ (M.ub _ (Tc ht)) (M.ua _ hzm) h1
 show wpS _ _ _ _ (if j-1-q>0 then _ else _) _ _;by_cases hk2:j-1-q>0
 ·rw[Ba hk2]
  have m3:=m2.pushB M.sb (c:=q) (by lia) (fun x hx y hy=>by
   obtain⟨t,htk,ht⟩:=OX hy;have h1:=r3 t htk.1 htk.2;rw[Tp,Es ht] at h1;exact C.takeLe M.ua M.sa hi hzl (M.ub _ (Tc ht)) h1 x hx)
  rw[<- Zbp] at m3;by_cases e3:q=1
  ·rw[Ba (by simpa using e3)]
   exact Eb (K.fin _ _ _ _ _ _ _ _ (Je.hfB C M m3 e3 hg))
  rw[Aa (by simpa using e3)];by_cases e5:q=0
  ·rw[Ba (by simpa using e5)]
   exact Eb (K.fin _ _ _ _ _ _ _ _ (M.hfA m3 (.inr e5) hg))
  rw[Aa (by simpa using e5)];exact Zb7 K M m3 hi (by lia) (by lia) hzl fz hg
 ·rw[Aa hk2]
  obtain rfl:q=j-1:=by lia
  exact Zb7 K M m2 hi (by lia) (by lia) hzl fz hg
theorem Zb5(K:SF R a b st p n Y)(C:Mc prog w A s κ U R Ok)(hk:Hc st=κ)(M:Je U R Ok a b)(m:MH R a.toList b.toList o.toList.reverse i j)(hi:0<i)(hj:1<j)(hp:i+j+p+1<=n)(hg:∃g,st1=Pf st g) :
  wpS (La prog w) A E s (CJ a b o i j g x y) Y st1:=by
 have lia:=m.hi;have ljb:=m.hj;rw[Gf] at lia ljb;obtain⟨gs,rfl⟩:=hg;obtain⟨v,hv,hvl,hvm⟩:=Vm (show j-1<b.size by lia);refine Vb (UE (Vb (Mg hv (Vb (Kz C (show Hc (Pf _ _)=κ from hk) ((ZZ C M.ua M.sa (M.ub _ hvm) (M.ok _ hvm) (Og a.size)).le (show i<=a.size-0 by lia)) (by lia) fun q p1 p2 p3=>?_)))));have hg:∃g',Pf (Pf st gs) g=Pf st g':=⟨_,rfl⟩
 have fb:∀z∈a.toList.take q,R v z=false:=fun z hz=>by
  obtain⟨t,htk,ht⟩:=Z4 hz;have h1:=p2 t htk;rw[Tp,Es ht] at h1;simpa using h1
 show wpS _ _ _ _ (if i-q>0 then _ else _) _ _;by_cases hk1:i-q>0
 ·rw[Ba hk1]
  have m2:=m.pushA M.sa (c:=q) (by lia) (fun x hx z hz=>by
   obtain⟨t,htk,ht⟩:=OX hz;have h1:=p3 t htk.1 htk.2;rw[Tp,Es ht] at h1;have uz:=M.ua z (Tc ht);exact C.takeLe M.ub M.sb (by lia) hvl uz (C.asy _ _ (M.ub _ hvm) uz (by simpa using h1)) x hx)
  rw[<- Zbp] at m2;by_cases e0:q=0
  ·rw[Ba (by simpa using e0)]
   exact Eb (K.fin _ _ _ _ _ _ _ _ (M.hfA m2 (.inl e0) hg))
  rw[Aa (by simpa using e0)];exact Zb6 K C hk M m2 (by lia) hj (by lia) hvl fb hg
 ·rw[Aa hk1]
  obtain rfl:q=i:=by lia
  exact Zb6 K C hk M m hi hj hp hvl fb hg
end
abbrev Iw:=Option LI4×Nat×Nat×LI4×Nat×Nat
abbrev Qu:=Option LI4×Nat×Nat×LI4×Nat
noncomputable def Zhu(a b:LI4)(g:Nat)(c:Iw):StateT Xa Sem (ForInStep Iw):=do
 let y <- Xg b (c.2.2.1-1)
 let z <- Xg a (c.2.1-1)
 let r <- lt' y z
 match r with
 |some t =>
  if t then do
   let e <- Xg a (c.2.1-1)
   if c.2.1-1==0 then pure (.done (some (Hn a b (c.2.2.2.1.push e) (c.2.1-1) c.2.2.1),c.2.1-1,c.2.2.1,c.2.2.2.1.push e,c.2.2.2.2.1+1,0))
   else if c.2.2.2.2.1+1 ≥ g then pure (.done (none,c.2.1-1,c.2.2.1,c.2.2.2.1.push e,c.2.2.2.2.1+1,0))
   else pure (.yield (none,c.2.1-1,c.2.2.1,c.2.2.2.1.push e,c.2.2.2.2.1+1,0))
  else do
   let e <- Xg b (c.2.2.1-1)
   if c.2.2.1-1==1 then pure (.done (some (Su a b (c.2.2.2.1.push e) c.2.1 (c.2.2.1-1)),c.2.1,c.2.2.1-1,c.2.2.2.1.push e,0,c.2.2.2.2.2+1))
   else if c.2.2.2.2.2+1 ≥ g then pure (.done (none,c.2.1,c.2.2.1-1,c.2.2.2.1.push e,0,c.2.2.2.2.2+1))
   else pure (.yield (none,c.2.1,c.2.2.1-1,c.2.2.2.1.push e,0,c.2.2.2.2.2+1))
 |_=>pure (.done (some (Hn a b c.2.2.2.1 c.2.1 c.2.2.1),c.2.1,c.2.2.1,c.2.2.2.1,c.2.2.2.2.1,c.2.2.2.2.2))
def VW(a b:LI4)(g:Nat)(c:Iw):StateT Xa Sem Iw:=forIn [0:a.size+b.size] c fun _ c=>Zhu a b g c
noncomputable def UW(a b:LI4)(c:Qq):StateT Xa Sem Qq:=forIn [0:a.size+b.size] c fun _ c=>if c.2.2.2.2.1>1 then CJ a b c.2.2.2.1 c.2.1 c.2.2.1 (c.2.2.2.2.1-1) c.2.2.2.2.2.1 c.2.2.2.2.2.2 else CJ a b c.2.2.2.1 c.2.1 c.2.2.1 c.2.2.2.2.1 c.2.2.2.2.2.1 c.2.2.2.2.2.2
noncomputable def Zhv(a b:LI4)(c:Qu):StateT Xa Sem (ForInStep Qu):=do
 let s <- VW a b c.2.2.2.2 (none,c.2.1,c.2.2.1,c.2.2.2.1,0,0)
 Break.runK.match_1 (fun _=>StateT Xa Sem (ForInStep Qu)) s.1 (fun r=>pure (.done (some r,s.2.1,s.2.2.1,s.2.2.2.1,c.2.2.2.2))) fun _=>do
  rule "list.sort.gallop"
  let s <- UW a b (none,s.2.1,s.2.2.1,s.2.2.2.1,c.2.2.2.2+1,s.2.2.2.2.1,s.2.2.2.2.2)
  Break.runK.match_1 (fun _=>StateT Xa Sem (ForInStep Qu)) s.1 (fun r=>pure (.done (some r,s.2.1,s.2.2.1,s.2.2.2.1,s.2.2.2.2.1))) fun _=>do
   V5 (s.2.2.2.2.1+1)
   pure (.yield (none,s.2.1,s.2.2.1,s.2.2.2.1,s.2.2.2.2.1+1))
noncomputable def Zhw(a b:LI4):StateT Xa Sem LI4:=do
 rule "list.sort.merge-hi"
 let e <- Xg a (a.size-1)
 if a.size-1==0 then pure (Hn a b #[e] (a.size-1) b.size)
 else if b.size==1 then pure (Su a b #[e] (a.size-1) b.size)
 else do
  let t <- get
  let s <- forIn [0:a.size+b.size] ((none,a.size-1,b.size,#[e],gallopOf t):Qu) fun _ c=>Zhv a b c
  Break.runK.match_1 (fun _=>StateT Xa Sem LI4) s.1 (fun r=>pure r) fun _=>unsupported "internal:list.sort.merge-bound"
theorem Zhx(a b:LI4):FK a b=Zhw a b:=rfl
section
variable {st st1:Xa}{a b o:LI4}{i j p n g x y:Nat}
theorem Zmu(C:Mc prog w A s κ U R Ok)(hk:Hc st=κ)(M:Je U R Ok a b)(J:Jn R a b st o i j st1){Q:Iw->Xa->Prop}(h1:∀r o i j x y Ca,Vk R a b st r Ca->Q (some r,i,j,o,x,y) Ca)(h2:∀o' i' j' x y Ca,Jn R a b st o' i' j' Ca->i'+j'+1<=i+j->Q (none,i',j',o',x,y) Ca) :
  wpS (La prog w) A E s (VW a b g (none,i,j,o,x,y)) Q st1:=by
 have na:=M.na;refine Hi (I:=fun x' (c:Iw) (Ca:Xa)=>c.1=none/\Jn R a b st c.2.2.2.1 c.2.1 c.2.2.1 Ca/\c.2.1+c.2.2.1+x'<=i+j) ?_ ?_ ⟨rfl,J,Cb _⟩
 ·rintro x' ⟨o1,i',j',o',u,v⟩ Ca _ hx' ⟨rfl,⟨m,hi,hj,gs,rfl⟩,hp⟩
  dsimp only at m hi hj hp;have lia:=m.hi;have ljb:=m.hj;rw[Gf] at lia ljb;obtain⟨y,hy,hyl,hym⟩:=Vm (show j'-1<b.size by lia);obtain⟨z,hz,hzl,hzm⟩:=Vm (show i'-1<a.size by lia);refine Vb (Mg hy (Vb (Mg hz (Vb (X5 C hk (M.ub _ hym) (M.ua _ hzm) (M.ok _ hym _ hzm) ?_)))));show wpS _ _ _ _ (if R y z=true then _ else _) _ _;cases hR:R y z with
  |true =>
   rw[Ba rfl];refine Vb (Mg hz ?_);have m2:=M.ha1 m hi hzl (C.takeLe M.ub M.sb (by lia) hyl (M.ua _ hzm) (C.asy _ _ (M.ub _ hym) (M.ua _ hzm) hR));by_cases e1:i'-1=0
   ·rw[Ba (by simpa using e1)]
    exact Eb (h1 _ _ _ _ _ _ _ (M.hfA m2 (.inl e1) ⟨gs,rfl⟩))
   ·rw[Aa (by simpa using e1)]
    have J2:Jn R a b st (o'.push z) (i'-1) j' (Pf st gs):=⟨m2,by lia,hj,gs,rfl⟩
    split
    ·exact Eb (h2 _ _ _ _ _ _ J2 (by dsimp only;lia))
    ·exact Eb ⟨rfl,J2,by dsimp only;lia⟩
  |false =>
   rw[Aa (by decide)];refine Vb (Mg hy ?_);have m2:=M.hb1 m (by lia) hyl (C.takeLe M.ua M.sa hi hzl (M.ub _ hym) hR);by_cases e1:j'-1=1
   ·rw[Ba (by simpa using e1)]
    exact Eb (h1 _ _ _ _ _ _ _ (Je.hfB C M m2 e1 ⟨gs,rfl⟩))
   ·rw[Aa (by simpa using e1)]
    have J2:Jn R a b st (o'.push y) i' (j'-1) (Pf st gs):=⟨m2,hi,by lia,gs,rfl⟩
    split
    ·exact Eb (h2 _ _ _ _ _ _ J2 (by dsimp only;lia))
    ·exact Eb ⟨rfl,J2,by dsimp only;lia⟩
 ·rintro⟨o1,i',j',o',u,v⟩ Ca ⟨e1,e2,e3⟩
  dsimp only at e1 e2 e3;subst e1;exact h2 _ _ _ _ _ _ e2 (by lia)
theorem Zmv(C:Mc prog w A s κ U R Ok)(hk:Hc st=κ)(M:Je U R Ok a b)(J:Jn R a b st o i j st1)(hp:i+j+p+1<=n){Q:Qq->Xa->Prop}(h1:∀r o i j g x y Ca,Vk R a b st r Ca->Q (some r,i,j,o,g,x,y) Ca)(h2:∀o' i' j' g x y Ca,Jn R a b st o' i' j' Ca->i'+j'+p+1<=n->Q (none,i',j',o',g,x,y) Ca) :
  wpS (La prog w) A E s (UW a b (none,i,j,o,g,x,y)) Q st1:=by
 refine Hi (I:=fun _ (c:Qq) (Ca:Xa)=>c.1=none/\Jn R a b st c.2.2.2.1 c.2.1 c.2.2.1 Ca/\c.2.1+c.2.2.1+p+1<=n) ?_ ?_ ⟨rfl,J,hp⟩
 ·rintro x' ⟨o1,i,j,o,g,u,v⟩ Ca _ hx' ⟨rfl,⟨m,hi,hj,hg⟩,hp⟩
  dsimp only at m hi hj hp
  split
  ·exact Zb5 (p:=p) (n:=n) ⟨fun _ _ _ _ _ _ _ _ h=>h1 _ _ _ _ _ _ _ _ h,fun _ _ _ _ _ _ _ h hp=>h2 _ _ _ _ _ _ _ h hp,fun _ _ _ _ _ _ _ h hp=>⟨rfl,h,hp⟩⟩ C hk M m hi hj hp hg
  ·exact Zb5 (p:=p) (n:=n) ⟨fun _ _ _ _ _ _ _ _ h=>h1 _ _ _ _ _ _ _ _ h,fun _ _ _ _ _ _ _ h hp=>h2 _ _ _ _ _ _ _ h hp,fun _ _ _ _ _ _ _ h hp=>⟨rfl,h,hp⟩⟩ C hk M m hi hj hp hg
 ·rintro⟨o1,i',j',o',g,u,v⟩ Ca ⟨e1,e2,e3⟩
  dsimp only at e1 e2 e3;subst e1;exact h2 _ _ _ _ _ _ _ e2 e3
end
theorem Zmz(C:Mc prog w A s κ U R Ok){st:Xa}{a b:LI4}{Q:LI4->Xa->Prop}(hk:Hc st=κ)(M:Je U R Ok a b)(h:∀o Ca,Vk R a b st o Ca->Q o Ca):wpS (La prog w) A E s (FK a b) Q st:=by
 rw[Zhx];have na:=M.na;have nb:=M.nb;obtain⟨al,hal,hall,halm⟩:=Vm (show a.size-1<a.size by lia);refine Vb (wpS_lift (Yp ⟨rfl, ?_⟩));refine Vb (Mg hal ?_);have m0:MH R a.toList b.toList (#[]:LI4).toList.reverse a.size b.size:=⟨by simp,List.Pairwise.nil,fun x _ y hy=>by simp at hy,fun x _ y hy=>by simp at hy,by simp,by simp⟩
 have m1:MH R a.toList b.toList (#[al]:LI4).toList.reverse (a.size-1) b.size:=M.ha1 m0 na hall fun y hy=>M.lst y (Eo hy) al hall;have g0:∃g,st=Pf st g:=⟨gallopOf st,rfl⟩
 by_cases c1:a.size-1=0
 ·rw[Ba (by simpa using c1)]
  exact Eb (h _ _ (M.hfA m1 (.inl c1) g0))
 rw[Aa (by simpa using c1)];by_cases c2:b.size=1
 ·rw[Ba (by simpa using c2)]
  exact Eb (h _ _ (Je.hfB C M m1 c2 g0))
 rw[Aa (by simpa using c2)];refine Vb (Sm ?_);refine Vb (Lk (Hi (I:=fun x (c:Qu) (Ca:Xa)=>c.1=none/\Jn R a b st c.2.2.2.1 c.2.1 c.2.2.1 Ca/\c.2.1+c.2.2.1+x+1<=a.size+b.size)
  (Q:=fun(c:Qu) (Ca:Xa)=>∃r,c.1=some r/\Vk R a b st r Ca) ?step ?fin ⟨rfl,⟨m1,by dsimp only;lia,by dsimp only;lia,g0⟩,by dsimp only;lia⟩) ?post)
 case fin =>
  rintro⟨o1,i,j,o,g⟩ Ca ⟨h1,⟨h2,h3,h4,h5⟩,h6⟩;dsimp only at h3 h4 h6;lia
 case post =>
  rintro⟨o1,i,j,o,g⟩ Ca ⟨r,h1,h2⟩;dsimp only at h1;subst h1;exact Eb (h _ _ h2)
 case step =>
  rintro x ⟨o1,i,j,o,g⟩ st1 _ hx ⟨rfl,J,hm⟩;dsimp only at J hm;refine Vb (Zmu C hk M J (fun r o i j x y Ca h=>Eb ⟨r,rfl,h⟩) fun o' i' j' u v Ca J' hp=>?_);refine Vb (wpS_lift (Yp ⟨rfl, ?_⟩));refine Vb (Zmv (p:=x+1) (n:=a.size+b.size) C hk M J' (by lia) (fun r o i j g x y Ca h=>Eb ⟨r,rfl,h⟩) fun o' i' j' g u v Ca J' hp=>?_);obtain⟨m,hi,hj,gs,rfl⟩:=J';exact Vb (UE (Eb ⟨rfl,⟨m,hi,hj,_,rfl⟩,hp⟩))
end
theorem ZiW(i:Nat):mergeAt' i=(do
  let s <- get
  let (some (c,n,p),some (d,m,_)):=((Ac s)[i]?,(Ac s)[i+1]?)|unsupported "internal:list.sort.pending"
  set (Xp s (((Ac s).setIfInBounds i (c,n+m,p)).eraseIdxIfInBounds (i+1)))
  let some k <- Ds false (<- Xg (Ma s) d) (Ma s) c n 0|return false
  let (c,n):=(c+k,n-k)
  if n==0 then return true
  let some m <- Ds true (<- Xg (Ma s) (c+n-1)) (Ma s) d m (m-1)|return false
  if m==0 then return true
  let x:=(Ma s).extract c d
  let y:=(Ma s).extract d (d+m)
  let r <- if n<=m then GK x y else FK x y
  modify fun s=>Kf s (r.toList.zipIdx.foldl (fun a (p,j)=>a.setIfInBounds (c+j) p) (Ma s))
  return (Gj (<- get)).isNone):=rfl
section
variable {prog:Qc}{w:Xb}{A:Qe}{E:Va->Ha->Prop}{s:Ha}{κ:Si}{U:Ua->Prop}{R:Ua->Ua->Bool}{Ok:Ua->Ua->Prop}
theorem ZbF:∀(r:List Ua) (c:Nat) (X:LI4) (n:Nat),c+n+r.length<=X.size->((r.zipIdx n).foldl (fun a (p:Ua×Nat)=>a.setIfInBounds (c+p.2) p.1) X).toList=X.toList.take (c+n)++r++X.toList.drop (c+n+r.length)
 |[],c,X,n,h=>by simp
 |x::r,c,X,n,h=>by
  simp only[Dh] at h;rw[List.zipIdx_cons,LO];have ih:=ZbF r c (X.setIfInBounds (c+n) x) (n+1) (by rw[Array.size_setIfInBounds];lia);rw[ih,ZbL];have hl:c+n<X.toList.length:=by rw[Gf];lia
  rw[show c+(n+1)=c+n+1 by lia];have e1:(X.toList.set (c+n) x).take (c+n+1)=X.toList.take (c+n)++[x]:=by
   rw[List.take_set,List.take_succ_eq_append_getElem hl,VP _ _ (by rw[Ug];lia)];rw[show c+n-(X.toList.take (c+n)).length=0 by rw[Ug,Gf];lia];rfl
  have e2:(X.toList.set (c+n) x).drop (c+n+1+r.length)=X.toList.drop (c+n+1+r.length):=List.drop_set_of_lt (by lia);rw[e1,e2];simp only[Dh,Hf,XE,Q6,Ot];rw[show c+n+(r.length+1)=c+n+1+r.length by lia]
theorem JZ(C:Mc prog w A s κ U R Ok)(left:Bool){X:LI4}{key:Ua}{c n:Nat}{P:List Ua}(hP:∀t,t<n->X[c+t]?=P[t]?)(hn:P.length=n)(ul:∀y∈P,U y)(hs:Oc R P)(uk:U key)(okk:∀y∈P,if left=true then Ok y key else Ok key y) :
  Nr U R Ok left key X c n (fun t=>if left=true then R (P.getD t (.none,.none)) key else !R key (P.getD t (.none,.none))):=by
 have get:∀t,t<n->P[t]?=some (P.getD t (.none,.none)):=fun t ht=>by
  rw[Bb,Rc (by lia)];rfl
 refine⟨uk,fun t ht=>⟨_,by rw[hP t ht,get t ht],ul _ (Tc (get t ht)),okk _ (Tc (get t ht)),rfl⟩,fun t u htu hu h=>?_⟩;have hu':=get u hu;have Ad:=get t (by lia);have h2:=Oc.le C ul hs htu Ad hu';have u1:=ul _ (Tc Ad);have u2:=ul _ (Tc hu');cases left with
 |false =>
  have h:(!R key (P.getD u (.none,.none)))=true:=h;show (!R key (P.getD t (.none,.none)))=true;rw[C.tr _ _ key u1 u2 uk h2 (by simpa using h)];rfl
 |true =>
  have h:R (P.getD u (.none,.none)) key=true:=h;show R (P.getD t (.none,.none)) key=true;cases hc:R (P.getD t (.none,.none)) key with
  |true=>rfl
  |false=>rw[C.tr key _ _ uk u1 u2 hc h2] at h;cases h
theorem Zm2{σ:Type}{M:Model}{v:σ}{Q:PUnit->σ->Prop}{st:σ}(h:Q ⟨⟩ v):wpS M A E s (set v:StateT σ Sem PUnit) Q st:=by
 unfold wpS;rw[StateT.run_set];exact Mb ⟨rfl,h⟩
theorem Zmy(C:Mc prog w A s κ U R Ok){st:Xa}{i c n p d m p2:Nat}{pre P Y post:List Ua}{Q:Bool->Xa->Prop}(hk:Hc st=κ)(hf:Gj st=none)(h1:(Ac st)[i]?=some (c,n,p))(h2:(Ac st)[i+1]?=some (d,m,p2))(hX:(Ma st).toList=pre++(P++(Y++post)))(lp:pre.length=c)(lP:P.length=n)(lY:Y.length=m)(hd:d=c+n)(n0:0<n)(m0:0<m)(uP:∀x∈P,U x)(uY:∀x∈Y,U x)(sP:Oc R P)(sY:Oc R Y)(oPY:∀y∈Y,∀x∈P,Ok y x)(h:∀Ca W,Hc Ca=κ->Gj Ca=none->Ac Ca=((Ac st).setIfInBounds i (c,n+m,p)).eraseIdxIfInBounds (i+1)->(Ma Ca).toList=pre++(W++post)->Oc R W->W.Perm (P++Y)->Q true Ca) :
  wpS (La prog w) A E s (mergeAt' i) Q st:=by
 rw[ZiW];refine Vb (Sm ?_);rw[h1,h2];dsimp only;have size0:(Ma st).size=c+(n+(m+post.length)):=by
  have:=Wf List.length hX;rw[Gf] at this;rw[this];simp[lp,lP,lY]
 have gP:∀t,t<n->(Ma st)[c+t]?=P[t]?:=fun t ht=>by
  rw[<- Ah,hX,Ei (by lia),lp,show c+t-c=t by lia,Pi (by lia)]
 have gY:∀t,t<m->(Ma st)[d+t]?=Y[t]?:=fun t ht=>by
  rw[<- Ah,hX,Ei (by lia),lp,Ei (by lia),lP,show d+t-c-n=t by lia,Pi (by lia)]
 refine Vb (Zm2 ?_);have y0l:Y[0]?=some (Y.getD 0 (.none,.none)):=by rw[Bb,Rc (by lia)];rfl
 generalize Y.getD 0 (.none,.none)=y0 at y0l;have uy0:=uY y0 (Tc y0l);refine Vb (Mg (x:=y0) (by have:=gY 0 m0;rw[Nat.add_zero] at this;rw[this,y0l]) (Vb (Kz C (show Hc (Xp st _)=κ from hk) (JZ C false gP lP uP sP uy0 (fun x hx=>by rw[Aa (by decide)];exact oPY _ (Tc y0l) x hx)) n0 fun k p1 p2 p3=>?_)));dsimp only at p2 p3 ⊢;have gd:∀{l:List Ua}{t:Nat}{x:Ua},l[t]?=some x->l.getD t (.none,.none)=x:=fun {l t x} h=>by rw[Bb,h];rfl
 have pk:∀x∈P.take k,R y0 x=false:=fun x hx=>by
  obtain⟨t,ht,hx⟩:=Z4 hx;have:=p2 t ht;rw[gd hx] at this;simpa using this
 have pk2:∀t x,k<=t->P[t]?=some x->R y0 x=true:=fun t x ht hx=>by
  have hl:=(Pd.mp hx).1;have:=p3 t ht (by lia);rw[gd hx] at this;simpa using this
 by_cases e1:n-k=0
 ·rw[Ba (by simpa using e1)]
  refine Eb (h _ (P++Y) hk hf rfl (by rw[hX,Hf]) (Eh.mpr ⟨sP,sY,fun x hx y hy=>?_⟩) (List.Perm.refl _));have:=C.dropLe uY sY y0l (uP x hx) (pk x (by rw[Ho (by lia)];exact hx));rw[Tv] at this;exact this y hy
 rw[Aa (by simpa using e1)];have ll:P[n-1]?=some (P.getD (n-1) (.none,.none)):=by rw[Bb,Rc (by lia)];rfl
 generalize P.getD (n-1) (.none,.none)=l at ll;have ul:=uP l (Tc ll);refine Vb (Mg (x:=l) (by have:=gP (n-1) (by lia);rw[show c+k+(n-k)-1=c+(n-1) by lia,this,ll]) (Vb (Kz C (show Hc (Xp st _)=κ from hk) (JZ C true gY lY uY sY ul (fun x hx=>by rw[Ba rfl];exact oPY x hx _ (Tc ll))) (by lia) fun k2 r1 r2 r3=>?_)));dsimp only at r2 r3 ⊢;have yk:∀x∈Y.take k2,R x l=true:=fun x hx=>by
  obtain⟨t,ht,hx⟩:=Z4 hx;have:=r2 t ht;rw[gd hx] at this;simpa using this
 have yk2:∀x∈Y.drop k2,R x l=false:=fun x hx=>by
  obtain⟨t,hx⟩:=W9 hx;have hl:=(Pd.mp hx).1;have:=r3 (k2+t) (by lia) (by lia);rw[gd hx] at this;simpa using this
 have pl:∀v,U v->R v l=false->∀x∈P,R v x=false:=fun v uv hv x hx=>C.takeLe uP sP n0 ll uv hv x (by rw[Ho (by lia)];exact hx);by_cases e2:k2=0
 ·rw[Ba (by simpa using e2)]
  subst e2;rw[Tv] at yk2;exact Eb (h _ (P++Y) hk hf rfl (by rw[hX,Hf]) (Eh.mpr ⟨sP,sY,fun x hx y hy=>pl y (uY y hy) (yk2 y hy) x hx⟩) (List.Perm.refl _))
 rw[Aa (by simpa using e2)];have ex:((Ma st).extract (c+k) d).toList=P.drop k:=by
  refine Qo fun t=>?_;rw[V6,Ht,Xj,Tj,Tj,Ah];by_cases ht:t<d-(c+k)
  ·rw[Ba ht,show c+k+t=c+(k+t) by lia,gP (k+t) (by lia)]
  ·rw[Aa ht,Ch (by lia)]
 have ey:((Ma st).extract d (d+k2)).toList=Y.take k2:=by
  refine Qo fun t=>?_;rw[V6,Ht,Xj,Tj,Xj,Ah];by_cases ht:t<k2
  ·rw[Ba (by lia),Ba ht,gY t (by lia)]
  ·rw[Aa (by lia),Aa ht]
 have sx:((Ma st).extract (c+k) d).size=n-k:=by
  have:=Wf List.length ex;rw[Gf,Ao] at this;lia
 have sy:((Ma st).extract d (d+k2)).size=k2:=by
  have:=Wf List.length ey;rw[Gf,Ug] at this;lia
 have MM:Je U R Ok ((Ma st).extract (c+k) d) ((Ma st).extract d (d+k2)):=by
  refine⟨?_, ?_, ?_, ?_, ?_,by lia,by lia,fun x y hx hy=>?_,fun x hx y hy=>?_⟩
  ·rw[ex];exact fun x hx=>uP x (Co hx)
  ·rw[ey];exact fun x hx=>uY x (Eo hx)
  ·rw[ex,ey];exact fun x hx y hy=>oPY x (Eo hx) y (Co hy)
  ·rw[ex];exact sP.drop k
  ·rw[ey];exact sY.take k2
  ·rw[ey,Xj,Ba (by lia),y0l] at hx
   cases hx;rw[ex,Tj,Nat.add_zero] at hy;exact C.asy _ _ uy0 (uP y (Tc hy)) (pk2 k y (Cb _) hy)
  ·rw[ey] at hx
   rw[ex,Tj,sx,show k+(n-k-1)=n-1 by lia,ll] at hy;cases hy;exact C.asy _ _ (uY x (Eo hx)) ul (yk x hx)
 have fin:∀r st2,Vk R ((Ma st).extract (c+k) d) ((Ma st).extract d (d+k2)) (Xp st (((Ac st).setIfInBounds i (c,n+m,p)).eraseIdxIfInBounds (i+1))) r st2 ->
   wpS (La prog w) A E s (do
    modify fun s=>Kf s (r.toList.zipIdx.foldl (fun a (p,j)=>a.setIfInBounds (c+k+j) p) (Ma s))
    return (Gj (<- get)).isNone) Q st2:=by
  rintro r st2 ⟨q1,q2,g,rfl⟩;rw[ex,ey] at q2;have lr:r.toList.length=n-k+k2:=by
   rw[q2.length_eq,Nh,Ao,Ug];lia
  refine Vb (Zq (Vb (Sm (Eb ?_))));show Q ((Gj st).isNone) _;rw[hf];have hw:=ZbF r.toList (c+k) (Ma st) 0 (by lia);have memr:∀x∈r.toList,(x∈P.drop k\/x∈Y.take k2):=fun x hx=>Ud.mp (q2.mem_iff.mp hx);refine h _ (P.take k++(r.toList++Y.drop k2)) hk hf rfl ?_ ?_ ?_
  ·show (r.toList.zipIdx.foldl (fun a (p:Ua×Nat)=>a.setIfInBounds (c+k+p.2) p.1) (Ma st)).toList=_
   rw[hw,Nat.add_zero,hX,lr];have d1:(pre++(P++(Y++post))).take (c+k)=pre++P.take k:=by
    rw[List.take_append,Ho (by lia),lp,show c+k-c=k by lia,List.take_append_of_le_length (by lia)]
   have d2:(pre++(P++(Y++post))).drop (c+k+(n-k+k2))=Y.drop k2++post:=by
    rw[List.drop_append,IE (by lia),Ot,lp,List.drop_append,IE (by lia),Ot,lP,List.drop_append_of_le_length (by lia)];congr 2;lia
   rw[d1,d2];simp only[Hf]
  ·refine Eh.mpr ⟨sP.take k,Eh.mpr ⟨q1,sY.drop k2,fun x hx y hy=>?_⟩,fun x hx y hy=>?_⟩
   ·rcases memr x hx with z|z
    ·exact pl y (uY y (Co hy)) (yk2 y hy) x (Co z)
    ·have sd:=sY
     rw[<- Ri k2 Y] at sd;exact(Eh.mp sd).2.2 x z y hy
   ·have ux:=uP x (Eo hx)
    have hyY:∀y∈Y,R y x=false:=fun y hy=>by
     have:=C.dropLe uY sY y0l ux (pk x hx);rw[Tv] at this;exact this y hy
    rcases Ud.mp hy with z|z
    ·rcases memr y z with z|z
     ·have sd:=sP
      rw[<- Ri k P] at sd;exact(Eh.mp sd).2.2 x hx y z
     ·exact hyY y (Eo z)
    ·exact hyY y (Co z)
  ·have p1:(P.take k++(r.toList++Y.drop k2)).Perm (P.take k++((P.drop k++Y.take k2)++Y.drop k2)):=List.Perm.append_left _ (q2.append_right _)
   refine p1.trans ?_;rw[Hf,Ri,<- Hf,Ri]
 by_cases e3:n-k<=k2
 ·rw[Ba e3]
  exact Vb (Zm0 C (show Hc (Xp st _)=κ from hk) MM fin)
 ·rw[Aa e3]
  exact Vb (Zmz C (show Hc (Xp st _)=κ from hk) MM fin)
end
noncomputable def gA(X:LI4)(i:Nat):Ua:=X.getD i (.none,.none)
theorem Qp{X:LI4}{i:Nat}(h:i<X.size):X[i]?=some (gA X i):=by simp[gA,Array.getD,h]
theorem Hx{X:LI4}{i:Nat}{x:Ua}(h:X[i]?=some x):gA X i=x:=by
 have hi:i<X.size:=by
  rcases Nat.lt_or_ge i X.size with z|z
  ·exact z
  ·rw[BE z] at h;cases h
 rw[Qp hi] at h;exact Option.some.inj h
theorem Cs{X Y:LI4}{i j:Nat}(h:X[i]?=Y[j]?):gA X i=gA Y j:=by
 simp only[gA,Array.getD_eq_getD_getElem?,h]
def Up(R:Ua->Ua->Bool)(X:LI4)(lo m:Nat):Prop:=∀i j,i<j->j<m->R (gA X (lo+j)) (gA X (lo+i))=false
def Uq(R:Ua->Ua->Bool)(X:LI4)(lo m:Nat):Prop:=∀i j,i<j->j<m->R (gA X (lo+i)) (gA X (lo+j))=false
structure Fd(X Y:LI4)(lo m:Nat):Prop where
 perm:Y.Perm X
 out:∀k,k<lo\/lo+m<=k->Y[k]?=X[k]?
theorem Fd.refl(X:LI4)(lo m:Nat):Fd X X lo m:=⟨Array.Perm.refl _,fun _ _=>rfl⟩
theorem Fd.size{X Y:LI4}{lo m:Nat}(h:Fd X Y lo m):Y.size=X.size:=h.perm.size_eq
theorem Fd.trans{X Y Z:LI4}{lo m:Nat}(h:Fd X Y lo m)(g:Fd Y Z lo m):Fd X Z lo m:=⟨g.perm.trans h.perm,fun k hk=>(g.out k hk).trans (h.out k hk)⟩
theorem Fd.wide{X Y:LI4}{lo lo' m m':Nat}(h:Fd X Y lo' m')(h1:lo<=lo')(h2:lo'+m'<=lo+m):Fd X Y lo m:=⟨h.perm,fun k hk=>h.out k (by lia)⟩
theorem Fd.back{X Y:LI4}{lo m q:Nat}(h:Fd X Y lo m)(h1:lo<=q)(h2:q<lo+m)(hq:q<Y.size):∃q',lo<=q'/\q'<lo+m/\q'<X.size/\gA Y q=gA X q':=by
 have hs:=h.size;have eX:X.toList=X.toList.take lo++((X.toList.drop lo).take m++(X.toList.drop lo).drop m):=by rw[Ri,Ri]
 have eY:Y.toList=Y.toList.take lo++((Y.toList.drop lo).take m++(Y.toList.drop lo).drop m):=by rw[Ri,Ri]
 have t1:Y.toList.take lo=X.toList.take lo:=by
  refine Qo fun i=>?_;rw[Xj,Xj]
  split
  ·rw[Ah,Ah];exact h.out i (.inl (by lia))
  ·rfl
 have t2:(Y.toList.drop lo).drop m=(X.toList.drop lo).drop m:=by
  refine Qo fun i=>?_;rw[List.drop_drop,List.drop_drop,Tj,Tj,Ah,Ah];exact h.out _ (.inr (by lia))
 have p:Y.toList.Perm X.toList:=h.perm.toList;rw[eX,eY,t1,t2,List.perm_append_left_iff,List.perm_append_right_iff] at p;have hm:gA Y q∈(Y.toList.drop lo).take m:=by
  refine Tc (i:=q-lo) ?_;rw[Xj,Ba (by lia),Tj,show lo+(q-lo)=q by lia,Ah];exact Qp hq
 obtain⟨t,ht⟩:=Wj (p.mem_iff.mp hm);rw[Xj] at ht
 split at ht
 ·rename_i c
  rw[Tj,Ah] at ht;have hl:lo+t<X.size:=by
   rcases Nat.lt_or_ge (lo+t) X.size with z|z
   ·exact z
   ·rw[BE z] at ht;cases ht
  exact⟨lo+t,by lia,by lia,hl,(Hx ht).symm⟩
 ·cases ht
def An(Ok:Ua->Ua->Prop)(X:LI4)(e:Nat):Prop:=∀p q,p<e->e<=q->q<X.size->Ok (gA X q) (gA X p)
theorem Fd.place{X Y:LI4}{lo m q:Nat}(h:Fd X Y lo m)(hq:q<Y.size):∃q',q'<X.size/\gA Y q=gA X q'/\∀e,e<=lo\/lo+m<=e->(e<=q ↔ e<=q'):=by
 by_cases c:lo<=q/\q<lo+m
 ·obtain⟨q',a,b,d,e⟩:=h.back c.1 c.2 hq
  exact⟨q',d,e,fun e he=>by lia⟩
 ·exact⟨q,by rw[<- h.size];exact hq,Cs (h.out q (by lia)),fun _ _=>Iff.rfl⟩
theorem Fd.sep{Ok:Ua->Ua->Prop}{X Y:LI4}{lo m e:Nat}(h:Fd X Y lo m)(he:e<=lo\/lo+m<=e)(hX:An Ok X e):An Ok Y e:=fun p q hp hq hs=>by
 obtain⟨q',a1,a2,a3⟩:=h.place hs;obtain⟨p',b1,b2,b3⟩:=h.place (q:=p) (by lia);rw[a2,b2];have:=b3 e he;exact hX p' q' (by lia) ((a3 e he).mp hq) a1
section
variable {prog:Qc}{w:Xb}{A:Qe}{E:Va->Ha->Prop}{s:Ha}{κ:Si}{U:Ua->Prop}{R:Ua->Ua->Bool}{Ok:Ua->Ua->Prop}
def Zk(U:Ua->Prop)(X:LI4):Prop:=∀i,i<X.size->U (gA X i)
theorem Zk.stir{X Y:LI4}{lo m:Nat}(h:Zk U X)(t:Fd X Y lo m):Zk U Y:=fun i hi=>by
 have hm:gA Y i∈Y:=by
  have:=Qp hi;exact Array.mem_of_getElem? this
 obtain⟨j,hj⟩:=Array.getElem?_of_mem ((Array.Perm.mem_iff t.perm).mp hm);have hjs:j<X.size:=by
  rcases Nat.lt_or_ge j X.size with z|z
  ·exact z
  ·rw[BE z] at hj;cases hj
 rw[<- Hx hj];exact h j hjs
theorem Lz(C:Mc prog w A s κ U R Ok){st:Xa}{i j:Nat}{Q:Option Bool->Xa->Prop}(hk:Hc st=κ)(hU:Zk U (Ma st))(hi:i<(Ma st).size)(hj:j<(Ma st).size)(ok:Ok (gA (Ma st) i) (gA (Ma st) j))(h:Q (some (R (gA (Ma st) i) (gA (Ma st) j))) st) :
  wpS (La prog w) A E s (ltAt' i j) Q st:=by
 rw[ltAt'_eq];refine Vb (Sm ?_);exact Vb (Mg (Qp hi) (Vb (Mg (Qp hj) (X5 C hk (hU i hi) (hU j hj) ok h))))
theorem Up.more(C:Mc prog w A s κ U R Ok){X:LI4}{lo n:Nat}(hU:Zk U X)(hs:lo+n<X.size)(h:Up R X lo n)(hl:n=0\/R (gA X (lo+n)) (gA X (lo+n-1))=false):Up R X lo (n+1):=fun i j hij hj=>by
 by_cases e:j<n
 ·exact h i j hij e
 ·obtain rfl:j=n:=by lia
  rcases hl with hl|hl
  ·lia
  ·by_cases e2:i=j-1
   ·subst e2;rw[show lo+(j-1)=lo+j-1 by lia];exact hl
   ·have h2:=h i (j-1) (by lia) (by lia)
    rw[show lo+(j-1)=lo+j-1 by lia] at h2;exact C.tr _ _ _ (hU _ (by lia)) (hU _ (by lia)) (hU _ (by lia)) h2 hl
theorem Zms(C:Mc prog w A s κ U R Ok){st:Xa}{lo n ok:Nat}{Q:Bool->Xa->Prop}(hk:Hc st=κ)(hU:Zk U (Ma st))(hn:lo+n<=(Ma st).size)(hok:ok<=n)(n1:1<=n)(hs:Up R (Ma st) lo ok)(hO:∀e,lo+ok<=e->An Ok (Ma st) e)(h:∀Y,Fd (Ma st) Y lo n->Up R Y lo n->Q true (Kf st Y)):wpS (La prog w) A E s (binarySort' lo n ok) Q st:=by
 rw[binarySort'_eq];refine Vb (Lk (Hi
  (I:=fun k (c:Option Bool×Unit) (Ca:Xa)=>c.1=none/\∃Y,Ca=Kf st Y/\Fd (Ma st) Y lo k/\Up R Y lo k)
  (Q:=fun(c:Option Bool×Unit) (Ca:Xa)=>c.1=none/\∃Y,Ca=Kf st Y/\Fd (Ma st) Y lo n/\Up R Y lo n) ?step ?fin ?ini) ?post)
 case ini =>
  refine⟨rfl,Ma st,rfl,Fd.refl _ _ _,fun i j hij hj=>?_⟩;by_cases e:1<=ok
  ·exact hs i j hij (by lia)
  ·lia
 case fin =>
  rintro⟨o,u⟩ Ca ⟨h1,Y,h2,h3,h4⟩;exact⟨h1,Y,h2,h3.wide (Cb _) (by lia),fun i j hij hj=>h4 i j hij (by lia)⟩
 case post =>
  rintro⟨o,u⟩ Ca ⟨h1,Y,rfl,h3,h4⟩;dsimp only at h1;subst h1;exact Eb (h Y h3 h4)
 case step =>
  rintro k ⟨o,u⟩ Ca hk1 hk2 ⟨h1,Y,rfl,h3,h4⟩;dsimp only at h1;subst h1;have hYU:=hU.stir h3;have hYs:=h3.size;refine Vb (Lk (Hi
   (I:=fun x (c:Option Bool×Nat×Nat) (Ca:Xa)=>c.1=none/\Ca=Kf st Y/\c.2.1<=c.2.2/\c.2.2<=k/\(∀i,i<c.2.1->R (gA Y (lo+k)) (gA Y (lo+i))=false)/\(∀i,c.2.2<=i->i<k->R (gA Y (lo+k)) (gA Y (lo+i))=true)/\c.2.2-c.2.1<=k-x)
   (Q:=fun(c:Option Bool×Nat×Nat) (Ca:Xa)=>c.1=none/\Ca=Kf st Y/\c.2.1=c.2.2/\c.2.2<=k/\(∀i,i<c.2.1->R (gA Y (lo+k)) (gA Y (lo+i))=false)/\(∀i,c.2.2<=i->i<k->R (gA Y (lo+k)) (gA Y (lo+i))=true)) ?step1 ?fin1
   ⟨rfl,rfl,Og _,Cb _,fun i hi=>Gb hi (Nat.not_lt_zero _),fun i h1 h2=>Gb h1 (by dsimp only;lia),by dsimp only;lia⟩) ?post1)
  case fin1 =>
   rintro⟨o,l,r⟩ Ca ⟨rfl,q0,q1,q2,q3,q4,q5⟩;dsimp only at q1 q2 q3 q4 q5 ⊢;exact⟨rfl,q0,by lia,q2,q3,q4⟩
  case step1 =>
   rintro x ⟨o,l,r⟩ Ca _ hx ⟨rfl,rfl,q1,q2,q3,q4,q5⟩;dsimp only at q1 q2 q3 q4 q5 ⊢;by_cases hlr:l ≥ r
   ·rw[Ba hlr]
    exact Eb ⟨rfl,rfl,by dsimp only;lia,q2,q3,q4⟩
   ·rw[Aa hlr]
    refine Vb (Lz C (show Hc (Kf st Y)=κ from hk) hYU (show lo+k<Y.size by lia) (show lo+(l+r)/2<Y.size by lia) (h3.sep (.inr (Cb _)) (hO (lo+k) (by lia)) _ _ (by lia) (Cb _) (by lia)) ?_);dsimp only;show wpS _ _ _ _ (if R (gA Y (lo+k)) (gA Y (lo+(l+r)/2))=true then _ else _) _ _;cases hm:R (gA Y (lo+k)) (gA Y (lo+(l+r)/2)) with
    |true =>
     rw[Ba rfl];refine Eb ⟨rfl,rfl,by dsimp only;lia,by dsimp only;lia,q3,fun i i1 i2=>?_,by dsimp only;lia⟩;dsimp only at i1;by_cases e:i=(l+r)/2
     ·subst e;exact hm
     ·cases hc:R (gA Y (lo+k)) (gA Y (lo+i)) with
      |true=>rfl
      |false =>
       have:=h4 ((l+r)/2) i (by lia) i2;rw[C.tr _ _ _ (hYU _ (by lia)) (hYU _ (by lia)) (hYU _ (by lia)) this hc] at hm;cases hm
    |false =>
     rw[Aa (by decide)];refine Eb ⟨rfl,rfl,by dsimp only;lia,q2,fun i i1=>?_,q4,by dsimp only;lia⟩;dsimp only at i1;by_cases e:i=(l+r)/2
     ·subst e;exact hm
     ·have:=h4 i ((l+r)/2) (by lia) (by lia)
      exact C.tr _ _ _ (hYU _ (by lia)) (hYU _ (by lia)) (hYU _ (by lia)) this hm
  case post1 =>
   rintro⟨o,l,r⟩ Ca ⟨rfl,rfl,q1,q2,q3,q4⟩;dsimp only at q1 q2 q3 q4 ⊢;subst q1;rw[moveDown'_eq];refine Vb (Zq (Eb ⟨rfl,bubble Y (lo+k) (lo+k-(lo+l)),rfl, ?_, ?_⟩))
   ·refine(h3.wide (Cb _) (by lia)).trans ⟨bubble_perm _ _ _,fun t ht=>?_⟩
    rw[getElem?_bubble (show lo+k<Y.size by lia) _ (by lia),Aa (by lia),Aa (by lia)]
   ·have bg:∀t,t<=k->gA (bubble Y (lo+k) (lo+k-(lo+l))) (lo+t)=if t=l then gA Y (lo+k) else if l<t then gA Y (lo+t-1) else gA Y (lo+t):=fun t ht=>by
     have e:=getElem?_bubble (show lo+k<Y.size by lia) (lo+k-(lo+l)) (by lia) (lo+t);by_cases e1:t=l
     ·rw[Ba e1];rw[Ba (by lia)] at e;exact Cs e
     ·rw[Aa e1];rw[Aa (by lia)] at e
      by_cases e2:l<t
      ·rw[Ba e2];rw[Ba (by lia)] at e;exact Cs e
      ·rw[Aa e2];rw[Aa (by lia)] at e;exact Cs e
    intro i j hij hj;rw[bg i (by lia),bg j (by lia)];by_cases a1:j=l
    ·rw[Ba a1,Aa (by lia),Aa (by lia)]
     exact q3 i (by lia)
    ·rw[Aa a1]
     by_cases a2:l<j
     ·rw[Ba a2]
      by_cases b1:i=l
      ·rw[Ba b1,show lo+j-1=lo+(j-1) by lia]
       exact C.asy _ _ (hYU _ (by lia)) (hYU _ (by lia)) (q4 (j-1) (by lia) (by lia))
      ·rw[Aa b1]
       by_cases b2:l<i
       ·rw[Ba b2,show lo+j-1=lo+(j-1) by lia,show lo+i-1=lo+(i-1) by lia]
        exact h4 (i-1) (j-1) (by lia) (by lia)
       ·rw[Aa b2,show lo+j-1=lo+(j-1) by lia]
        exact h4 i (j-1) (by lia) (by lia)
     ·rw[Aa a2,Aa (by lia),Aa (by lia)]
      exact h4 i j hij (by lia)
variable {R0:Ua->Ua->Bool}
abbrev Nj(X:LI4)(i j:Nat):LI4:=mirror X i j ((j-i)/2)
theorem VE{st:Xa}{i j:Nat}{Q:Unit->Xa->Prop}(h:Q () (Kf st (Nj (Ma st) i j))):wpS (La prog w) A E s (Z6 i j) Q st:=by
 rw[reverseSlice'_eq];exact Zq h
theorem HK{X:LI4}{i j:Nat}(hij:i<=j)(hj:j<=X.size):Fd X (Nj X i j) i (j-i):=
 ⟨mirror_perm _ _ _ _,fun k hk=>by rw[getElem?_mirror_all hj,Aa (by lia)]⟩
theorem Oq{X:LI4}{i j k:Nat}(hj:j<=X.size)(h1:i<=k)(h2:k<j):gA (Nj X i j) k=gA X (i+j-1-k):=by
 refine Cs ?_;rw[getElem?_mirror_all hj,Ba ⟨h1,h2⟩]
theorem J4{X:LI4}{i j k:Nat}(hj:j<=X.size)(h:k<i\/j<=k):gA (Nj X i j) k=gA X k:=by
 refine Cs ?_;rw[getElem?_mirror_all hj,Aa (by lia)]
def Eqv(R:Ua->Ua->Bool)(X:LI4)(lo a b:Nat):Prop:=∀i j,a<=i->i<b->a<=j->j<b->R (gA X (lo+i)) (gA X (lo+j))=false
theorem Uq.up{X:LI4}{lo n:Nat}(hs:lo+n<=X.size)(h:Uq R X lo n):Up R (Nj X lo (lo+n)) lo n:=fun i j hij hj=>by
 rw[Oq hs (by lia) (by lia),Oq hs (by lia) (by lia),show lo+(lo+n)-1-(lo+j)=lo+(n-1-j) by lia,show lo+(lo+n)-1-(lo+i)=lo+(n-1-i) by lia];exact h _ _ (by lia) (by lia)
structure E1(R0 R:Ua->Ua->Bool)(Ok:Ua->Ua->Prop):Prop where
 up:∀x y,R0 x y=true->R x y=true
 ok:∀x y,Ok x y->R x y=R0 x y
structure Ym(R0 R:Ua->Ua->Bool)(X Y:LI4)(lo q k:Nat):Prop where
 t:Fd X Y lo q
 d:Uq R Y lo q
 e:Eqv R0 Y lo q k
 st:∀i j,i<q->q<=j->j<k->R0 (gA Y (lo+j)) (gA Y (lo+i))=true
 qk:q<k
theorem Ym.turn(C:Mc prog w A s κ U R Ok)(L:E1 R0 R Ok){X Y:LI4}{lo q k n:Nat}(F:Ym R0 R X Y lo q k)(hU:Zk U X)(hs:lo+k<=X.size)(hO:∀e,lo+n<=e->An Ok X e)(hq:n<=q) :
  Fd X (Nj Y (lo+q) (lo+k)) lo k/\Uq R (Nj Y (lo+q) (lo+k)) lo k:=by
 have sz:=F.t.size;have uY:=hU.stir F.t;have qk:=F.qk;have hsY:lo+k<=Y.size:=by lia
 refine⟨(F.t.wide (Cb _) (by lia)).trans ((HK (by lia) hsY).wide (by lia) (by lia)),fun i j hij hj=>?_⟩;by_cases a:i<q
 ·rw[J4 hsY (.inl (by lia))]
  by_cases b:j<q
  ·rw[J4 hsY (.inl (by lia))]
   exact F.d i j hij b
  ·rw[Oq hsY (by lia) (by lia),show lo+q+(lo+k)-1-(lo+j)=lo+(q+k-1-j) by lia]
   exact C.asy _ _ (uY _ (by lia)) (uY _ (by lia)) (L.up _ _ (F.st i (q+k-1-j) a (by lia) (by lia)))
 ·rw[Oq hsY (by lia) (by lia),Oq hsY (by lia) (by lia),show lo+q+(lo+k)-1-(lo+j)=lo+(q+k-1-j) by lia,show lo+q+(lo+k)-1-(lo+i)=lo+(q+k-1-i) by lia]
  have ok:=F.t.sep (e:=lo+(q+k-1-i)) (.inr (by lia)) (hO _ (by lia)) (lo+(q+k-1-j)) (lo+(q+k-1-i)) (by lia) (Cb _) (by lia);rw[L.ok _ _ ok];exact F.e _ _ (by lia) (by lia) (by lia) (by lia)
theorem Ym.plain(C:Mc prog w A s κ U R Ok)(L:E1 R0 R Ok){X Y:LI4}{lo q:Nat}(F:Ym R0 R X Y lo q (q+1))(hU:Zk U X)(hs:lo+(q+1)<=X.size):Fd X Y lo (q+1)/\Uq R Y lo (q+1):=by
 have sz:=F.t.size;have uY:=hU.stir F.t;refine⟨F.t.wide (Cb _) (by lia),fun i j hij hj=>?_⟩;by_cases b:j<q
 ·exact F.d i j hij b
 ·exact C.asy _ _ (uY _ (by lia)) (uY _ (by lia)) (L.up _ _ (F.st i j (by lia) (by lia) hj))
theorem Ym.above(C0:Mc prog w A s κ U R0 (fun _ _=>True)){X Y:LI4}{lo q k:Nat}(F:Ym R0 R X Y lo q k)(hU:Zk U X)(hs:lo+k<=X.size)(i:Nat)(hi:i<k):R0 (gA Y (lo+i)) (gA Y (lo+(k-1)))=false:=by
 have sz:=F.t.size;have uY:=hU.stir F.t;have qk:=F.qk;by_cases a:i<q
 ·exact C0.asy _ _ (uY _ (by lia)) (uY _ (by lia)) (F.st i (k-1) a (by lia) (by lia))
 ·exact F.e i (k-1) (by lia) hi (by lia) (by lia)
theorem FX(C0:Mc prog w A s κ U R0 (fun _ _=>True)){x y z:Ua}(ux:U x)(uy:U y)(uz:U z)(h1:R0 x y=true)(h2:R0 z y=false):R0 x z=true:=by
 cases h:R0 x z with
 |true=>rfl
 |false=>rw[C0.tr y z x uy uz ux h2 h] at h1;cases h1
theorem ZbC(C:Mc prog w A s κ U R Ok){st:Xa}{X Z:LI4}{lo n N:Nat}{Q:Option Nat->Xa->Prop}(hk:Hc st=κ)(hU:Zk U X)(hn:lo+N<=X.size)(n1:1<=n)(nN:n<=N)(hO:∀e,lo+n<=e->An Ok X e)(t:Fd X Z lo n)(d:Uq R Z lo n)(h:∀m Y,n<=m->m<=N->Fd X Y lo m->Up R Y lo m->Q (some m) (Kf st Y)) :
  wpS (La prog w) A E s (do
   let mut n:=n
   Z6 lo (lo+n)
   for _ in [n:N] do
    let some smaller <- ltAt' (lo+n) (lo+n-1)|return none
    if smaller then break
    n:=n+1
   return some n:StateT Xa Sem (Option Nat)) Q (Kf st Z):=by
 have sZ:=t.size;refine Vb (VE ?_);have t3:Fd X (Nj Z lo (lo+n)) lo n:=t.trans ((HK (by lia) (by lia)).wide (Cb _) (by lia));have u3:Up R (Nj Z lo (lo+n)) lo n:=d.up (by lia);show wpS _ _ _ _ _ _ (Kf st (Nj Z lo (lo+n)));generalize Nj Z lo (lo+n)=Y at t3 u3;have sz3:=t3.size;have uY:=hU.stir t3;refine Vb (Lk (Hi
  (I:=fun x (c:Option (Option Nat)×Nat) (Ca:Xa)=>c.1=none/\Ca=Kf st Y/\c.2=x/\Up R Y lo x)
  (Q:=fun(c:Option (Option Nat)×Nat) (Ca:Xa)=>c.1=none/\Ca=Kf st Y/\(n<=c.2/\c.2<=N)/\Up R Y lo c.2) ?_ ?_ ⟨rfl,rfl,rfl,u3⟩) ?_)
 ·rintro x ⟨o,k⟩ Ca hx1 hx2 ⟨rfl,rfl,h3,h4⟩
  dsimp only at h3 ⊢;subst h3;refine Vb (Lz C (show Hc (Kf st Y)=κ from hk) uY (show lo+k<Y.size by lia) (show lo+k-1<Y.size by lia) (t3.sep (e:=lo+k) (.inr (by lia)) (hO _ (by lia)) _ _ (by lia) (Cb _) (by lia)) ?_);dsimp only;show wpS _ _ _ _ (if R (gA Y (lo+k)) (gA Y (lo+k-1))=true then _ else _) _ _;cases hR:R (gA Y (lo+k)) (gA Y (lo+k-1)) with
  |true =>
   rw[Ba rfl];exact Eb ⟨rfl,rfl,⟨hx1,by dsimp only;lia⟩,h4⟩
  |false =>
   rw[Aa (by decide)];exact Eb ⟨rfl,rfl,rfl,h4.more C uY (by lia) (.inr hR)⟩
 ·rintro⟨o,k⟩ Ca ⟨h1,h2,h3,h4⟩
  dsimp only at h3 ⊢;subst h3;exact⟨h1,h2,by lia,h4⟩
 ·rintro⟨o,k⟩ Ca ⟨rfl,rfl,h3,h4⟩
  dsimp only at h3 h4 ⊢;exact Eb (h k Y h3.1 h3.2 (t3.wide (Cb _) (by lia)) h4)
theorem Zb4(C:Mc prog w A s κ U R Ok)(C0:Mc prog w A s κ U R0 (fun _ _=>True))(L:E1 R0 R Ok){st:Xa}{X:LI4}{lo n N:Nat}{Q:Option Nat->Xa->Prop}(hk:Hc st=κ)(hU:Zk U X)(hn:lo+N<=X.size)(n1:1<=n)(nN:n<N)(hO:∀e,lo+n<=e->An Ok X e)(d1:Uq R X lo n)(s1:∀i,i<n->R0 (gA X (lo+n)) (gA X (lo+i))=true)(h:∀m Y,n<=m->m<=N->Fd X Y lo m->Up R Y lo m->Q (some m) (Kf st Y)) :
  wpS (La prog w) A E s (do
   rule "list.sort.descending-run"
   let mut n:=n+1
   let mut neq:=0
   for _ in [n:N] do
    let some smaller <- ltAt' (lo+n) (lo+n-1)|return none
    if smaller then
     if neq>0 then Z6 (lo+n-(neq+1)) (lo+n)
     neq:=0
    else
     let some larger <- ltAt' (lo+n-1) (lo+n)|return none
     if larger then break
     neq:=neq+1
    n:=n+1
   if neq>0 then Z6 (lo+n-(neq+1)) (lo+n)
   Z6 lo (lo+n)
   for _ in [n:N] do
    let some smaller <- ltAt' (lo+n) (lo+n-1)|return none
    if smaller then break
    n:=n+1
   return some n:StateT Xa Sem (Option Nat)) Q (Kf st X):=by
 refine Vb (wpS_lift (Yp ⟨rfl, ?_⟩));have irr:∀{x:Ua},U x->R0 x x=false:=fun {x} u=>by
  cases h:R0 x x with
  |false=>rfl
  |true=>have:=C0.asy x x u u h;rw[h] at this;cases this
 refine Vb (Lk (Hi
  (I:=fun x (c:Option (Option Nat)×Nat×Nat) (Ca:Xa)=>c.1=none/\c.2.1=x/\c.2.2<x/\∃Y,Ca=Kf st Y/\Ym R0 R X Y lo (x-1-c.2.2) x/\n<=x-1-c.2.2)
  (Q:=fun(c:Option (Option Nat)×Nat×Nat) (Ca:Xa)=>c.1=none/\(n+1<=c.2.1/\c.2.1<=N)/\c.2.2<c.2.1/\∃Y,Ca=Kf st Y/\Ym R0 R X Y lo (c.2.1-1-c.2.2) c.2.1/\n<=c.2.1-1-c.2.2) ?_ ?_
  ⟨rfl,rfl,Nat.succ_pos _,X,rfl,⟨(Fd.refl _ _ _),d1,fun i j i1 i2 j1 j2=>?_,fun i j i1 j1 j2=>?_, ?_⟩, ?_⟩) ?_)
 ·rintro x ⟨o,k,e⟩ Ca hx1 hx2 ⟨rfl,h3,he,Y,rfl,F,hq⟩
  dsimp only at h3 he F hq ⊢;subst h3;have szY:=F.t.size;have uY:=hU.stir F.t;have kN:k<N:=by lia
  have i1:lo+k<Y.size:=by lia
  have i2:lo+k-1<Y.size:=by lia
  have ek:lo+(k-1)=lo+k-1:=by lia
  refine Vb (Lz C0 (show Hc (Kf st Y)=κ from hk) uY i1 i2 trivial ?_);dsimp only;show wpS _ _ _ _ (if R0 (gA Y (lo+k)) (gA Y (lo+k-1))=true then _ else _) _ _;have nxt:∀Z,Fd X Z lo k->Uq R Z lo k->(∀i,i<k->R0 (gA Z (lo+k)) (gA Z (lo+i))=true)->Ym R0 R X Z lo (k+1-1-0) (k+1):=fun Z t d a=>by
   rw[show k+1-1-0=k by lia];have uZ:=hU.stir t;have sZ:=t.size;refine⟨t,d,fun i j a1 a2 b1 b2=>?_,fun i j a1 b1 b2=>?_,VF _⟩
   ·obtain rfl:i=k:=by lia
    obtain rfl:j=i:=by lia
    exact irr (uZ _ (by lia))
   ·obtain rfl:j=k:=by lia
    exact a i a1
  cases hR:R0 (gA Y (lo+k)) (gA Y (lo+k-1)) with
  |true =>
   rw[Ba rfl];have low:∀i,i<k->R0 (gA Y (lo+k)) (gA Y (lo+i))=true:=fun i hi=>by
    have:=F.above C0 hU (by lia) i hi;rw[ek] at this;exact FX C0 (uY _ i1) (uY _ i2) (uY _ (by lia)) hR this
   by_cases he0:e>0
   ·rw[Ba he0]
    obtain⟨t2,d2⟩:=F.turn C L hU (by lia) hO hq;rw[show lo+(k-1-e)=lo+k-(e+1) by lia] at t2 d2;refine Vb (VE (Eb ⟨rfl,rfl,Nat.succ_pos _,Nj Y (lo+k-(e+1)) (lo+k),rfl,nxt _ t2 d2 fun i hi=>?_, ?_⟩))
    ·have hsY:lo+k<=Y.size:=by lia
     rw[J4 hsY (.inr (Cb _))];by_cases a:lo+i<lo+k-(e+1)
     ·rw[J4 hsY (.inl a)];exact low i hi
     ·rw[Oq hsY (by lia) (by lia),show lo+k-(e+1)+(lo+k)-1-(lo+i)=lo+(k-(e+1)+k-1-i) by lia]
      exact low _ (by lia)
    ·dsimp only;lia
   ·rw[Aa he0]
    obtain rfl:e=0:=by lia
    have F':Ym R0 R X Y lo (k-1) (k-1+1):=by
     rw[show k-1+1=k by lia];exact F
    obtain⟨t2,d2⟩:=F'.plain C L hU (by lia);rw[show k-1+1=k by lia] at t2 d2;exact Eb ⟨rfl,rfl,Nat.succ_pos _,Y,rfl,nxt _ t2 d2 low,by dsimp only;lia⟩
  |false =>
   rw[Aa (by decide)];refine Vb (Lz C0 (show Hc (Kf st Y)=κ from hk) uY i2 i1 trivial ?_);dsimp only;show wpS _ _ _ _ (if R0 (gA Y (lo+k-1)) (gA Y (lo+k))=true then _ else _) _ _;cases hL:R0 (gA Y (lo+k-1)) (gA Y (lo+k)) with
   |true =>
    rw[Ba rfl];exact Eb ⟨rfl,⟨by dsimp only;lia,by dsimp only;lia⟩,he,Y,rfl,F,hq⟩
   |false =>
    rw[Aa (by decide)];refine Eb ⟨rfl,rfl,Nat.succ_lt_succ he,Y,rfl, ?_, ?_⟩
    ·dsimp only
     rw[show k+1-1-(e+1)=k-1-e by lia];have qk:=F.qk;have bd:∀q,q<k->U (gA Y (lo+q)):=fun q hq=>uY _ (by lia);have gr:∀q,k-1-e<=q->q<k->R0 (gA Y (lo+q)) (gA Y (lo+k))=false/\R0 (gA Y (lo+k)) (gA Y (lo+q))=false:=fun q q1 q2=>by
      have z1:=F.e q (k-1) q1 q2 (by lia) (by lia);have z2:=F.e (k-1) q (by lia) (by lia) q1 q2;rw[ek] at z1 z2;exact⟨C0.tr _ _ _ (uY _ i1) (uY _ i2) (bd q q2) hL z1,C0.tr _ _ _ (bd q q2) (uY _ i2) (uY _ i1) z2 hR⟩
     refine⟨F.t,F.d,fun i j a1 a2 b1 b2=>?_,fun i j a1 b1 b2=>?_,by lia⟩
     ·by_cases a:i<k
      ·by_cases b:j<k
       ·exact F.e i j a1 a b1 b
       ·obtain rfl:j=k:=by lia
        exact(gr i a1 a).1
      ·obtain rfl:i=k:=by lia
       by_cases b:j<i
       ·exact(gr j b1 b).2
       ·obtain rfl:j=i:=by lia
        exact irr (uY _ i1)
     ·by_cases b:j<k
      ·exact F.st i j a1 b1 b
      ·obtain rfl:j=k:=by lia
       have z:=F.st i (j-1) a1 (by lia) (by lia);rw[ek] at z;cases hc:R0 (gA Y (lo+j)) (gA Y (lo+i)) with
       |true=>rfl
       |false=>rw[C0.tr _ _ _ (bd i (by lia)) (uY _ i1) (uY _ i2) hc hL] at z;cases z
    ·dsimp only;lia
 ·rintro⟨o,k,e⟩ Ca ⟨h1,h3,he,Y,h4,F,hq⟩
  dsimp only at h3 he F hq ⊢;subst h3;rw[show max (n+1) N=N by lia] at *;exact⟨h1,⟨by lia,Cb _⟩,he,Y,h4,F,hq⟩
 ·dsimp only at i1 j1
  obtain rfl:i=n:=by lia
  obtain rfl:j=i:=by lia
  exact irr (hU _ (by lia))
 ·dsimp only at i1 j1
  obtain rfl:j=n:=by lia
  exact s1 i (by lia)
 ·dsimp only;lia
 ·dsimp only;lia
 ·rintro⟨o,n2,e⟩ Ca ⟨rfl,hn2,he,Y,rfl,F,hq⟩
  dsimp only at hn2 he F hq ⊢;have hO2:∀e,lo+n2<=e->An Ok X e:=fun e h=>hO e (by lia);by_cases he0:e>0
  ·rw[Ba he0]
   refine Vb (VE ?_);obtain⟨t2,d2⟩:=F.turn C L hU (by lia) hO hq;rw[show lo+(n2-1-e)=lo+n2-(e+1) by lia] at t2 d2;exact ZbC C hk hU hn (by lia) hn2.2 hO2 t2 d2 fun m Y a b=>h m Y (by lia) b
  ·rw[Aa he0]
   obtain rfl:e=0:=by lia
   have F':Ym R0 R X Y lo (n2-1) (n2-1+1):=by
    rw[show n2-1+1=n2 by lia];exact F
   obtain⟨t2,d2⟩:=F'.plain C L hU (by lia);rw[show n2-1+1=n2 by lia] at t2 d2;exact ZbC C hk hU hn (by lia) hn2.2 hO2 t2 d2 fun m Y a b=>h m Y (by lia) b
theorem Zmt(C:Mc prog w A s κ U R Ok)(C0:Mc prog w A s κ U R0 (fun _ _=>True))(L:E1 R0 R Ok){st:Xa}{lo N:Nat}{Q:Option Nat->Xa->Prop}(hk:Hc st=κ)(hU:Zk U (Ma st))(hn:lo+N<=(Ma st).size)(n1:1<=N)(hO:∀e,lo<e->An Ok (Ma st) e)(h:∀m Y,1<=m->m<=N->Fd (Ma st) Y lo m->Up R Y lo m->Q (some m) (Kf st Y)):wpS (La prog w) A E s (countRun' lo N) Q st:=by
 rw[countRun'_eq];refine Vb (Lk (Hi
  (I:=fun x (c:Option (Option Nat)×Nat) (Ca:Xa)=>c.1=none/\Ca=st/\c.2=x/\Up R (Ma st) lo x)
  (Q:=fun(c:Option (Option Nat)×Nat) (Ca:Xa)=>c.1=none/\Ca=st/\(1<=c.2/\c.2<=N)/\Up R (Ma st) lo c.2/\(c.2=N\/R (gA (Ma st) (lo+c.2)) (gA (Ma st) (lo+c.2-1))=true)) ?step ?fin ⟨rfl,rfl,rfl,fun i j hij hj=>by lia⟩) ?post)
 case fin =>
  rintro⟨o,n⟩ Ca ⟨h1,h2,h3,h4⟩;dsimp only at h1 h3 ⊢;subst h3;exact⟨h1,h2,by lia,h4,.inl (by lia)⟩
 case step =>
  rintro x ⟨o,n⟩ Ca hx1 hx2 ⟨rfl,rfl,h3,h4⟩;dsimp only at h3 ⊢;subst h3;refine Vb (Lz C hk hU (show lo+n<_ by lia) (show lo+n-1<_ by lia) (hO (lo+n) (by lia) _ _ (by lia) (Cb _) (by lia)) ?_);dsimp only;cases hR:R (gA (Ma Ca) (lo+n)) (gA (Ma Ca) (lo+n-1)) with
  |true =>
   rw[Ba rfl];exact Eb ⟨rfl,rfl,by dsimp only;lia,h4,.inr hR⟩
  |false =>
   rw[Aa (by decide)];exact Eb ⟨rfl,rfl,rfl,h4.more C hU (by lia) (.inr hR)⟩
 case post =>
  rintro⟨o,n⟩ Ca ⟨h1,h2,h3,h4,h5⟩;have h2:=h2.symm;subst h2;dsimp only at h1 h3 h4 h5 ⊢;subst h1;dsimp only;by_cases e1:n=N
  ·rw[Ba (by simpa using e1)]
   exact Eb (h n (Ma st) h3.1 h3.2 (Fd.refl _ _ _) h4)
  rw[Aa (by simpa using e1)];have h5:=h5.resolve_left e1;have bn:lo+n<(Ma st).size:=by lia
  have bn1:lo+n-1<(Ma st).size:=by lia
  have en:lo+(n-1)=lo+n-1:=by lia
  rw[L.ok _ _ (hO (lo+n) (by lia) (lo+n-1) _ (by lia) (Cb _) bn)] at h5;have u:∀q,q<n->U (gA (Ma st) (lo+q)):=fun q hq=>hU _ (by lia);have un:=hU _ bn;have un1:U (gA (Ma st) (lo+n-1)):=hU _ bn1;by_cases e2:n>1
  ·rw[Ba e2]
   refine Vb (Lz C0 hk hU (show lo<_ by lia) bn1 trivial ?_);dsimp only;cases hR:R0 (gA (Ma st) lo) (gA (Ma st) (lo+n-1)) with
   |true =>
    rw[Ba rfl];exact Eb (h n (Ma st) h3.1 h3.2 (Fd.refl _ _ _) h4)
   |false =>
    rw[Aa (by decide)];refine Vb (VE ?_);have u0:Up R0 (Ma st) lo n:=fun i j hij hj=>by
     cases hc:R0 (gA (Ma st) (lo+j)) (gA (Ma st) (lo+i)) with
     |false=>rfl
     |true=>have:=L.up _ _ hc;rw[h4 i j hij hj] at this;cases this
    have irr:∀{x:Ua},U x->R0 x x=false:=fun {x} u=>by
     cases h:R0 x x with
     |false=>rfl
     |true=>have:=C0.asy x x u u h;rw[h] at this;cases this
    have ul:U (gA (Ma st) lo):=u 0 (by lia);have le1:∀q,q<n->R0 (gA (Ma st) (lo+q)) (gA (Ma st) lo)=false/\R0 (gA (Ma st) (lo+n-1)) (gA (Ma st) (lo+q))=false:=fun q hq=>by
     refine⟨?_, ?_⟩
     ·by_cases z:q=0
      ·subst z;exact irr ul
      ·exact u0 0 q (by lia) hq
     ·by_cases z:q=n-1
      ·subst z;rw[en];exact irr un1
      ·have:=u0 q (n-1) (by lia) (by lia);rw[en] at this;exact this
    have eq1:∀i j,i<n->j<n->R0 (gA (Ma st) (lo+i)) (gA (Ma st) (lo+j))=false:=fun i j hi hj=>C0.tr _ _ _ (u j hj) ul (u i hi) (C0.tr _ _ _ (u j hj) un1 ul (le1 j hj).2 hR) (le1 i hi).1;have t0:Fd (Ma st) (Nj (Ma st) lo (lo+n)) lo n:=(HK (by lia) (by lia)).wide (Cb _) (by lia);have hs:lo+n<=(Ma st).size:=by lia
    have d0:Uq R (Nj (Ma st) lo (lo+n)) lo n:=fun i j hij hj=>by
     rw[Oq hs (by lia) (by lia),Oq hs (by lia) (by lia),show lo+(lo+n)-1-(lo+j)=lo+(n-1-j) by lia,show lo+(lo+n)-1-(lo+i)=lo+(n-1-i) by lia];rw[L.ok _ _ (hO (lo+(n-1-i)) (by lia) (lo+(n-1-j)) _ (by lia) (Cb _) (by lia))];exact eq1 _ _ (by lia) (by lia)
    have s0:∀i,i<n->R0 (gA (Nj (Ma st) lo (lo+n)) (lo+n)) (gA (Nj (Ma st) lo (lo+n)) (lo+i))=true:=fun i hi=>by
     rw[J4 hs (.inr (Cb _)),Oq hs (by lia) (by lia),show lo+(lo+n)-1-(lo+i)=lo+(n-1-i) by lia];refine FX C0 un un1 (u _ (by lia)) h5 ?_;rw[<- en];exact eq1 _ _ (by lia) (by lia)
    exact Zb4 C C0 L hk (hU.stir t0) (by rw[t0.size];exact hn) h3.1 (by lia) (fun e he=>t0.sep (.inr he) (hO e (by lia))) d0 s0 fun m Y a b c d=>h m Y (by lia) b ((t0.wide (Cb _) (by lia)).trans c) d
  ·rw[Aa e2]
   obtain rfl:n=1:=by lia
   show wpS _ _ _ _ _ _ (Kf st (Ma st));refine Zb4 C C0 L hk hU hn (Cb _) (by lia) (fun e he=>hO e (by lia)) (fun i j hij hj=>by lia) (fun i hi=>?_) fun m Y a b c d=>h m Y a b c d;obtain rfl:i=0:=by lia
   rw[show lo+1-1=lo+0 by lia] at h5;exact h5
end
abbrev Zm:=Nat×Nat×Nat
def Ow(R:Ua->Ua->Bool)(Ok:Ua->Ua->Prop)(X:LI4)(c n:Nat):Prop:=Up R X c n/\An Ok X c
def Be(R:Ua->Ua->Bool)(Ok:Ua->Ua->Prop)(X:LI4):Nat->List Zm->Nat->Prop
 |s,[],e=>s=e
 |s,(c,n,_)::r,e=>c=s/\0<n/\Ow R Ok X c n/\Be R Ok X (s+n) r e
section
variable {prog:Qc}{w:Xb}{A:Qe}{E:Va->Ha->Prop}{s:Ha}{κ:Si}{U:Ua->Prop}{R:Ua->Ua->Bool}{Ok:Ua->Ua->Prop}
theorem Be.le{X:LI4}:∀{L:List Zm}{a e:Nat},Be R Ok X a L e->a+L.length<=e
 |[],a,e,h=>by have h:a=e:=h;simp[h]
 |(c,n,p)::L,a,e,h=>by
  obtain⟨_,h1,_,h2⟩:=h;have:=Be.le h2;simp only[Dh];lia
theorem Be.app{X:LI4}:∀{L M:List Zm}{a e:Nat},Be R Ok X a (L++M) e ↔ ∃q,Be R Ok X a L q/\Be R Ok X q M e
 |[],M,a,e=>⟨fun h=>⟨a,rfl,h⟩,fun⟨q,h1,h2⟩=>by have h1:a=q:=h1;subst h1;exact h2⟩
 |(c,n,p)::L,M,a,e=>by
  show (c=a/\0<n/\Ow R Ok X c n/\Be R Ok X (a+n) (L++M) e) ↔ ∃q,(c=a/\0<n/\Ow R Ok X c n/\Be R Ok X (a+n) L q)/\Be R Ok X q M e;constructor
  ·rintro⟨h1,h2,h3,h4⟩
   obtain⟨q,q1,q2⟩:=Be.app.mp h4;exact⟨q,⟨h1,h2,h3,q1⟩,q2⟩
  ·rintro⟨q,⟨h1,h2,h3,h4⟩,q2⟩
   exact⟨h1,h2,h3,Be.app.mpr ⟨q,h4,q2⟩⟩
theorem Up.stir{X Y:LI4}{lo m c n:Nat}(h:Up R X c n)(t:Fd X Y lo m)(d:c+n<=lo\/lo+m<=c):Up R Y c n:=fun i j hij hj=>by
 rw[Cs (t.out (c+j) (by lia)),Cs (t.out (c+i) (by lia))];exact h i j hij hj
theorem Ow.stir{X Y:LI4}{lo m c n:Nat}(h:Ow R Ok X c n)(t:Fd X Y lo m)(d:c+n<=lo\/lo+m<=c):Ow R Ok Y c n:=⟨h.1.stir t d,t.sep (by lia) h.2⟩
theorem Be.stir{X Y:LI4}{lo m:Nat}(t:Fd X Y lo m):∀{L:List Zm}{a e:Nat},Be R Ok X a L e->(e<=lo\/lo+m<=a)->Be R Ok Y a L e
 |[],a,e,h,_=>h
 |(c,n,p)::L,a,e,h,d=>by
  obtain⟨h1,h2,h3,h4⟩:=h;have:=Be.le h4;exact⟨h1,h2,h3.stir t (by lia),Be.stir t h4 (by lia)⟩
theorem Up.srt{X:LI4}{c n:Nat}(h:Up R X c n)(hs:c+n<=X.size):Oc R ((X.toList.drop c).take n):=by
 refine B6.mpr fun i j hi hj hij=>?_;have hi':i<n:=by rw[Ug] at hi;lia
 have hj':j<n:=by rw[Ug] at hj;lia
 have e:∀t,t<n->∀ht,((X.toList.drop c).take n)[t]'ht=gA X (c+t):=fun t htn ht=>by
  have h1:((X.toList.drop c).take n)[t]?=some (gA X (c+t)):=by
   rw[Xj,Ba htn,Tj,Ah,Qp (by lia)]
  rw[Rc ht] at h1;exact Option.some.inj h1
 rw[e i hi' hi,e j hj' hj];exact h i j hij hj'
theorem Oc.up{X:LI4}{c n:Nat}{pre W post:List Ua}(hX:X.toList=pre++(W++post))(lp:pre.length=c)(lW:W.length=n)(h:Oc R W):Up R X c n:=fun i j hij hj=>by
 have g:∀t (ht:t<n),gA X (c+t)=W[t]'(by lia):=fun t ht=>by
  refine Hx ?_;rw[<- Ah,hX,Ei (by lia),lp,show c+t-c=t by lia,Pi (by lia),Rc (by lia)]
 rw[g i (by lia),g j hj];exact B6.mp h i j (by lia) (by lia) hij
theorem ZkC{L M:List Zm}{a b c:Zm}{P:Array Zm}(h:P.toList=L++a::b::M):(((P.setIfInBounds L.length c).eraseIdxIfInBounds (L.length+1))).toList=L++c::M:=by
 have hz:L.length+1<(P.setIfInBounds L.length c).size:=by
  have:=Wf List.length h;rw[Gf] at this;rw[Array.size_setIfInBounds,this];simp
 rw[Array.eraseIdxIfInBounds,Rm hz,Array.toList_eraseIdx,ZbL,h];rw[VP _ _ (Cb _),Nat.sub_self,List.set_cons_zero,List.eraseIdx_append_of_length_le (by lia),show L.length+1-L.length=1 by lia];rfl
theorem Zm1(C:Mc prog w A s κ U R Ok){st:Xa}{L M:List Zm}{c n p d m p2 e:Nat}{Q:Bool->Xa->Prop}(hk:Hc st=κ)(hf:Gj st=none)(hU:Zk U (Ma st))(hp:(Ac st).toList=L++(c,n,p)::(d,m,p2)::M)(hr:Be R Ok (Ma st) 0 (Ac st).toList e)(he:e<=(Ma st).size)(h:∀Ca,Hc Ca=κ->Gj Ca=none->(Ac Ca).toList=L++(c,n+m,p)::M->Fd (Ma st) (Ma Ca) c (n+m)->c+n+m<=e->Be R Ok (Ma Ca) 0 (Ac Ca).toList e->Q true Ca) :
  wpS (La prog w) A E s (mergeAt' L.length) Q st:=by
 rw[hp] at hr;obtain⟨q,r1,r2⟩:=Be.app.mp hr;obtain⟨rfl,n0,u1,rfl,m0,u2,r3⟩:=r2;have le3:=Be.le r3;have hsz:c+n+m<=(Ma st).size:=by lia
 have sp:(Ma st).toList=(Ma st).toList.take c++(((Ma st).toList.drop c).take n++(((Ma st).toList.drop (c+n)).take m++(Ma st).toList.drop (c+n+m))):=by
  rw[Ux,Ux,Ri]
 have lt:(Ma st).toList.length=(Ma st).size:=Gf;have inU:∀x∈(Ma st).toList,U x:=fun x hx=>by
  obtain⟨i,hi⟩:=Wj hx;have hl:=(Pd.mp hi).1;rw[Ah] at hi;rw[<- Hx hi];exact hU i (by lia)
 have i1:(Ac st)[L.length]?=some (c,n,p):=by
  rw[<- Ah,hp,Ei (Cb _),Nat.sub_self];rfl
 have i2:(Ac st)[L.length+1]?=some (c+n,m,p2):=by
  rw[<- Ah,hp,Ei (by lia),show L.length+1-L.length=1 by lia];rfl
 refine Zmy C hk hf i1 i2 sp (by rw[Ug];lia) (by rw[Ug,Ao];lia) (by rw[Ug,Ao];lia) rfl n0 m0
  (fun x hx=>inU x (Co (Eo hx))) (fun x hx=>inU x (Co (Eo hx))) (u1.1.srt (by lia)) (u2.1.srt (by lia)) (fun y hy x hx=>?ok) fun Ca W k1 k2 k3 k4 k5 k6=>?main
 case ok =>
  obtain⟨i,hi⟩:=Wj hy;obtain⟨j,hj⟩:=Wj hx;rw[Xj] at hi hj
  split at hi
  ·split at hj
   ·rename_i ci cj
    rw[Tj,Ah] at hi hj;rw[<- Hx hi,<- Hx hj];exact u2.2 _ _ (by lia) (by lia) (by lia)
   ·cases hj
  ·cases hi
 have lW:W.length=n+m:=by rw[k6.length_eq,Nh,Ug,Ug,Ao,Ao];lia
 have lpre:((Ma st).toList.take c).length=c:=by rw[Ug];lia
 have hst:Fd (Ma st) (Ma Ca) c (n+m):=by
  refine⟨?_,fun k hk'=>?_⟩
  ·refine EO.mpr ?_
   rw[k4]
   conv=>rhs;rw[sp]
   refine List.Perm.append_left _ ?_;rw[<- Hf];exact k6.append_right _
  ·rw[<- Ah,<- Ah,k4]
   rcases hk' with z|z
   ·rw[Pi (by lia),Xj,Ba z]
   ·rw[Ei (by lia),lpre,Ei (by lia),lW,Tj]
    congr 1;lia
 have kp:(Ac Ca).toList=L++(c,n+m,p)::M:=by rw[k3];exact ZkC hp
 refine h Ca k1 k2 kp hst (by lia) ?_;rw[kp];refine Be.app.mpr ⟨c,r1.stir hst (.inl (Cb _)),rfl,by lia,⟨Oc.up k4 lpre lW k5,hst.sep (.inl (Cb _)) u1.2⟩, ?_⟩;rw[<- Nat.add_assoc];exact r3.stir hst (.inr (by lia))
variable {R0:Ua->Ua->Bool}
structure Th(κ:Si)(U:Ua->Prop)(R:Ua->Ua->Bool)(Ok:Ua->Ua->Prop)(X:LI4)(lo hi:Nat)(Ca:Xa):Prop where
 kd:Hc Ca=κ
 fl:Gj Ca=none
 pm:(Ma Ca).Perm X
 us:Zk U (Ma Ca)
 rn:Be R Ok (Ma Ca) 0 (Ac Ca).toList lo
 le:lo<=X.size
 lh:lo<=hi
 sp:∀e,e=lo\/hi<=e->An Ok (Ma Ca) e
theorem Th.sz{X:LI4}{lo hi:Nat}{Ca:Xa}(h:Th κ U R Ok X lo hi Ca):(Ma Ca).size=X.size:=h.pm.size_eq
theorem Be.mod{X:LI4}{f:Zm->Zm}(hf:∀c n p,∃p',f (c,n,p)=(c,n,p')):∀{L:List Zm}{a e:Nat},Be R Ok X a L e->∀i,Be R Ok X a (L.modify i f) e
 |[],a,e,h,i=>by simpa using h
 |(c,n,p)::L,a,e,h,0=>by
  obtain⟨p',hp'⟩:=hf c n p;rw[List.modify_zero_cons,hp'];exact h
 |(c,n,p)::L,a,e,h,i+1=>by
  rw[List.modify_succ_cons];exact⟨h.1,h.2.1,h.2.2.1,Be.mod hf h.2.2.2 i⟩
theorem ZlB{L:List Zm}{i:Nat}(h:i+1<L.length):∃A a b B,L=A++a::b::B/\A.length=i:=by
 refine⟨L.take i,L[i],L[i+1],L.drop (i+2), ?_,by rw[Ug];lia⟩;rw[<- Hr h,<- Hr (by lia),Ri]
theorem VO(C:Mc prog w A s κ U R Ok){X:LI4}{st1:Xa}{lo hi i:Nat}{Q:Bool->Xa->Prop}(S1:Th κ U R Ok X lo hi st1)(hi':i+1<(Ac st1).size)(h:∀Ca,Th κ U R Ok X lo hi Ca->(Ac Ca).size+1=(Ac st1).size->(∀n,Up R (Ma st1) lo n->Up R (Ma Ca) lo n)->Q true Ca):wpS (La prog w) A E s (mergeAt' i) Q st1:=by
 obtain⟨L,⟨c,n,p⟩,⟨d,m,p2⟩,M,hL,rfl⟩:=ZlB (L:=(Ac st1).toList) (by rw[Gf];exact hi');refine Zm1 C S1.kd S1.fl S1.us hL S1.rn (by rw[S1.sz];exact S1.le) fun Ca k1 k2 k3 k4 k5 k6=>h Ca ⟨k1,k2,k4.perm.trans S1.pm,S1.us.stir k4,k6,S1.le,S1.lh,fun e he=>k4.sep (.inr (by have:=S1.lh;lia)) (S1.sp e he)⟩ ?_ fun q hq=>hq.stir k4 (.inr (by lia));have e1:=Wf List.length hL;have e2:=Wf List.length k3;rw[Gf] at e1 e2;simp only[Nh,Dh] at e1 e2;lia
theorem ZbB(C:Mc prog w A s κ U R Ok)(C0:Mc prog w A s κ U R0 (fun _ _=>True))(L:E1 R0 R Ok){st:Xa}{Q:Unit->Xa->Prop}(hk:Hc st=κ)(hf:Gj st=none)(hU:Zk U (Ma st))(hp:Ac st=#[])(hO:∀e,An Ok (Ma st) e)(h:∀Ca,Gj Ca=none->(Ma Ca).Perm (Ma st)->Up R (Ma Ca) 0 (Ma st).size->Q () Ca):wpS (La prog w) A E s sortRuns' Q st:=by
 rw[sortRuns'_eq];refine Vb (Sm ?_);dsimp only;have S0:Th κ U R Ok (Ma st) 0 0 st:=⟨hk,hf,Array.Perm.refl _,hU,by rw[hp];rfl,Og _,Cb _,fun e _=>hO e⟩
 generalize hX:Ma st=X at S0 h;refine Vb (Lk (Hi
  (I:=fun x (c:Option Unit×Nat) (Ca:Xa)=>c.1=none/\Th κ U R Ok X c.2 c.2 Ca/\(x<=c.2\/X.size<=c.2))
  (Q:=fun(c:Option Unit×Nat) (Ca:Xa)=>c.1=none/\Th κ U R Ok X X.size X.size Ca) ?step ?fin ⟨rfl,S0,.inl (Cb _)⟩) ?post)
 case fin =>
  rintro⟨o,lo⟩ Ca ⟨h1,h2,h3⟩;dsimp only at h1 h2 h3 ⊢;have:=h2.le;obtain rfl:lo=X.size:=by lia
  exact⟨h1,h2⟩
 case step =>
  rintro x ⟨o,lo⟩ st1 _ hx ⟨rfl,S1,h3⟩;dsimp only at S1 h3 ⊢;have hle:=S1.le;have hsz:=S1.sz;by_cases e0:lo ≥ X.size
  ·rw[Ba e0]
   obtain rfl:lo=X.size:=by lia
   exact Eb ⟨rfl,S1⟩
  rw[Aa e0];refine Vb (Zmt C C0 L S1.kd S1.us (show lo+(X.size-lo)<=_ by lia) (by lia) (fun e he=>S1.sp e (.inr (by lia))) fun m Y m1 m2 t u=>?_);dsimp only;have S1':Th κ U R Ok X lo (lo+m) (Kf st1 Y):=⟨S1.kd,S1.fl,t.perm.trans S1.pm,S1.us.stir t,S1.rn.stir t (.inl (Cb _)),S1.le,by lia,fun e he=>t.sep (by lia) (S1.sp e (by lia))⟩
  by_cases e1:m<minRun' X.size X.size 0
  ·rw[Ba e1]
   have f1:m<=min (X.size-lo) (minRun' X.size X.size 0):=by lia
   have f2:min (X.size-lo) (minRun' X.size X.size 0)<=X.size-lo:=UF _ _;generalize min (X.size-lo) (minRun' X.size X.size 0)=N1 at f1 f2;refine Vb (wpS_lift (Yp ⟨rfl, ?_⟩));refine Vb (Zms C (show Hc (Kf st1 Y)=κ from S1.kd) S1'.us (show lo+N1<=(Ma (Kf st1 Y)).size by rw[S1'.sz];lia) f1 (by lia) u (fun e he=>S1'.sp e (.inr he)) fun Y2 t2 u2=>?_);rw[Aa (by decide)];have t2:Fd Y Y2 lo N1:=t2;have S2:Th κ U R Ok X lo (lo+N1) (Kf st1 Y2):=⟨S1.kd,S1.fl,t2.perm.trans S1'.pm,S1'.us.stir t2,S1'.rn.stir t2 (.inl (Cb _)),S1.le,by lia,fun e he=>t2.sep (by lia) (S1'.sp e (by lia))⟩
   show wpS _ _ _ _ _ _ (Kf st1 Y2);have PUSH:∀Dc,Th κ U R Ok X lo (lo+N1) Dc->Up R (Ma Dc) lo (N1)->Th κ U R Ok X (lo+(N1)) (lo+(N1)) (Xp Dc ((Ac Dc).push (lo,N1,0))):=fun Dc S3 u3 =>
    ⟨S3.kd,S3.fl,S3.pm,S3.us,by
     show Be R Ok (Ma Dc) 0 ((Ac Dc).push (lo,N1,0)).toList (lo+(N1));rw[EE];exact Be.app.mpr ⟨lo,S3.rn,rfl,by lia,⟨u3,S3.sp lo (.inl rfl)⟩,rfl⟩,by lia,Cb _,fun e he=>S3.sp e (.inr (by lia))⟩
   refine Vb (Sm ?_);cases hb:(Ac (Kf st1 Y2)).back? with
   |none =>
    dsimp only;exact Vb (Zq (Eb ⟨rfl,PUSH _ S2 u2,.inl (by dsimp only;lia)⟩))
   |some q =>
    obtain⟨s1,n1,p1⟩:=q;dsimp only;refine Vb (Lk (Hi
     (I:=fun _ (c:Option Unit×Unit) (Ca:Xa)=>c.1=none/\Th κ U R Ok X lo (lo+N1) Ca/\Up R (Ma Ca) lo (N1))
     (Q:=fun(c:Option Unit×Unit) (Ca:Xa)=>c.1=none/\Th κ U R Ok X lo (lo+N1) Ca/\Up R (Ma Ca) lo (N1)) ?_ (fun c Ca hc=>hc) ⟨rfl,S2,u2⟩) ?_)
    ·rintro y ⟨o,_⟩ Dc _ hy ⟨rfl,S3,u3⟩
     refine Vb (Sm ?_);by_cases hsz3:(Ac Dc).size>1
     ·rw[Ba hsz3]
      have hg:(Ac Dc)[(Ac Dc).size-2]?=some ((Ac Dc)[(Ac Dc).size-2]'(by lia)):=AE (by lia);rw[hg];generalize (Ac Dc)[(Ac Dc).size-2]'(by lia)=q3 at hg;obtain⟨a3,b3,older⟩:=q3;dsimp only
      split
      ·exact Eb ⟨rfl,S3,u3⟩
      ·refine Vb (VO C S3 (by lia) fun st4 S4 _ up4=>?_)
       rw[Aa (by decide)];exact Eb ⟨rfl,S4,up4 _ u3⟩
     ·rw[Aa hsz3]
      exact Eb ⟨rfl,S3,u3⟩
    ·rintro⟨o,_⟩ Dc ⟨h1,S3,u3⟩
     dsimp only at h1;subst h1;dsimp only;refine Vb (Zq (Vb (Zq (Eb ⟨rfl, ?_,.inl (by dsimp only;lia)⟩))));refine PUSH (Xp Dc _) ⟨S3.kd,S3.fl,S3.pm,S3.us, ?_,S3.le,S3.lh,S3.sp⟩ u3;show Be R Ok (Ma Dc) 0 ((Ac Dc).modify _ _).toList lo;rw[Array.toList_modify];exact S3.rn.mod (fun _ _ _=>⟨_,rfl⟩) _
  ·rw[Aa e1]
   have S2:=S1';have u2:=u;have PUSH:∀Dc,Th κ U R Ok X lo (lo+m) Dc->Up R (Ma Dc) lo (m)->Th κ U R Ok X (lo+(m)) (lo+(m)) (Xp Dc ((Ac Dc).push (lo,m,0))):=fun Dc S3 u3 =>
    ⟨S3.kd,S3.fl,S3.pm,S3.us,by
     show Be R Ok (Ma Dc) 0 ((Ac Dc).push (lo,m,0)).toList (lo+(m));rw[EE];exact Be.app.mpr ⟨lo,S3.rn,rfl,by lia,⟨u3,S3.sp lo (.inl rfl)⟩,rfl⟩,by lia,Cb _,fun e he=>S3.sp e (.inr (by lia))⟩
   refine Vb (Sm ?_);cases hb:(Ac (Kf st1 Y)).back? with
   |none =>
    dsimp only;exact Vb (Zq (Eb ⟨rfl,PUSH _ S2 u2,.inl (by dsimp only;lia)⟩))
   |some q =>
    obtain⟨s1,n1,p1⟩:=q;dsimp only;refine Vb (Lk (Hi
     (I:=fun _ (c:Option Unit×Unit) (Ca:Xa)=>c.1=none/\Th κ U R Ok X lo (lo+m) Ca/\Up R (Ma Ca) lo (m))
     (Q:=fun(c:Option Unit×Unit) (Ca:Xa)=>c.1=none/\Th κ U R Ok X lo (lo+m) Ca/\Up R (Ma Ca) lo (m)) ?_ (fun c Ca hc=>hc) ⟨rfl,S2,u2⟩) ?_)
    ·rintro y ⟨o,_⟩ Dc _ hy ⟨rfl,S3,u3⟩
     refine Vb (Sm ?_);by_cases hsz3:(Ac Dc).size>1
     ·rw[Ba hsz3]
      have hg:(Ac Dc)[(Ac Dc).size-2]?=some ((Ac Dc)[(Ac Dc).size-2]'(by lia)):=AE (by lia);rw[hg];generalize (Ac Dc)[(Ac Dc).size-2]'(by lia)=q3 at hg;obtain⟨a3,b3,older⟩:=q3;dsimp only
      split
      ·exact Eb ⟨rfl,S3,u3⟩
      ·refine Vb (VO C S3 (by lia) fun st4 S4 _ up4=>?_)
       rw[Aa (by decide)];exact Eb ⟨rfl,S4,up4 _ u3⟩
     ·rw[Aa hsz3]
      exact Eb ⟨rfl,S3,u3⟩
    ·rintro⟨o,_⟩ Dc ⟨h1,S3,u3⟩
     dsimp only at h1;subst h1;dsimp only;refine Vb (Zq (Vb (Zq (Eb ⟨rfl, ?_,.inl (by dsimp only;lia)⟩))));refine PUSH (Xp Dc _) ⟨S3.kd,S3.fl,S3.pm,S3.us, ?_,S3.le,S3.lh,S3.sp⟩ u3;show Be R Ok (Ma Dc) 0 ((Ac Dc).modify _ _).toList lo;rw[Array.toList_modify];exact S3.rn.mod (fun _ _ _=>⟨_,rfl⟩) _
 case post =>
  rintro⟨o,lo⟩ st1 ⟨h1,S1⟩;dsimp only at h1;subst h1;dsimp only;refine Vb (Lk (Hi
   (I:=fun x (c:Option Unit×Unit) (Ca:Xa)=>c.1=none/\Th κ U R Ok X X.size X.size Ca/\((Ac Ca).size+x<=X.size\/(Ac Ca).size<=1))
   (Q:=fun(c:Option Unit×Unit) (Ca:Xa)=>c.1=none/\Th κ U R Ok X X.size X.size Ca/\(Ac Ca).size<=1) ?_ ?_ ⟨rfl,S1,.inl ?_⟩) ?_)
  ·rintro x ⟨o,_⟩ Dc _ hx ⟨rfl,S3,h3⟩
   refine Vb (Sm ?_);by_cases e1:(Ac Dc).size<=1
   ·rw[Ba e1]
    exact Eb ⟨rfl,S3,e1⟩
   ·rw[Aa e1]
    refine Vb (VO C S3 ?_ fun st4 S4 z4 _=>?_)
    ·have hp3:1<(Ac Dc).size:=Nat.lt_of_not_le e1
     have both:∀(b:Prop) [Decidable b],(if b then (Ac Dc).size-2-1 else (Ac Dc).size-2)+1<(Ac Dc).size:=fun b _=>by
      by_cases hb:b
      ·rw[Ba hb];lia
      ·rw[Aa hb];lia
     exact both _
    ·rw[Aa (by decide)]
     exact Eb ⟨rfl,S4,by lia⟩
  ·rintro⟨o,_⟩ Dc ⟨h1,S3,h3⟩
   have:=Be.le S3.rn;rw[Gf] at this;exact⟨h1,S3,by lia⟩
  ·have:=Be.le S1.rn
   rw[Gf] at this;lia
  ·rintro⟨o,_⟩ Dc ⟨h1,S3,h3⟩
   dsimp only at h1;subst h1;refine Eb (h Dc S3.fl S3.pm ?_);have rn:=S3.rn;have hl:(Ac Dc).toList.length<=1:=by rw[Gf];exact h3
   match hL:(Ac Dc).toList with
   |[] =>
    rw[hL] at rn;have z:0=X.size:=rn;intro i j _ hj;lia
   |[(c,n,p)] =>
    rw[hL] at rn;obtain⟨rfl,_,z1,z2⟩:=rn;have z2:0+n=X.size:=z2;rw[<- z2,Tp];exact z1.1
   |_::_::_ =>
    rw[hL] at hl;simp at hl
end
end L2
namespace L2
open PySem PySem.Spec PyProof.Rows
section
variable {prog:Qc}{w:Xb}{A:Qe}{E:Va->Ha->Prop}{s:Ha}
theorem MZ{α:Type}{R:α->α->Prop}:∀{l:List α},l.length<2->l.Pairwise R
 |[],_=>List.Pairwise.nil
 |[_],_=>JP _ _
theorem Za7{a:Ja}{vs:LI3}{n:Nat}{P:PySem.Fin->Ha->Prop}(κ:Si)(Rv:Va->Va->Bool)(ho:s.heap.get? a=some (Sd "list" vs.toArray n))(hz:vs.length<=1000000)(hk:2<=vs.length->∀(s1:Ha) (Q:Si->Ha->Prop),(∀b o,b≠a->s.heap.get? b=some o->s1.heap.get? b=some o)->Q κ s1->Sa (La prog w) A (keyKind' vs.toArray) Q E s1)(hc:∀(s1:Ha) x y,x∈vs->y∈vs->(∀b o,b≠a->s.heap.get? b=some o->s1.heap.get? b=some o)->∀C:Bool->Ha->Prop,C (Rv x y) s1->Sa (La prog w) A (keyLt' κ x y) C (fun _ _=>False) s1)(asy:∀x y,x∈vs->y∈vs->Rv x y=true->Rv y x=false)(tr:∀x y z,x∈vs->y∈vs->z∈vs->Rv y x=false->Rv z y=false->Rv z x=false)(hq:∀h' c out,(∀b o,b≠a->s.heap.get? b=some o->h'.get? b=some o)->out.Perm vs->out.Pairwise (fun x y=>Rv y x=false)->h'.get? a=some (Sd "list" (List.toArray out) c)->P (.done (.ret .none)) { s with heap:=h' }) :
  Sa (La prog w) A (Builtin.«list.sort» ⟨[.ref a],[]⟩) P E s:=by
 have la:a<s.heap.objs.size:=Heap.lt_size ho;have line:vs.length<=Rb:=Ek hz;obtain⟨e1,ho1⟩:∃c,(s.heap.update a (Obj.mapSeq fun _=>(#[]:Array Va))).get? a=some (Sd "list" #[] c):=⟨_,get?_update_seq ho _⟩
 rw[list_sort_plain];refine Ka (listItems_at ho rfl (Ka (T0 ho rfl (Ka (seqEpoch_at ho1 rfl (Ka (wpAny_newTuple (Ka (U1 (Yl ?_) (Og _))) ?_)))) ?_ (Og _))));rotate_left
 ·exact line
 ·rw[Ld];exact line
 generalize eh:((s.heap.update a (Obj.mapSeq fun _=>(#[]:Array Va))).push (Sd "tuple" vs.toArray 0)).push (Sd "list" #[] 0)=h3;have k3:∀b o,b≠a->s.heap.get? b=some o->h3.get? b=some o:=fun b o nb q=>by
  subst eh;exact Heap.get?_push_of_some _ (Heap.get?_push_of_some _ ((Heap.get?_update_ne _ _ _ _ nb).trans q))
 have a3:h3.get? a=some (Sd "list" #[] e1):=by subst eh;exact Heap.get?_push_of_some _ (Heap.get?_push_of_some _ ho1)
 show Sa _ _ _ P E { s with heap:=h3 };have fin:∀(out:LI3) (st:Xa),(Ma st).map (·.2)=List.toArray out->Gj st=none->out.Perm vs->out.Pairwise (fun x y=>Rv y x=false) ->
   Sa (La prog w) A (do
    let sorted:=(Ma st).map (·.2)
    let touched:=(<- seqEpoch a) != e1
    Builtin.List.listUpdate (.ref a) fun _=>sorted
    if let some e:=Gj st then rule "list.sort.comparison-raised";throw e
    if touched then rule "list.sort.modified";raiseError "ValueError" "list modified during sort"
    ret .none) P E { s with heap:=h3 }:=fun out st ho hf hl hout=>by
  dsimp only;rw[ho,hf];obtain⟨c2,hc2⟩:∃c,(h3.update a (Obj.mapSeq fun _=>List.toArray out)).get? a=some (Sd "list" (List.toArray out) c):=⟨_,get?_update_seq a3 _⟩
  refine Ka (seqEpoch_at a3 rfl (Ka (T0 a3 rfl ?_ (Og _) ?_)))
  ·simp only[bne_self_eq_false,Bool.false_eq_true,if_false]
   exact Mb (hq _ c2 out (fun b o nb q=>(Heap.get?_update_ne _ _ _ _ nb).trans (k3 b o nb q)) hl hout hc2)
  ·show (List.toArray out).size<=_
   rw[Ld,hl.length_eq];exact Oe line (Wt _)
 dsimp only;have zs:((vs.toArray.zip vs.toArray).map (·.2))=vs.toArray:=by
  apply U6.mp;simp only[Mz,Array.toList_zip];exact List.map_snd_zip (Cb _)
 by_cases h2:vs.length<2
 ·have e2:vs.toArray.size<2:=by rw[Ld];exact h2
  rw[Ba e2,Ba e2];refine Ka (Mb (Ka (Mb ?_)));refine fin vs _ zs rfl (List.Perm.refl _) ?_;exact MZ h2
 ·have e2:¬vs.toArray.size<2:=by rw[Ld];exact h2
  rw[Aa e2,Aa e2];refine Ka (hk (by lia) _ _ k3 ?_);have zmem:∀x∈vs.toArray.zip vs.toArray,x.1∈vs/\x.1=x.2:=fun x hx=>by
   have hx:x∈vs.zip vs:=by simpa using hx
   obtain⟨i,hi⟩:=Wj hx;rw[Wv] at hi;have e:=hi.1.symm.trans hi.2;exact⟨Tc hi.1,Option.some.inj e⟩
  have C:Mc prog w A { s with heap:=h3 } κ (fun x=>x.1∈vs/\x.1=x.2) (fun x y=>Rv x.1 y.1) (fun _ _=>True):=
   ⟨fun x y hx hy _ Q q=>hc _ _ _ hx.1 hy.1 k3 Q q,fun x y hx hy q=>asy _ _ hx.1 hy.1 q,fun x y z hx hy hz q r=>tr _ _ _ hx.1 hy.1 hz.1 q r⟩
  have run:=ZbB (E:=E) C C ⟨fun _ _ h=>h,fun _ _ _=>rfl⟩ (st:=SortSt.mk' κ (vs.toArray.zip vs.toArray) #[] 7 none) (Q:=fun _ Ca=>Gj Ca=none/\(Ma Ca).Perm (vs.toArray.zip vs.toArray)/\Up (fun x y=>Rv x.1 y.1) (Ma Ca) 0 (vs.toArray.zip vs.toArray).size) rfl rfl
   (fun i hi=>zmem _ (Array.mem_of_getElem? (Qp hi))) rfl (fun _ _ _ _ _ _=>trivial) (fun Ca k1 k2 k3=>⟨k1,k2,k3⟩)
  refine Ka (Cf run ?_ fun _ _ e=>e);rintro⟨⟨⟩,st⟩ s' ⟨rfl,hf,hp,hu⟩;dsimp only at hf hp hu;have hsz:(Ma st).size=(vs.toArray.zip vs.toArray).size:=hp.size_eq;have same:∀x∈(Ma st).toList,x.1=x.2:=fun x hx=>(zmem x ((Array.Perm.mem_iff hp).mp (by simpa using hx))).2;refine fin ((Ma st).toList.map (·.2)) st ?_ hf ?_ ?_
  ·apply U6.mp
   rw[Mz]
  ·have p1:((Ma st).toList.map (·.2)).Perm ((vs.toArray.zip vs.toArray).toList.map (·.2)):=(EO.mp hp).map _
   have p2:=Wf Array.toList zs;rw[Mz] at p2;rw[p2] at p1;simpa using p1
  ·have sr:=hu.srt (C6 (by rw[Tp,hsz]))
   rw[Tv,Ho (C6 (by rw[Gf,hsz]))] at sr;rw[Rp];refine List.Pairwise.imp_of_mem ?_ sr;intro x y hx hy q;rw[<- same x hx,<- same y hy];exact q
theorem Zl2{l:Ja}{vs:LI3}{Q:Va->Ha->Prop}(κ:Si)(Rv:Va->Va->Bool)(hl:s.heap.IsList l vs.toArray)(hz:vs.length<=1000000)(hk:2<=vs.length->∀(s1:Ha) (Q:Si->Ha->Prop),(∀b o,s.heap.get? b=some o->s1.heap.get? b=some o)->Q κ s1->Sa (La prog w) A.in1.in1 (keyKind' vs.toArray) Q E s1)(hc:∀(s1:Ha) x y,x∈vs->y∈vs->(∀b o,s.heap.get? b=some o->s1.heap.get? b=some o)->∀C:Bool->Ha->Prop,C (Rv x y) s1->Sa (La prog w) A.in1.in1 (keyLt' κ x y) C (fun _ _=>False) s1)(asy:∀x y,x∈vs->y∈vs->Rv x y=true->Rv y x=false)(tr:∀x y z,x∈vs->y∈vs->z∈vs->Rv y x=false->Rv z y=false->Rv z x=false)(hq:∀D h' c out,(∀b o,s.heap.get? b=some o->h'.get? b=some o)->s.heap.objs.size<=D->out.Perm vs->out.Pairwise (fun x y=>Rv y x=false)->h'.get? D=some (Sd "list" (List.toArray out) c)->Q (.ref D) { s with heap:=h' }) :
  Sa (La prog w) A (call (.builtin "sorted") [.ref l]) Q E s:=by
 refine Calls.call_function_entry kind_sorted plain_sorted entry_sorted (args_sorted1 _) ?_;unfold Builtin.«sorted»;have line:vs.length<=Rb:=Ek hz;refine Ka (m:=checkCount "sorted" 1 1 _) (Mb (Ka (collect_list hl (Ka (U1 ?_ line)) line)));generalize eg:(s.heap.push (Sd "list" #[] 0)).update s.heap.objs.size (Obj.mapSeq (·++vs.toArray))=h1;have z1:h1.objs.size=s.heap.objs.size+1:=by subst eg;rw[Heap.size_update,size_push']
 have k1:∀b o,s.heap.get? b=some o->h1.get? b=some o:=fun b o q=>by
  have lb:=Heap.lt_size q;subst eg;rw[Heap.get?_update_ne _ _ _ _ (Vf lb)];exact Heap.get?_push_of_some _ q
 have hD:(h1.push (Sd "list" vs.toArray 0)).get? h1.objs.size=some (Sd "list" vs.toArray 0):=Heap.get?_push_size _ rfl;show Sa _ _ _ _ _ { s with heap:=h1.push (Sd "list" vs.toArray 0) };have up:∀(h2:Heap),(∀b o,b≠h1.objs.size->(h1.push (Sd "list" vs.toArray 0)).get? b=some o->h2.get? b=some o)->∀b o,s.heap.get? b=some o->h2.get? b=some o:=fun h2 k b o q =>
  k b o (Vf (by rw[z1];exact JF (Heap.lt_size q))) (Heap.get?_push_of_some _ (k1 b o q))
 refine Ka (Yl (G6 slot_list_sort ⟨_,hD,rfl⟩ entry_list_sort (Za7 (s:={ s with heap:=h1.push (Sd "list" vs.toArray 0) }) κ Rv hD hz (fun h2 s1 Q k q=>hk h2 s1 Q (up _ k) q) (fun s1 x y hx hy k C q=>hc s1 x y hx hy (up _ k) C q) asy tr fun h' c out k p1 p2 e=>?_) (args_list_sort _)));exact⟨_,rfl,Mb ⟨_,rfl,hq _ h' c out (up _ k) (by rw[z1];exact Wt _) p1 p2 e⟩⟩
end
noncomputable def Zmn:Va->Int
 |.int i _=>i
 |_=>0
theorem T5:∀{ns:LI0}{us:LI3},Ub (ns.map V.int) us->us.map Zmn=ns/\∀u∈us,∃i t,u=Value.int i t
 |[],_,.nil=>⟨rfl,by simp⟩
 |n::ns,_,.cons (b:=u) r rr=>by
  obtain⟨t,rfl⟩:=r;obtain⟨h1,h2⟩:=T5 rr;refine⟨by rw[Dd,h1];rfl,fun v hv=>?_⟩;rcases Lc.mp hv with rfl|hv
  ·exact⟨n,t,rfl⟩
  ·exact h2 v hv
section
end
theorem Zal:∀{K:ZmM}{H:Hp}{S:Ja->Prop} (ns:LI0),Reps K H S (ns.map PV.int) (ns.map V.int)
 |_,_,_,[]=>rfl
 |_,_,_,n::ns=>⟨_,_,rfl,rfl,Zal ns⟩
section
end
noncomputable def Lx(x:LI0):LI1->LI1
 |[]=>[x]
 |y::l=>if HT.Jc y x=true then y::Lx x l else x::y::l
noncomputable def Bi:LI1->LI1
 |[]=>[]
 |x::l=>Lx x (Bi l)
abbrev So(l:LI1):Prop:=l.Pairwise fun a b=>HT.Jc b a=false
theorem HJ(x:LI0):∀l,(Lx x l).Perm (x::l)
 |[]=>List.Perm.refl _
 |y::l=>by
  unfold Lx
  split
  ·exact((HJ x l).cons y).trans (List.Perm.swap x y l)
  ·exact List.Perm.refl _
theorem Ql:∀l,(Bi l).Perm l
 |[]=>List.Perm.refl _
 |x::l=>(HJ x _).trans ((Ql l).cons x)
theorem M9{a b c:LI0}(h1:HT.Jc b a=false)(h2:HT.Jc c b=false):HT.Jc c a=false:=by
 cases h:HT.Jc c a with
 |false=>rfl
 |true =>
  exfalso;cases h3:HT.Jc a b with
  |true=>rw[HL.TJ h h3] at h2;cases h2
  |false=>rw[HL.L9 h3 h1] at h;rw[h] at h2;cases h2
theorem K9{a b:LI0}(h:HT.Jc a b=true):HT.Jc b a=false:=by
 cases h2:HT.Jc b a with
 |false=>rfl
 |true=>have:=HL.TJ h h2;rw[HL.SJ] at this;cases this
theorem EW{x:LI0}:∀{l:LI1},So l->So (Lx x l)
 |[],_=>JP _ _
 |y::l,h=>by
  obtain⟨h1,h2⟩:=Wz.mp h;unfold Lx
  split
  ·rename_i e
   refine Wz.mpr ⟨fun z hz=>?_,EW h2⟩;rcases Lc.mp ((HJ x l).mem_iff.mp hz) with rfl|hz
   ·exact K9 e
   ·exact h1 z hz
  ·rename_i e
   have e:=Bool.eq_false_iff.mpr e;refine Wz.mpr ⟨fun z hz=>?_,h⟩;rcases Lc.mp hz with rfl|hz
   ·exact e
   ·exact M9 e (h1 z hz)
theorem Ov:∀l,So (Bi l)
 |[]=>List.Pairwise.nil
 |x::l=>EW (Ov l)
theorem S5:∀{l m:LI1},So l->So m->l.Perm m->l=m
 |[],m,_,_,p=>(List.nil_perm.mp p).symm
 |x::l,[],_,_,p=>Gb (List.perm_nil.mp p) (by simp)
 |x::l,y::m,h1,h2,p=>by
  obtain⟨a1,a2⟩:=Wz.mp h1;obtain⟨b1,b2⟩:=Wz.mp h2;have e:x=y:=by
   have hx:x∈y::m:=p.mem_iff.mp (by simp);have hy:y∈x::l:=p.mem_iff.mpr (by simp);rcases Lc.mp hx with z|z
   ·exact z
   ·rcases Lc.mp hy with z'|z'
    ·exact z'.symm
    ·exact HL.L9 (b1 x z) (a1 y z')
  subst e;rw[S5 a2 b2 (List.perm_cons _ |>.mp p)]
theorem ZlD{l m:LI1}(p:l.Perm m):Bi l=Bi m:=S5 (Ov l) (Ov m) ((Ql l).trans (p.trans (Ql m).symm))
def Nf(ts:List Xd)(a:Ja):LI0:=((ts.find? fun t=>decide (t.1=a)).map (·.2)).getD []
theorem En{ts:List Xd}(hu:∀t∈ts,∀t'∈ts,t.1=t'.1->t.2=t'.2){t:Xd}(ht:t∈ts):Nf ts t.1=t.2:=by
 unfold Nf;cases hf:ts.find? fun q=>decide (q.1=t.1) with
 |none=>exact Gb (Hb rfl) (ME.mp hf t ht)
 |some q =>
  have h1:=List.find?_some hf;have h2:=List.mem_of_find?_eq_some hf;exact hu q h2 t ht (Wi h1)
noncomputable def Bc:Va->Ja
 |.ref a=>a
 |_=>0
theorem ZO:∀{ts:List Xd}{us:LI3},Ub (ts.map fun t=>V.ref t.1) us->us=ts.map fun t=>Value.ref t.1
 |[],_,.nil=>rfl
 |t::ts,_,.cons r rr=>by
  have r:_=Value.ref t.1:=r;rw[r,ZO rr];rfl
theorem R4:∀(ts:List Xd),Ub (ts.map fun t=>V.ref t.1) (ts.map fun t=>Value.ref t.1)
 |[]=>.nil
 |t::ts=>.cons rfl (R4 ts)
section
variable {X:Cx}
def CM(K:ZmM):List V->Hp->VK->Prop:=fun xs H Q=>∃p,∃ts:List Xd,xs=[.ref p]/\Uc K H p (ts.map fun t=>V.ref t.1) /\
  (∀t∈ts,Re K H t.1 (t.2.map V.int)/\t.2≠[])/\ts.length<=1000000/\∀l,H l=none->∀qs:List Xd,qs.Perm ts->So (qs.map (·.2))->Q (.ref l) (upd H l (.lst (qs.map fun t=>V.ref t.1)))
theorem Zep:Xf X (.builtin "sorted") (CM X.K):=by
 intro Za s σ H xs us Q I r h;obtain⟨p,ts,rfl,hq,hall,hz0,q⟩:=h;obtain⟨u,rfl,rx⟩:=Np r;cases rx;obtain⟨its,r',pl,hz⟩:=I.list hq;have hits:=ZO r';subst hits;have tup:∀(s1:Ha),(∀b o,s.heap.get? b=some o->s1.heap.get? b=some o)->∀t∈ts,∃vs:LI3,Ub (t.2.map V.int) vs/\IsTup s1.heap t.1 vs.toArray:=fun s1 k t ht=>by
  have I':Da X Za σ H { s with heap:=s1.heap,toks:=s1.toks }:=I.kept k;obtain⟨vs,rv,pt,_⟩:=I'.tuple (hall t ht).1;exact⟨vs,rv,pt⟩
 have hu:∀t∈ts,∀t'∈ts,t.1=t'.1->t.2=t'.2:=fun t ht t' Ad e=>by
  obtain⟨vs,rv,ob,eo,oc,k1,od⟩:=tup s (fun _ _ h=>h) t ht;obtain⟨vs',rv',ob',eo',oc',k1',od'⟩:=tup s (fun _ _ h=>h) t' Ad;rw[e,eo'] at eo;cases eo;rw[od] at od';have e2:vs.toArray=vs'.toArray:=by injection od'
  have e3:vs=vs':=by simpa using e2
  subst e3;rw[<- (T5 rv).1,<- (T5 rv').1]
 refine Zl2 (tuples' true) (fun x y=>HT.Jc (Nf ts (Bc x)) (Nf ts (Bc y))) pl.isList (by simpa using hz0) (fun h2 s1 Q' k q'=>?_) (fun s1 x y hx hy k C q'=>?_) (fun x y _ _ h=>K9 h) (fun x y z _ _ _ h1 h2=>M9 h1 h2) fun D h' c out k hD p1 p2 e=>?_
 ·have:∀(ts:List Xd) (its:LI3),(∀t∈ts,t.2≠[]/\∃vs:LI3,Ub (t.2.map V.int) vs/\IsTup s1.heap t.1 vs.toArray)->Ub (ts.map fun t=>V.ref t.1) its->∃fs:LI3,fs.length=ts.length/\PySem.W.KatTups s1.heap its fs/\∀v∈fs,∃n t,v=Value.int n t:=by
   intro ts
   induction ts with
   |nil =>
    intro its _ rv;cases rv;exact⟨[],rfl,trivial,by simp⟩
   |cons t ts ih =>
    intro its ht rv;cases rv with
    |cons rv tv =>
     obtain⟨fs,e1,e2,e3⟩:=ih _ (fun t' h'=>ht t' (Fi _ h')) tv;obtain⟨hne,vs,rvs,ob,eo,oc,k,od⟩:=ht t (Tl ..);obtain⟨n,ns,en⟩:=KE hne;rw[en] at rvs;cases rvs with
     |cons rn tn =>
      obtain⟨tk,rfl⟩:=rn;have rv':_=Value.ref t.1:=rv;subst rv';exact⟨.int n tk::fs,by simp[e1],⟨⟨t.1,ob,_,k,rfl,eo,oc,od,rfl⟩,e2⟩,fun v hv=>(Lc.mp hv).elim (fun z=>⟨n,tk,z⟩) (e3 v)⟩
  obtain⟨fs,e1,e2,e3⟩:=this ts _ (fun t ht=>⟨(hall t ht).2,tup s1 k t ht⟩) r';exact PySem.W.kat_kind (T:=.type "int") e2 (by rw[e1];simp at h2;lia) (fun v hv=>by obtain⟨n,t,rfl⟩:=e3 v hv;exact PySem.W.Looks.of_pure rfl) rfl q'
 ·obtain⟨t,ht,rfl⟩:=Ze.mp hx
  obtain⟨t',Ad,rfl⟩:=Ze.mp hy;obtain⟨vs,rv,ob,eo,oc,k1,od⟩:=tup s1 k t ht;obtain⟨vs',rv',ob',eo',oc',k1',od'⟩:=tup s1 k t' Ad;refine PySem.W.kat_lt eo od eo' od' (N9 rv rv' ?_ ?_)
  ·simp
  ·rw[show Bc (.ref t.1)=t.1 from rfl,show Bc (.ref t'.1)=t'.1 from rfl,En hu ht,En hu Ad] at q'
   exact q'
 ·have ho:∀u∈out,∃t∈ts,u=Value.ref t.1:=fun u hu=>by
   obtain⟨t,ht,e⟩:=Ze.mp (p1.mem_iff.mp hu);exact⟨t,ht,e.symm⟩
  have hp:(out.map fun v=>((Bc v,Nf ts (Bc v)):Xd)).Perm ts:=by
   have h1:=p1.map fun v=>((Bc v,Nf ts (Bc v)):Xd)
   rw[Me] at h1;have h2:ts.map ((fun v=>((Bc v,Nf ts (Bc v)):Xd))∘fun t=>Value.ref t.1)=ts:=by
    have:ts.map ((fun v=>((Bc v,Nf ts (Bc v)):Xd))∘fun t=>Value.ref t.1)=ts.map id:=Om fun t ht=>by
     show ((t.1,Nf ts t.1):Xd)=t;rw[En hu ht]
    rw[this,SE]
   rw[h2] at h1;exact h1
  have hup:So ((out.map fun v=>((Bc v,Nf ts (Bc v)):Xd)).map (·.2)):=by
   rw[Me];exact Rp.mpr (p2.imp fun h=>h)
  have hout:out=(out.map fun v=>((Bc v,Nf ts (Bc v)):Xd)).map fun t=>Value.ref t.1:=by
   rw[Me];have:out.map ((fun(t:Xd)=>Value.ref t.1)∘fun v=>((Bc v,Nf ts (Bc v)):Xd))=out.map id:=Om fun u hu=>by
    obtain⟨t,ht,rfl⟩:=ho u hu;rfl
   rw[this,SE]
  generalize (out.map fun v=>((Bc v,Nf ts (Bc v)):Xd))=qs at hp hup hout;have I1:Da X Za σ (upd H D (.lst (qs.map fun t=>V.ref t.1))) { s with heap:=h' }:=by
   refine I.laid (t':=s.toks) k hD ⟨?_,_,c, ?_,e⟩
   ·rw[Lb,hp.length_eq];exact Ek hz0
   ·rw[hout];exact R4 qs
  exact⟨.ref D,_,I1,rfl,q D (I.hok.fresh hD) qs hp hup⟩
theorem Zeq{K:ZmM}(e:X.K=K:=by rfl):Xf X (.builtin "sorted") (CM K):=by subst e;exact Zep
end
def Mw(ts:LI1):Prop:=(∀t∈ts,t≠[])/\ts.length<=1000000
open Classical in
def SA(xs:LI5):Rr PV:=if h:∃ts:LI1,xs=[.lst (ts.map Qb)]/\Mw ts then newF ((Bi h.choose).map Qb) else .bad
theorem Zkp{ts:LI1}(h:Mw ts):SA [.lst (ts.map Qb)]=newF ((Bi ts).map Qb):=by
 have hex:∃us:LI1,[PV.lst (ts.map Qb)]=[.lst (us.map Qb)]/\Mw us:=⟨ts,rfl,h⟩
 unfold SA;rw[Rm hex];have hs:ts.map Qb=hex.choose.map Qb:=PV.lst.inj (List.cons.inj hex.choose_spec.1).1;have e:hex.choose=ts:=(R5 hs).symm;rw[e]
section
variable {K:ZmM}{B:Ja->Prop}{EX:PX->Hp->Prop}{H0 H:Hp}{σ:St}{Γ Γ':List Md}{ρ:LI5}{F:Nat->LI2}{R:LI2}{ta:TA}{fa:LI5->Rr LI5}
theorem IM{S:Ja->Prop}:∀{ts:LI1}{vs:List V},Reps K H S (ts.map Qb) vs->∃qs:List Xd,vs=(qs.map fun t=>V.ref t.1)/\(qs.map fun t=>t.2)=ts/\∀t∈qs,Re K H t.1 (t.2.map V.int)/\Ya K H S (Qb t.2) (V.ref t.1)
 |[],vs,h=>⟨[],h,rfl,by simp⟩
 |ns::ts,vs,h=>by
  obtain⟨v,r,rfl,h1,h2⟩:=h;obtain⟨qs,rfl,e2,e3⟩:=IM h2;have h1':=h1;obtain⟨a,ws,rfl,hn,hr⟩:=h1;have:=T4 hr;subst this;refine⟨(a,ns)::qs,rfl,by rw[Dd,e2],fun t ht=>?_⟩;rcases Lc.mp ht with rfl|ht
  ·exact⟨hn.sqT,h1'⟩
  ·exact e3 t ht
theorem HM{S:Ja->Prop}:∀{qs:List Xd},(∀t∈qs,Ya K H S (Qb t.2) (V.ref t.1))->Reps K H S ((qs.map (·.2)).map Qb) (qs.map fun t=>V.ref t.1)
 |[],_=>rfl
 |t::qs,h=>⟨_,_,rfl,h t (Tl ..),HM fun q hq=>h q (Fi _ hq)⟩
theorem Zf1(ha:Ge K EX Γ Γ' ta fa):DE K EX Γ Γ' .F (Ci (CM K) ta) (fun ρ=>(fa ρ).bind SA):=fun B H0 H σ ρ F R Q A d=>by
 refine ha B H0 H σ ρ F R _ A (d.bind.imp (fun xs _ d vs H1 F1 s1 f1 p1 A1=>?_) fun e q=>q);unfold SA at d
 split at d
 ·rename_i hex
  have hs:=hex.choose_spec;generalize hex.choose=ts at d hs;obtain⟨rfl,hne,hl⟩:=hs;obtain⟨h1,h2,d⟩:=Dn.newF d;obtain⟨v,rfl,a,ws,rfl,hn,hr⟩:=Ik p1;obtain⟨qs,rfl,rfl,e3⟩:=IM hr;refine⟨a,qs,rfl,Vg (S:=fun _=>True) hn,fun t ht=>⟨(e3 t ht).1,hne _ (WE ht)⟩,by simpa using hl,fun l hz zs hp hup=>?_⟩;have e:Bi (qs.map (·.2))=zs.map (·.2):=S5 (Ov _) hup ((Ql _).trans (hp.map (·.2)).symm);have pr:=HM (K:=K) (H:=H1) (S:=fun _=>True) (qs:=zs) fun t ht=>(e3 t (hp.mem_iff.mp ht)).2;rw[<- e] at pr;exact d _ _ (s1.trans (Ia.new hz)) (Cc.newP s1 f1 pr h1 A1 hz)
 ·exact d.elim
end
end L2
namespace My
open L2
def Bs(n:Nat)(s:Int)(b:LI0):Prop:=b.length=n/\(∀x∈b,0<=x)/\b.sum=s
theorem Bs.sow{n:Nat}{s:Int}{b:LI0}(h:Bs n s b){p:Int}(h0:0<=p)(h1:p<n):Bs n s (Uf b p):=by
 obtain⟨l,nn,sm⟩:=h;refine⟨by rw[Zl7];exact l,fun x hx=>?_,by rw[Zl8 h0 (by lia) (RV nn _)];exact sm⟩;unfold Uf tab at hx;obtain⟨y,hy,rfl⟩:=Ze.mp hx;exact Zl9 nn _ y (Qg.mp hy)
theorem Zjn:∀(n:Nat) (l:List Nat),l.Nodup->(∀x∈l,x<n)->l.length<=n:=by
 intro n
 induction n with
 |zero=>intro l _ h;cases l with
  |nil=>exact Cb _
  |cons x l=>exact Gb (h x (by simp)) (by lia)
 |succ n ih =>
  intro l hd h;have e:=ih (l.erase n) (hd.erase n) (fun x hx=>by
   have:=h x (List.mem_of_mem_erase hx);have:x≠n:=fun z=>by subst z;exact(List.Nodup.mem_erase_iff hd).mp hx |>.1 rfl
   lia)
  by_cases c:n∈l
  ·rw[List.length_erase_of_mem c] at e;lia
  ·rw[List.erase_of_not_mem c] at e;lia
theorem VY{a b:LI0}(hl:a.length=b.length)(hs:a.sum=b.sum)(ha:∀x∈a,0<=x)(hb:∀x∈b,0<=x)(h:HT.Jc a b=true):Nn a≠Nn b:=by
 obtain⟨i,i1,i2,i3⟩:=UX h;have:=JY hl hs ha hb (fun z=>by rw[z] at hl;simp at hl;lia) ⟨i,by lia,i2,by lia⟩;unfold Nn;rw[hl,hs];lia
theorem Zjp{a b:LI0}(hl:a.length=b.length)(hs:a.sum=b.sum)(ha:∀x∈a,0<=x)(hb:∀x∈b,0<=x)(h:Nn a=Nn b):a=b:=by
 cases h1:HT.Jc a b with
 |true=>exact Gb h (VY hl hs ha hb h1)
 |false =>
  cases h2:HT.Jc b a with
  |true=>exact Gb h.symm (VY hl.symm hs.symm hb ha h2)
  |false=>exact HL.L9 h1 h2
theorem Zd6{n:Nat}{s:Int}(hn:1<=n){L:LI1}(nd:L.Nodup)(hL:∀x∈L,Bs n s x):L.length<=(Ie n s).toNat:=by
 have hb:∀x∈L,0<=Nn x/\Nn x<Ie n s:=fun x hx=>by
  obtain⟨l,nn,sm⟩:=hL x hx;have:=Zjo (l:=x) (fun z=>by rw[z] at l;simp at l;lia) nn;rw[l,sm] at this;exact this
 have h:=Zjn (Ie n s).toNat (L.map fun x=>(Nn x).toNat) (by
  rw[Tz,Rp];refine(Tz.mp nd).imp_of_mem ?_;intro a b ha hb' hab e;obtain⟨l,nn,sm⟩:=hL a ha;obtain⟨l',nn',sm'⟩:=hL b hb';have:=hb a ha;have:=hb b hb';exact hab (Zjp (by lia) (by lia) nn nn' (by lia))) (fun z hz=>by
  obtain⟨x,hx,rfl⟩:=Ze.mp hz;have:=hb x hx;lia)
 rw[Lb] at h;exact h
inductive Wh(P:LI0)(b:LI0):LI0->Prop
 |refl:Wh P b b
 |step {x:LI0}{p:Int}:Wh P b x->p∈P->0<x.getD p.toNat 0->Wh P b (Uf x p)
theorem Wh.bs{P b:LI0}{n:Nat}{s:Int}(hP:∀p∈P,0<=p/\p<n)(hb:Bs n s b){x:LI0}(h:Wh P b x):Bs n s x:=by
 induction h with
 |refl=>exact hb
 |step _ hp hx ih=>exact ih.sow (hP _ hp).1 (hP _ hp).2
def Yd(P:LI0)(x:LI0):List (Int×LI0):=(P.filter fun p=>decide (0<x.getD p.toNat 0)).map fun p=>(p,Uf x p)
theorem Ez{P x:LI0}{y:Int×LI0}:y∈Yd P x ↔ y.1∈P/\0<x.getD y.1.toNat 0/\y.2=Uf x y.1:=by
 unfold Yd;constructor
 ·intro h
  obtain⟨p,hp,rfl⟩:=Ze.mp h;obtain⟨h1,h2⟩:=Wl.mp hp;exact⟨h1,Wi h2,rfl⟩
 ·rintro⟨h1,h2,h3⟩
  refine Ze.mpr ⟨y.1,Wl.mpr ⟨h1,Hb h2⟩, ?_⟩;rw[<- h3]
abbrev NB:=LI1×LI1×LI5
noncomputable def Mh(x:LI0)(st:NB)(y:Int×LI0):NB:=if y.2∈st.2.1 then st else (st.1++[y.2],st.2.1++[y.2],st.2.2++[.tup [Qb x,.int y.1]])
def MR(P x:LI0)(st:NB):NB:=(Yd P x).foldl (Mh x) st
def Uh(P:LI0)(lv:LI1)(st:NB):NB:=lv.foldl (fun st x=>MR P x st) st
structure Fo(R:LI0->Prop)(bs0:LI1)(st:NB):Prop where
 app:st.2.1=bs0++st.1
 nd:st.2.1.Nodup
 re:∀x∈st.2.1,R x
 ln:st.2.2.length=st.2.1.length
 fl:PV.flats st.2.2=true
theorem XU:∀(xs:LI5) (y:PV),PV.flats xs=true->PV.flat y=true->PV.flats (xs++[y])=true
 |[],y,_,h=>by simp[PV.flats,h]
 |x::xs,y,h1,h2=>by
  simp only[PV.flats,Bool.and_eq_true] at h1;simp only[Q6,PV.flats,Bool.and_eq_true];exact⟨h1.1,XU xs y h1.2 h2⟩
section
variable {R:LI0->Prop}{bs0:LI1}{st:NB}
theorem Fo.one(h:Fo R bs0 st){x:LI0}{y:Int×LI0}(hy:R y.2):Fo R bs0 (Mh x st y)/\(∀z∈st.2.1,z∈(Mh x st y).2.1)/\y.2∈(Mh x st y).2.1:=by
 unfold Mh
 split
 ·rename_i c
  exact⟨h,fun z hz=>hz,c⟩
 ·rename_i c
  refine⟨⟨by simp[h.app], ?_,fun z hz=>?_,by simp[h.ln], ?_⟩,fun z hz=>by simp[hz],by simp⟩
  ·show (st.2.1++[y.2]).Nodup
   rw[List.nodup_append];refine⟨h.nd,by simp,fun a ha b hb e=>?_⟩;rw[Gi.mp hb] at e;rw[e] at ha;exact c ha
  ·rcases Ud.mp hz with hz|hz
   ·exact h.re z hz
   ·rw[Gi.mp hz];exact hy
  ·exact XU _ _ h.fl (by simp only[PV.flat,PV.flats,Ru,Bool.and_self])
theorem Fo.fold{x:LI0}:∀{L:List (Int×LI0)}{st:NB},Fo R bs0 st->(∀y∈L,R y.2)->Fo R bs0 (L.foldl (Mh x) st)/\(∀z∈st.2.1,z∈(L.foldl (Mh x) st).2.1)/\∀y∈L,y.2∈(L.foldl (Mh x) st).2.1
 |[],st,h,_=>⟨h,fun z hz=>hz,by simp⟩
 |y::L,st,h,hL=>by
  obtain⟨a1,a2,a3⟩:=h.one (x:=x) (hL y (by simp));obtain⟨b1,b2,b3⟩:=Fo.fold (x:=x) (L:=L) a1 fun z hz=>hL z (by simp[hz]);refine⟨b1,fun z hz=>b2 z (a2 z hz),fun z hz=>?_⟩;rcases Lc.mp hz with rfl|hz
  ·exact b2 _ a3
  ·exact b3 z hz
end
section
variable {P b:LI0}{bs0:LI1}
theorem Fo.lv:∀{lv:LI1}{st:NB},Fo (Wh P b) bs0 st->(∀x∈lv,Wh P b x)->Fo (Wh P b) bs0 (Uh P lv st)/\(∀z∈st.2.1,z∈(Uh P lv st).2.1)/\∀x∈lv,∀p∈P,0<x.getD p.toNat 0->Uf x p∈(Uh P lv st).2.1
 |[],st,h,_=>⟨h,fun z hz=>hz,by simp⟩
 |x::lv,st,h,hL=>by
  obtain⟨a1,a2,a3⟩:=Fo.fold (x:=x) (L:=Yd P x) h fun y hy=>by
   obtain⟨h1,h2,h3⟩:=Ez.mp hy;rw[h3];exact .step (hL x (by simp)) h1 h2
  obtain⟨b1,b2,b3⟩:=Fo.lv (lv:=lv) a1 fun z hz=>hL z (by simp[hz]);refine⟨b1,fun z hz=>b2 z (a2 z hz),fun z hz p hp hx=>?_⟩;rcases Lc.mp hz with rfl|hz
  ·exact b2 _ (a3 (p,Uf z p) (Ez.mpr ⟨hp,hx,rfl⟩))
  ·exact b3 z hz p hp hx
end
noncomputable def wk(P b:LI0):Nat->NB
 |0=>([b],[b],[.non])
 |i+1=>Uh P (wk P b i).1 ([],(wk P b i).2)
structure Wk(P b:LI0)(st:NB):Prop where
 nd:st.2.1.Nodup
 re:∀x∈st.2.1,Wh P b x
 sub:∀x∈st.1,x∈st.2.1
 cl:∀x∈st.2.1,x∈st.1\/∀p∈P,0<x.getD p.toNat 0->Uf x p∈st.2.1
 bg:b∈st.2.1
 ln:st.2.2.length=st.2.1.length
 fl:PV.flats st.2.2=true
theorem Bt(P b:LI0):∀i,Wk P b (wk P b i)
 |0=>⟨by simp[wk],fun x hx=>by rw[Gi.mp hx];exact .refl,fun x hx=>hx,fun x hx=>.inl hx,by simp[wk],rfl,rfl⟩
 |i+1=>by
  have h:=Bt P b i;have f0:Fo (Wh P b) (wk P b i).2.1 ([],(wk P b i).2):=⟨by simp,h.nd,h.re,h.ln,h.fl⟩
  obtain⟨a1,a2,a3⟩:=Fo.lv f0 fun x hx=>h.re x (h.sub x hx);show Wk P b (Uh P (wk P b i).1 ([],(wk P b i).2));refine⟨a1.nd,a1.re,fun x hx=>?_,fun x hx=>?_,a2 _ h.bg,a1.ln,a1.fl⟩
  ·rw[a1.app];exact Ud.mpr (.inr hx)
  ·rw[a1.app] at hx
   rcases Ud.mp hx with hx|hx
   ·right
    intro p hp hp0;rcases h.cl x hx with c|c
    ·exact a3 x c p hp hp0
    ·exact a2 _ (c p hp hp0)
   ·exact .inl hx
theorem Zb2(P b:LI0)(i:Nat):(wk P b (i+1)).2.1=(wk P b i).2.1++(wk P b (i+1)).1:=by
 have h:=Bt P b i;have f0:Fo (Wh P b) (wk P b i).2.1 ([],(wk P b i).2):=⟨by simp,h.nd,h.re,h.ln,h.fl⟩
 exact(Fo.lv f0 fun x hx=>h.re x (h.sub x hx)).1.app
theorem Zb3(P b:LI0):∀i,(∀j,j<=i->(wk P b j).1≠[])->i+1<=(wk P b i).2.1.length
 |0,_=>by simp[wk]
 |i+1,h=>by
  have ih:=Zb3 P b i fun j hj=>h j (by lia);rw[Zb2,Nh];have:=List.length_pos_iff.mpr (h (i+1) (Cb _));lia
def Vo(P b:LI0):Nat:=((List.range 1001).find? fun i=>(wk P b i).1.isEmpty).getD 0
structure Hj(n:Nat)(s:Int)(P b:LI0):Prop where
 n1:1<=n
 hP:∀p∈P,0<=p/\p<n
 hb:Bs n s b
 few:Ie n s<=1000
theorem Hj.le{n:Nat}{s:Int}{P b:LI0}(h:Hj n s P b)(i:Nat):(wk P b i).2.1.length<=1000:=by
 have:=Zd6 h.n1 (Bt P b i).nd fun x hx=>((Bt P b i).re x hx).bs h.hP h.hb;have:=h.few;lia
theorem Hj.end{n:Nat}{s:Int}{P b:LI0}(h:Hj n s P b):Vo P b<=1000/\(wk P b (Vo P b)).1=[]/\∀j,j<Vo P b->(wk P b j).1≠[]:=by
 have hex:∃i,i<1001/\(wk P b i).1=[]:=by
  apply Classical.byContradiction;intro c;have:=Zb3 P b 1000 fun j hj e=>c ⟨j,by lia,e⟩;have:=h.le 1000;lia
 obtain⟨t,t1,t2⟩:=hex;unfold Vo;cases hf:(List.range 1001).find? fun i=>(wk P b i).1.isEmpty with
 |none =>
  have:=ME.mp hf t (Qg.mpr t1);rw[t2] at this;exact Gb rfl this
 |some q =>
  obtain⟨q1,q2,q3⟩:=List.find?_range_eq_some.mp hf;refine⟨by have:=Qg.mp q2;simp only[Vw];lia,List.isEmpty_iff.mp q1,fun j hj e=>?_⟩;have:=q3 j hj;simp[e] at this
def Ih(P b:LI0):LI1:=(wk P b (Vo P b)).2.1
theorem Hj.mem{n:Nat}{s:Int}{P b:LI0}(h:Hj n s P b){x:LI0}:x∈Ih P b ↔ Wh P b x:=by
 have W:=Bt P b (Vo P b);have e:=h.end.2.1;constructor
 ·exact fun hx=>W.re x hx
 ·intro hx
  induction hx with
  |refl=>exact W.bg
  |step _ hp h0 ih =>
   rcases W.cl _ ih with c|c
   ·rw[e] at c;cases c
   ·exact c _ hp h0
theorem Zai(P b:LI0):(Ih P b).Nodup:=(Bt P b _).nd
def Js(P b:LI0):LI1:=Bi (Ih P b)
theorem Hj.com{n:Nat}{s:Int}{P b:LI0}(h:Hj n s P b){x:LI0}:x∈Js P b ↔ Wh P b x:=by
 unfold Js;rw[(Ql _).mem_iff,h.mem]
theorem Hj.go{n:Nat}{s:Int}{P b:LI0}(h:Hj n s P b){x:LI0}(hx:Wh P b x):Hj n s P x:=⟨h.n1,h.hP,hx.bs h.hP h.hb,h.few⟩
noncomputable def endB(P x:LI0):Bool:=P.all fun p=>decide (x.getD p.toNat 0=0)
def Pa(n:Nat)(l:LI0):LI0:=((List.range n).filter fun(i:Nat)=>decide ((i:Int) ∉ l)).map fun(i:Nat)=>(i:Int)
theorem K3{n:Nat}{l:LI0}{p:Int}:p∈Pa n l ↔ (0<=p/\p<n)/\p ∉ l:=by
 unfold Pa;constructor
 ·intro h
  obtain⟨i,hi,rfl⟩:=Ze.mp h;obtain⟨h1,h2⟩:=Wl.mp hi;have:=Qg.mp h1;exact⟨by lia,Wi h2⟩
 ·rintro⟨h1,h2⟩
  exact Ze.mpr ⟨p.toNat,Wl.mpr ⟨Qg.mpr (by lia),Hb (by rw[Hl h1.1];exact h2)⟩,by lia⟩
theorem T8(n:Nat)(l:LI0):(Pa n l).length<=n:=by
 unfold Pa;rw[Lb];exact Oe (Xv _ _) (by simp)
section
variable {n:Nat}{s:Int}{P b:LI0} (F:Hj n s P b)
include F
end
end My
namespace My
open PySem L2
end My
namespace My
open L2
theorem FR:∀{ks:List (List Sb)}{xs:LI5}{k:List Sb}{v:PV}{j:Nat},ks.Nodup->ks[j]?=some k->xs[j]?=some v->Ye ks xs k=some v
 |[],_,_,_,_,_,h,_=>by simp at h
 |k'::ks,[],_,_,_,_,_,h=>by simp at h
 |k'::ks,x::xs,k,v,0,_,h1,h2=>by
  simp at h1 h2;subst h1 h2;simp[Ye]
 |k'::ks,x::xs,k,v,j+1,nd,h1,h2=>by
  simp only[MO] at h1 h2;obtain⟨n1,n2⟩:=Lr.mp nd;have:k'≠k:=fun e=>n1 (by rw[e];exact Tc h1);have ih:=FR n2 h1 h2;simp only[Ye];rw[Aa this];exact ih
theorem ZlL{bs:LI1}(h:bs.Nodup):(bs.map tI).Nodup:=by
 rw[Tz,Rp];exact(Tz.mp h).imp fun hab e=>hab (ID e)
structure ZmC(ks:List (List Sb))(vs:LI5)(N:Nat)(ys:Nat->LI0)(ps:Nat->Int):Prop where
 up:∀t,t<N->Ye ks vs (tI (ys t))=some (.tup [Qb (ys (t+1)),.int (ps t)])
 last:Ye ks vs (tI (ys N))=some .non
section
variable {n:Nat}{s:Int}{P b o:LI0} (F:Hj n s P b) (ho:Wh P b o)
include F ho
end
abbrev DQ:=LI1×LI1
structure Dq(R:LI0->Prop)(M0:LI1)(st:DQ):Prop where
 app:st.2=M0++st.1
 nd:st.2.Nodup
 re:∀z∈st.1,R z
section
end
end My
namespace L2
open PySem PySem.Spec PyProof.Rows
def Dm(Rk:Va->Va->Bool)(tag:Va->Nat)(x y:Ua):Bool:=Rk x.1 y.1 || (!(Rk y.1 x.1)&&decide (tag x.2<tag y.2))
theorem OU{Rk:Va->Va->Bool}{tag:Va->Nat}{x y:Ua}:Dm Rk tag x y=false ↔ Rk x.1 y.1=false/\(Rk y.1 x.1=true\/tag y.2<=tag x.2):=by
 unfold Dm;cases h1:Rk x.1 y.1<;>cases h2:Rk y.1 x.1<;>simp
section
variable {prog:Qc}{w:Xb}{A:Qe}{E:Va->Ha->Prop}{s:Ha}{a kS:Ja}{e1:Nat}{vs ks:LI3}{P:PySem.Fin->Ha->Prop}
theorem ZhW(κ:Si)(Rk:Va->Va->Bool)(tag:Va->Nat)(ho:s.heap.get? a=some (Sd "list" #[] e1)){ne:Nat}(hk0:s.heap.get? kS=some (Sd "list" ks.toArray ne))(hka:kS≠a)(hz:vs.length<=1000000)(hl:ks.length=vs.length)(hk:2<=vs.length->∀(Q:Si->Ha->Prop),Q κ s->Sa (La prog w) A (keyKind' ks.toArray) Q E s)(hc:∀x y,x∈ks->y∈ks->∀C:Bool->Ha->Prop,C (Rk x y) s->Sa (La prog w) A (keyLt' κ x y) C (fun _ _=>False) s)(asy:∀x y,x∈ks->y∈ks->Rk x y=true->Rk y x=false)(tr:∀x y z,x∈ks->y∈ks->z∈ks->Rk y x=false->Rk z y=false->Rk z x=false)(ht:∀i x,vs[i]?=some x->tag x=i)(hq:∀h' c (ps:List Ua),(∀b o,b≠a->b≠kS->s.heap.get? b=some o->h'.get? b=some o)->ps.Perm (ks.zip vs)->ps.Pairwise (fun x y=>Dm Rk tag y x=false)->h'.get? a=some (Sd "list" (ps.map (·.2)).toArray c)->P (.done (.ret .none)) { s with heap:=h' }) :
  Sa (La prog w) A (ksk_end a false vs.toArray e1 (.ref kS) ks.toArray) P E s:=by
 have line:vs.length<=Rb:=Ek hz;have hzs:(ks.toArray.zip vs.toArray).size=vs.length:=by rw[Array.size_zip,Ld,Ld,hl,QF]
 have fin:∀st:Xa,Gj st=none->(Ma st).Perm (ks.toArray.zip vs.toArray)->(Ma st).toList.Pairwise (fun x y=>Dm Rk tag y x=false)->Sa (La prog w) A (ksk_tail a false e1 (.ref kS) st) P E s:=fun st hf hp hs=>by
  have hsz:(Ma st).size=vs.length:=by rw[hp.size_eq,hzs]
  have b1:=Heap.SameBut.update s.heap kS (Obj.mapSeq fun _=>(#[]:Array Va));have a1:(s.heap.update kS (Obj.mapSeq fun _=>(#[]:Array Va))).get? a=some (Sd "list" #[] e1):=(b1.2 a (Ne.symm hka)).trans ho;have b2:=Heap.SameBut.update (s.heap.update kS (Obj.mapSeq fun _=>(#[]:Array Va))) a (Obj.mapSeq fun _=>(Ma st).map (·.2));obtain⟨c2,hc2⟩:∃c2,((s.heap.update kS (Obj.mapSeq fun _=>(#[]:Array Va))).update a (Obj.mapSeq fun _=>(Ma st).map (·.2))).get? a=some (Sd "list" ((Ma st).map (·.2)) c2):=⟨_,get?_update_seq a1 _⟩
  unfold ksk_tail;dsimp only;refine Ka (T0 hk0 rfl (Ka (wpAny_letGo (Ka (seqEpoch_at a1 rfl (Ka (T0 a1 rfl ?_ (Og _) ?_)))))) ?_ (Og _))
  ·rw[hf]
   simp only[bne_self_eq_false,Bool.false_eq_true,if_false];refine Mb (hq _ c2 (Ma st).toList (fun b o nb nk q=>(b2.2 b nb).trans ((b1.2 b nk).trans q)) ?_ hs ?_)
   ·have:=EO.mp hp
    rwa [ksk_zip] at this
   ·rw[hc2]
    congr 1;congr 1;apply U6.mp;rw[Mz]
  ·simp only[Bool.false_eq_true,if_false]
   rw[Array.size_map,hsz];exact Oe line (Wt _)
  ·rw[Ld,hl];exact line
 unfold ksk_end;dsimp only;simp only[Bool.false_eq_true,if_false];by_cases h2:vs.length<2
 ·have e2:vs.toArray.size<2:=by rw[Ld];exact h2
  rw[Ba e2,Ba e2];refine Ka (Mb (Ka (Mb (fin _ rfl (Array.Perm.refl _) ?_))));show (ks.toArray.zip vs.toArray).toList.Pairwise _;have Ae:(ks.toArray.zip vs.toArray).toList.length<2:=by rw[Gf,hzs];exact h2
  exact MZ Ae
 ·have e2:¬vs.toArray.size<2:=by rw[Ld];exact h2
  rw[Aa e2,Aa e2];refine Ka (hk (by lia) _ ?_);have zget:∀(i:Nat) (x:Ua),(ks.toArray.zip vs.toArray)[i]?=some x->x.1∈ks/\vs[i]?=some x.2:=fun i x hx=>by
   rw[<- Ah,ksk_zip,Wv] at hx;exact⟨Tc hx.1,hx.2⟩
  have C0:Mc prog w A s κ (fun x=>x.1∈ks) (fun x y=>Rk x.1 y.1) (fun _ _=>True):=
   ⟨fun x y hx hy _ Q q=>hc _ _ hx hy Q q,fun x y hx hy q=>asy _ _ hx hy q,fun x y z hx hy hz q r=>tr _ _ _ hx hy hz q r⟩
  have C:Mc prog w A s κ (fun x=>x.1∈ks) (Dm Rk tag) (fun x y=>Dm Rk tag x y=Rk x.1 y.1):=by
   refine⟨fun x y hx hy ok Q q=>hc _ _ hx hy Q (by rw[<- ok];exact q),fun x y hx hy q=>?_,fun x y z hx hy hz q r=>?_⟩
   ·rw[OU]
    unfold Dm at q;simp only[Bool.or_eq_true,Bool.and_eq_true,Bool.not_eq_true',decide_eq_true_eq] at q;rcases q with q|⟨q1,q2⟩
    ·exact⟨asy _ _ hx hy q,.inl q⟩
    ·exact⟨q1,.inr (Tt q2)⟩
   ·rw[OU] at q r ⊢
    refine⟨tr _ _ _ hx hy hz q.1 r.1, ?_⟩;cases h:Rk x.1 z.1 with
    |true=>exact .inl rfl
    |false =>
     have h1:=tr _ _ _ hz hx hy h q.1;have h2:=tr _ _ _ hy hz hx r.1 h;right;have t1:=q.2.resolve_left (by rw[h2];simp);have t2:=r.2.resolve_left (by rw[h1];simp);exact Oe t1 t2
  have run:=ZbB (E:=E) C C0 ⟨fun x y h=>by unfold Dm;rw[h];rfl,fun _ _ h=>h⟩ (st:=SortSt.mk' κ (ks.toArray.zip vs.toArray) #[] 7 none)
   (Q:=fun _ Ca=>Gj Ca=none/\(Ma Ca).Perm (ks.toArray.zip vs.toArray)/\Up (Dm Rk tag) (Ma Ca) 0 (ks.toArray.zip vs.toArray).size) rfl rfl
   (fun i hi=>(zget i _ (Qp hi)).1) rfl (fun e p q hp hq hs=>by
    have hs':q<(ks.toArray.zip vs.toArray).size:=hs;have g1:=ht _ _ (zget q _ (Qp hs')).2;have g2:=ht _ _ (zget p _ (Qp (Nat.lt_trans (Ng hp hq) hs'))).2;show Dm Rk tag (gA (ks.toArray.zip vs.toArray) q) (gA (ks.toArray.zip vs.toArray) p)=_;unfold Dm;rw[g1,g2,Tb (by lia),Bool.and_false,Bool.or_false]) (fun Ca k1 k2 k3=>⟨k1,k2,k3⟩)
  refine Ka (Cf run ?_ fun _ _ e=>e);rintro⟨⟨⟩,st⟩ s' ⟨rfl,hf,hp,hu⟩;dsimp only at hf hp hu ⊢;refine fin st hf hp ?_;have sr:=hu.srt (C6 (by rw[Tp,hp.size_eq]));rw[Tv,Ho (C6 (by rw[Gf,hp.size_eq]))] at sr;exact sr
theorem ZhZ{f:Va}(J:LI3->Ha->Prop)(h0:J [] s)(hz:vs.length<=1000000)(turn:∀(kz:LI3) (x:Va) (s1:Ha),vs[kz.length]?=some x->J kz s1->Sa (La prog w) A (call f [x]) (fun k s2=>∃n,s2.heap.get? kS=some (Sd "list" kz.toArray n) /\
   ∀h' c,Heap.SameBut kS s2.heap h'->h'.get? kS=some (Sd "list" (kz++[k]).toArray c)->J (kz++[k]) { s2 with heap:=h' }) (fun _ _=>False) s1)(fin:∀(kz:LI3) (s1:Ha),kz.length=vs.length->J kz s1->∃n,s1.heap.get? kS=some (Sd "list" kz.toArray n)/\Sa (La prog w) A (ksk_end a false vs.toArray e1 (.ref kS) kz.toArray) P E s1) :
  Sa (La prog w) A (ksk_rest a f false vs.toArray e1 (.ref kS)) P E s:=by
 have line:vs.length<=Rb:=Ek hz;unfold ksk_rest;refine Ka (Yp ?_);rw[<- Array.forIn_toList];refine Ka (ksk_fold (fun i s'=>∃kz:LI3,kz.length=i/\J kz s') vs 0 s ⟨[],rfl,h0⟩ (fun j x s' hx hI=>?_) fun s' hI=>?_)
 ·obtain⟨kz,hkl,hJ⟩:=hI
  rw[Tp] at hkl;have hj:j<vs.length:=(Pd.mp hx).1;refine Ka (J1 (Cf (turn kz x s' (by rw[hkl];exact hx) hJ) (fun k s2 hk=>?_) fun _ _ q=>q.elim));obtain⟨n,e,hn⟩:=hk;dsimp only;refine Ka (T0 e rfl ?_ (by rw[Ld];lia) (by rw[Array.size_push,Ld];lia));refine Mb ⟨rfl,kz++[k],by rw[Nh,hkl];simp, ?_⟩;have e2:=get?_update_seq e (fun v=>v.push k);have e3:kz.toArray.push k=(kz++[k]).toArray:=by simp
  rw[e3] at e2;exact hn _ _ (Heap.SameBut.update s2.heap kS _) e2
 ·obtain⟨kz,hkl,hJ⟩:=hI
  rw[Tp] at hkl;obtain⟨n,e,hf⟩:=fin kz s' hkl hJ;exact Ka (listItems_at e rfl hf)
theorem Zl1{l f:Ja}{Q:Va->Ha->Prop}(hl:s.heap.IsList l vs.toArray)(hz:vs.length<=1000000)(go:∀(D kS:Ja) (e1:Nat) (h3:Heap),(∀b o,s.heap.get? b=some o->h3.get? b=some o)->s.heap.objs.size<=D->D<kS->h3.get? D=some (Sd "list" #[] e1)->h3.get? kS=some (Sd "list" #[] 0) ->
   Sa (La prog w) A.in1.in1 (ksk_rest D (.ref f) false vs.toArray e1 (.ref kS)) (fun r s'=>r=.done (.ret .none)/\Q (.ref D) s') E { s with heap:=h3 }) :
  Sa (La prog w) A (call (.builtin "sorted") [.ref l] [("key",.ref f)]) Q E s:=by
 have line:vs.length<=Rb:=Ek hz;refine call_function_entry_kw kind_sorted plain_sorted entry_sorted (ksk_s1 _ _) ?_;unfold Builtin.«sorted»;refine Ka (m:=checkCount "sorted" 1 1 _) (Mb (Ka (collect_list hl (Ka (U1 ?_ line)) line)));generalize eg:(s.heap.push (Sd "list" #[] 0)).update s.heap.objs.size (Obj.mapSeq (·++vs.toArray))=h1;have z1:h1.objs.size=s.heap.objs.size+1:=by subst eg;rw[Heap.size_update,size_push']
 have k1:∀b o,s.heap.get? b=some o->h1.get? b=some o:=fun b o q=>by
  have lb:=Heap.lt_size q;subst eg;rw[Heap.get?_update_ne _ _ _ _ (Vf lb)];exact Heap.get?_push_of_some _ q
 have hD:(h1.push (Sd "list" vs.toArray 0)).get? h1.objs.size=some (Sd "list" vs.toArray 0):=Heap.get?_push_size _ rfl;show Sa _ _ _ _ _ { s with heap:=h1.push (Sd "list" vs.toArray 0) };obtain⟨e1,ho1⟩:∃c,((h1.push (Sd "list" vs.toArray 0)).update h1.objs.size (Obj.mapSeq fun _=>(#[]:Array Va))).get? h1.objs.size=some (Sd "list" #[] c):=⟨_,get?_update_seq hD _⟩
 refine Ka (Yl (wpAny_call_entry_kw slot_list_sort ⟨_,hD,rfl⟩ entry_list_sort ?body (ksk_l1 _ _)));rw[show Builtin.«list.sort» ⟨[.ref h1.objs.size],[("key",.ref f)]⟩=ksk_tree h1.objs.size (.ref f) false from ksk_t1 f _];unfold ksk_tree;refine Ka (listItems_at hD rfl (Ka (T0 hD rfl (Ka (seqEpoch_at ho1 rfl (Ka (wpAny_newTuple (Ka (U1 (Yl ?_) (Og _))) ?_)))) ?_ (Og _))));rotate_left
 ·exact line
 ·rw[Ld];exact line
 refine Cf (go h1.objs.size _ e1 _ (fun b o q=>?_) (by rw[z1];exact Wt _) ?_ ?_ ?_) (fun r s' ⟨e,q⟩=>?_) fun _ _ e=>e
 ·have nb:b≠h1.objs.size:=Vf (by rw[z1];exact JF (Heap.lt_size q))
  exact Heap.get?_push_of_some _ (Heap.get?_push_of_some _ ((Heap.get?_update_ne _ _ _ _ nb).trans (Heap.get?_push_of_some _ (k1 b o q))))
 ·rw[size_push',Heap.size_update,size_push'];exact JF (VF _)
 ·exact Heap.get?_push_of_some _ (Heap.get?_push_of_some _ ho1)
 ·exact Heap.get?_push_size _ rfl
 ·subst e
  exact⟨_,rfl,Mb ⟨_,rfl,q⟩⟩
end
noncomputable abbrev QL:Str := "ends_first.<locals>.<lambda>"
theorem Zbu{r:LI3}(hr:TriplesOk r):∀{l:LI3},TriplesOk l->TriplesOk (l++r)
 |[],_=>hr
 |.int _ _::.int _ _::c::l,h=>Zbu (l:=l) hr h
theorem DR{pos:Pos}{r:LI3}{c:Va}:∀{l:LI3},TriplesOk l->Yt pos (l++r)=some c->Yt pos l=some c\/Yt pos r=some c
 |[],_,e=>.inr e
 |.int a ta::.int b tb::d::l,h,e=>by
  have e:(if a==pos.line&&b==pos.col then some d else Yt pos (l++r))=some c:=e;show (if a==pos.line&&b==pos.col then some d else Yt pos l)=some c\/_
  split at e
  ·rename_i z;rw[Ba z];exact .inl e
  ·rename_i z;rw[Aa z];exact DR (l:=l) h e
theorem ZcI{pos p:Pos}{c d:Va}(e:Yt pos [rawInt p.line,rawInt p.col,c]=some d):d=c:=by
 have e:(if _ then some c else none)=some d:=e
 split at e
 ·exact(Option.some.inj e).symm
 ·cases e
noncomputable abbrev G9(params:Arguments)(body:Expr)(scope:Scope)(cl:List (Str×Ja))(pm:Va)(c':Ja)(ctv:Va):Obj:=PySem.W.kla_obj "<lambda>" QL params body scope cl pm c' ctv
section
variable {X:Cx}{Za:List (Ja×Obj)}{σ:St}{H:Hp}{s:Ha}{params:Arguments}{body:Expr}{scope:Scope}{pos:Pos}{f0 c P:Ja}{E:Va->Ha->Prop}{Q:Va->Ha->Prop}
theorem Zik{H':Hp}{h':Heap}{tk:Nat}(I:Da X Za σ H s)(hP:∃ps q,H P=some (.tbl ps q))(sm:Ia H H')(fr:∀b,H b=none->H' b≠none->s.heap.objs.size<=b)(hx:∀b o,b≠P->s.heap.get? b=some o->h'.get? b=some o)(ht:∃o,h'.get? P=some o)(ok:Pe X.prog X.w H' h'):Da X Za σ H' { s with heap:=h',toks:=tk }:=by
 obtain⟨ps,q,hP⟩:=hP;have np:∀{b},H b=none->b≠P:=fun {b} e z=>by rw[z,hP] at e;cases e
 refine I.call (g':=s.gens) (d':=s.drawn) (ch:=[]) ⟨fun b o e n _ _=>hx b o (np n) e,fun b o e n _ _=>⟨o.slots,hx b o (np n) e⟩,fun b o e n _=>?_,fun b o e _=>?_,fun b xs e=>sm _ _ e,fun b o u e=>sm _ _ e,fun b p q e=>sm _ _ e⟩ ok I.bare (fun b z=>Gb z (by simp))
 ·cases q:H' b with
  |none=>rfl
  |some u=>exact Gb (Heap.lt_size e) (J0.mpr (fr b n (by rw[q];simp)))
 ·by_cases z:b=P
  ·rw[z];exact ht
  ·exact⟨o,hx b o z e⟩
theorem Zij(I:Da X Za σ H s)(hT:Mj X.K f0=some (c,P))(hcode:X.env.code=.ref c)(hqual:X.env.qual ++ "<lambda>"=QL)(hcl:F0 scope X.env=pure (Jh scope X.env))(hdef:defaultsOf params X.env=([],[]))(h:∀(f c':Ja) (oc:Obj) (pm ctv:Va) (H':Hp) (s':Ha),Ia H H'->Da X Za σ H' s'->KF QL oc->H' c'=some (.frz oc (.own c'))->H' f=some (.frz (G9 params body scope (Jh scope X.env) pm c' ctv) (.own f))->Q (.ref f) s') :
  Sa (La X.prog X.w) X.A (eval (.Lambda params body scope pos) X.env) Q E s:=by
 refine PySem.W.kla_eval hdef ?_;rw[hqual];have hg:s.heap.Ns Pg X.mg:=I.ok.mod.glob.keeps I.bk;have hP:H P=some (.tbl #[] QL):=I.base.tbls _ _ _ (I.ok.tab f0 c P hT);obtain⟨more,e1,t1,cs⟩:=I.hok P _ hP;have C:PySem.W.CodeHd s.heap c P:=PySem.W.codeHd_of_K I.kIn (XW hT);have hgP:Pg≠P:=fun z=>by
  obtain⟨o,es,ep,e,d,_⟩:=hg;rw[z,e1] at e;cases e;cases d
 have hb:s.heap.BuiltinsAt X.mg P:=by
  obtain⟨bm,o,b1,b2,b3,b4,b5,b6⟩:=I.ok.mod.bmod;refine⟨bm,o,b1,b2,fun z=>?_,fun z=>?_,I.bk _ _ b3,b4,b5,b6⟩
  ·obtain⟨o',es,ep,e,d,_⟩:=I.ok.mod.glob
   rw[z,e] at b3;cases b3;rw[d] at b6;cases b6
  ·have:=I.bk _ _ b3
   rw[z,e1] at this;cases this;cases b6
 cases hcm:Yt pos ((#[]:Array Va)++more).toList with
 |some cv =>
  obtain⟨c',oc,rfl,hc',hCo⟩:=cs pos cv hcm;refine PySem.W.kla_makeFunctionHit (mg:=X.mg) hcl I.ok.glob hg hcode C e1 t1 hcm hb fun ctv h' tk hk hsz=>?_;have hf:H h'.objs.size=none:=I.hok.fresh hsz;refine h h'.objs.size c' oc _ ctv (upd H h'.objs.size (.frz _ (.own h'.objs.size))) _ (Ia.new hf) (I.laid (t':=tk) (fun b u e=>Heap.get?_push_of_some _ (hk b u e)) hsz ⟨Heap.get?_push_size _ rfl,_,Heap.get?_push_size _ rfl⟩) hCo ?_ Hd;rw[Ab (Gg hc' hf)];exact hc'
 |none =>
  refine PySem.W.kla_makeFunction (mg:=X.mg) hcl I.ok.glob hg hcode C e1 t1 hcm hgP hb fun c' ctv h' tk hx hge hlt hrec htb=>?_;obtain⟨c₂,oc,vs,t,e2,hoc,hd,hv⟩:=hrec;cases e2;have hc0:H c'=none:=I.hok.fresh hge;have hf0:H h'.objs.size=none:=I.hok.fresh (Oe hge (Tt hlt));have hcf:c'≠h'.objs.size:=Vf hlt;have hf1:upd H c' (.frz oc (.own c')) h'.objs.size=none:=by rw[Ab (Ne.symm hcf)];exact hf0
  have sm:∀u,Ia H (upd (upd H c' (.frz oc (.own c'))) h'.objs.size u):=fun u=>(Ia.new hc0).trans (Ia.new hf1);refine h h'.objs.size c' oc ((X.mg "__name__").getD .none) ctv (upd (upd H c' (.frz oc (.own c'))) h'.objs.size (.frz (G9 params body scope (Jh scope X.env) ((X.mg "__name__").getD .none) c' ctv) (.own h'.objs.size))) _ (sm _) ?_ ⟨vs,t,hd,hv⟩ ?_ Hd;rotate_left
  ·rw[Ab hcf];exact Hd
  have push:∀{b o},h'.get? b=some o->(h'.push (G9 params body scope (Jh scope X.env) ((X.mg "__name__").getD .none) c' ctv)).get? b=some o:=fun e=>Heap.get?_push_of_some _ e;refine Zik (P:=P) (h':=h'.push _) I ⟨_,_,hP⟩ (sm _) (fun b hn hn'=>?_) (fun b o nb e=>push (hx b o nb e)) ⟨_,push htb⟩ (fun b u e=>?_)
  ·by_cases z:b=h'.objs.size
   ·rw[z];exact Oe hge (Tt hlt)
   ·by_cases z':b=c'
    ·rw[z'];exact hge
    ·rw[Ab z,Ab z'] at hn';exact Gb hn hn'
  ·by_cases z:b=h'.objs.size
   ·subst z;rw[Hd] at e;cases e
    exact⟨Heap.get?_push_size _ rfl,_,Heap.get?_push_size _ rfl⟩
   ·rw[Ab z] at e
    by_cases z':b=c'
    ·subst z';rw[Hd] at e;cases e
     exact⟨push hoc,_,push hoc⟩
    ·rw[Ab z'] at e
     by_cases zP:b=P
     ·subst zP
      rw[hP] at e;cases e;refine⟨more++#[rawInt pos.line,rawInt pos.col,.ref c'], ?_, ?_,fun pos' cv q=>?_⟩
      ·rw[push htb,CO]
      ·rw[<- CO,J6]
       exact Zbu (by trivial) t1
      ·rw[<- CO,J6] at q
       rcases DR t1 q with q|q
       ·obtain⟨c1,o1,r1,r2,r3⟩:=cs pos' cv q
        exact⟨c1,o1,r1,sm _ _ _ r2,r3⟩
       ·have q:=ZcI q
        exact⟨c',oc,q,by rw[Ab hcf];exact Hd,vs,t,hd,hv⟩
     ·refine(I.hok b u e).stay (fun b' v hc q=>push (hx b' v (fun zz=>?_) q)) (fun b' q=>sm _ _ _ q) fun b' xs q=>sm _ _ _ q
      rcases hc with rfl|hc
      ·exact zP zz
      ·rw[zz,hP] at hc;cases hc
abbrev PJ(X:Cx)(scope:Scope)(f c' L:Ja):Env:=PySem.W.envX QL scope L f (.ref c') (Jh scope X.env)
noncomputable def F9(X:Cx)(A:Qe)(scope:Scope)(N:List Str)(f c':Ja)(s₂:Ha)(H₂:Hp):Cx where
 prog:=X.prog
 w:=X.w
 K:=X.K
 mg:=X.mg
 base:=X.base
 A:=A.deeper (PJ X scope f c' s₂.heap.objs.size)
 N:=N
 s₀:=s₂
 H₀:=H₂
 env:=PJ X scope f c' s₂.heap.objs.size
 outer:=X.stack
 stack:=PJ X scope f c' s₂.heap.objs.size::X.stack
 ex:=[]
 fn:=fun _=>false
 calm:=true
 pn:=[]
 xe:=fun _ _=>False
structure Bu(X:Cx)(scope:Scope)(x:Str)(FN:List Str)(js:List Nat):Prop where
 kind:scope.kind=.function
 co:scope.isCoroutine=false
 gen:scope.isGenerator=false
 cell:∀p∈scope.names,p.2≠.cell
 loc:scope.names.lookup x=some .local
 fr:∀p∈scope.names,p.2=.free->X.env.scope.names.lookup p.1=some .cell\/X.env.scope.names.lookup p.1=some .free
 fn:∀y∈FN,scope.names.lookup y=some .free
 at_:js.map (fun j=>X.N[j]?)=FN.map some
def Ip(js:List Nat)(σ:St):St:=js.map fun j=>(σ[j]?).join
theorem U3{x:Str}{FN:List Str}{js:List Nat}(sc:Bu X scope x FN js)(ok:X.Ok){y:Str}{c:Ja}(h:(Jh scope X.env).lookup y=some c):X.env.cells.lookup y=some c:=by
 have hm:=PySem.mem_of_lookup h;unfold Jh at hm;obtain⟨p,hp,e⟩:=Ze.mp hm;have hp':=Wl.mp (YO.mp hp);obtain⟨e1,e2⟩:=Prod.mk.inj e;have hk:=sc.fr p hp'.1 (beq_iff_eq.mp hp'.2);obtain⟨c',hc'⟩:=ok.has p.1 hk;rw[hc'] at e2;rw[<- e1,hc'];exact Wf some e2
theorem Zil{A:Qe}{x:Str}{FN:List Str}{js:List Nat}{f c':Ja}{h₁:Heap}{tk:Nat}{v:V}{u:Va}(I:Da X Za σ H s)(sc:Bu X scope x FN js)(hd:A.handled=none)(hA:A.frames=some X.stack)(r:Nb v u)(hns:h₁.Ns s.heap.objs.size (fun y=>[(x,u)].reverse.lookup y))(hk:∀b o,s.heap.get? b=some o->h₁.get? b=some o) :
  Da (F9 X A scope (x::FN) f c' s H) [] (some v::Ip js σ) H { s with heap:=h₁,toks:=tk }:=by
 have noA:∀b:Ja,b ∉ (F9 X A scope (x::FN) f c' s H).ex:=fun b z=>Gb (show b∈([]:LI2) from z) (by simp);refine⟨⟨I.ok.mod,sc.kind,rfl,rfl,Cb _,fun y z c h1 h2=>?_,fun y hy=>?_,fun y c hf _=>?_,fun _=>hd,Around.frames_deeper hA,.inr ⟨rfl,rfl⟩,fun b z=>Gb z (noA b),I.bs,Oe I.ok.bsz I.sz,fun b _ _=>noA b,fun b z=>Gb z (noA b),I.stack,I.stkFree,fun f c P h1=>I.base.tbls _ _ _ (I.ok.tab f c P h1)⟩,
  rfl,I.bare,Un.kept hk,⟨_,hns,fun i y w h1 h2 h3=>?_⟩,fun y c h=>?_,I.hok.fresh (Cb _),fun y c h=>?_,fun p hp=>Gb (show p∈([]:List (Ja×Obj)) from hp) (by simp),I.hok.kept hk, ?_⟩
 ·exact I.ok.inj y z c (U3 sc I.ok h1) (U3 sc I.ok h2)
 ·have hy:scope.names.lookup y=some .cell\/scope.names.lookup y=some .free:=hy
  rcases hy with hy|hy
  ·exact Gb rfl (sc.cell _ (PySem.mem_of_lookup hy))
  ·exact S7 (X:=X) hy
 ·have hf:false=true:=hf
  cases hf
 ·cases i with
  |zero =>
   have h1:x=y:=Option.some.inj h1;subst h1;have h2:v=w:=Option.some.inj (Option.some.inj h2);subst h2;exact⟨u,r,.inl ⟨sc.loc,by simp⟩⟩
  |succ i =>
   have h1:FN[i]?=some y:=h1;have h2:(Ip js σ)[i]?=some (some w):=h2;unfold Ip at h2;rw[Cd] at h2;have hj:(js.map fun j=>X.N[j]?)[i]?=some (some y):=by rw[sc.at_,Cd,h1];rfl
   rw[Cd] at hj;cases e:js[i]? with
   |none=>rw[e] at h2;cases h2
   |some j =>
    rw[e] at h2 hj;have hj:X.N[j]?=some y:=Option.some.inj hj;have h2:(σ[j]?).join=some w:=Option.some.inj h2;have h2:σ[j]?=some (some w):=by
     cases q:σ[j]? with
     |none=>rw[q] at h2;cases h2
     |some o=>rw[q] at h2;rw[show o=some w from h2]
    have hfree:=sc.fn y (Tc h1);have hvis:=sc.fr _ (PySem.mem_of_lookup hfree) rfl;obtain⟨m,hn,hl⟩:=I.loc;obtain⟨u',ru,hlook⟩:=hl j y w hj h2 (.inr hvis);obtain⟨c,hcl⟩:=S7 (X:=X) hfree;have hcx:=U3 sc I.ok hcl;refine⟨u',ru,.inr ⟨.inr hfree,c,hcl, ?_⟩⟩;rcases hlook with ⟨k,_⟩|⟨k,c2,ec,hcell⟩
    ·have k':X.env.scope.names.lookup y=some .local:=k
     have hv':X.env.scope.names.lookup y=some .cell\/X.env.scope.names.lookup y=some .free:=hvis;rw[k'] at hv';rcases hv' with z|z<;>cases z
    ·rw[hcx] at ec;cases ec
     obtain⟨o,ho,hdd⟩:=hcell;exact⟨o,hk _ _ ho,hdd⟩
 ·obtain⟨v,o,ho,hdd⟩:=I.cell y c (U3 sc I.ok h)
  exact⟨v,o,hk _ _ ho,hdd⟩
 ·exact I.freeC y c (U3 sc I.ok h)
 ·have:=Wf List.length sc.at_
  rw[Lb,Lb] at this;show (some v::Ip js σ).length=(x::FN).length;unfold Ip;simp[this]
theorem Zii{A:Qe}{x:Str}{FN:List Str}{js:List Nat}{f c':Ja}{oc:Obj}{pm ctv:Va}{v:V}{u:Va}{te:TE}{Q:VK}(I:Da X Za σ H s)(sc:Bu X scope x FN js)(hd:A.handled=none)(hroom:A.depth<recursionLimit)(hA:A.frames=some X.stack)(hCo:KF QL oc)(hc:H c'=some (.frz oc (.own c')))(hf:H f=some (.frz (G9 params body scope (Jh scope X.env) pm c' ctv) (.own f)))(hb:∀u,bindArgs (PySem.W.kla_fn "<lambda>" QL params body scope (Jh scope X.env) pm (.ref c') ctv) ⟨[u],[]⟩=pure [(x,u)])(hbody:PE (F9 X A scope (x::FN) f c' s H) body te)(r:Nb v u)(hq:te (some v::Ip js σ) H Q) :
  Sa (La X.prog X.w) A (call (.ref f) [u]) (EP X Za σ fun v H'=>Q v H'/\∀b o u,H b=some (.frz o u)->H' b=some (.frz o u)) (fun _ _=>False) s:=by
 have ho:=(I.hok f _ hf).1;have hcd:s.heap.CodeRec (.ref c') QL:=let ⟨vs,t,h1,h2⟩:=hCo;⟨c',oc,vs,t,rfl,(I.hok c' _ hc).1,h1,h2⟩;refine wpAny_call (PySem.W.kla_callFunE hroom ho rfl sc.co sc.gen rfl hcd ?_);rw[hb];refine Mb (wpAny_newFunctionEnv sc.cell (fun y hy=>?_) (fun h₁ hns hsb=>?_) sc.kind)
 ·have:y=(x,u):=by simpa using hy
  rw[this];exact sc.loc
 have hk:∀b o,s.heap.get? b=some o->h₁.get? b=some o:=fun b o e=>hsb.extBut b o (Vf (Heap.lt_size e)) (Heap.get?_push_of_some _ e);refine⟨I.nolimit.keeps hk, ?_⟩;have I1:=Zil (tk:=s.toks+[(x,u)].length) (f:=f) (c':=c') I sc hd hA r hns hk;refine PySem.W.kla_codeExpr (Cf (hbody [] _ _ H Q I1 hq) (fun u' s' h'=>?_) fun _ _ z=>z.elim);obtain⟨v',H',J,r',q'⟩:=h';exact I.after ⟨v',H',J.os,J.bare,J.base,J.hok,r',q',J.base.frzs⟩
end
def Gq(kz:LI1):LI1:=kz.zipIdx.map fun p=>p.1++[((p.2:Nat):Int)]
def Qh(kz:LI1):List Nat:=(Bi (Gq kz)).map fun l=>(l.getLastD 0).toNat
theorem V9:∀{l:LI2}{i:Nat}{a:Ja},l.Nodup->l[i]?=some a->l.idxOf a=i
 |[],i,a,_,h=>by simp at h
 |b::l,0,a,_,h=>by
  have h:b=a:=by simpa using h
  subst h;simp
 |b::l,i+1,a,nd,h=>by
  have h:l[i]?=some a:=by simpa using h
  obtain⟨n1,n2⟩:=Lr.mp nd;have hb:b≠a:=fun z=>n1 (by rw[z];exact Tc h);rw[List.idxOf_cons,show (b==a)=false from beq_false_of_ne hb];simp only[cond_false];rw[V9 n2 h]
theorem Zi3{a b c d:Int}{i j:Nat}:HT.Jc ([a,b]++[(i:Int)]) ([c,d]++[(j:Int)])=(HT.Jc [a,b] [c,d] || (!(HT.Jc [c,d] [a,b])&&decide (i<j))):=by
 have e:∀(x y z u v w:Int),HT.Jc [x,y,z] [u,v,w]=decide (x<u\/(x=u/\(y<v\/(y=v/\z<w)))):=fun x y z u v w=>by
  unfold HT.Jc HT.Jc HT.Jc HT.Jc;by_cases h1:x=u<;>by_cases h2:y=v<;>by_cases h3:z=w<;>simp[h1,h2,h3]<;>lia
 have e2:∀(x y u v:Int),HT.Jc [x,y] [u,v]=decide (x<u\/(x=u/\y<v)):=fun x y u v=>by
  unfold HT.Jc HT.Jc HT.Jc;by_cases h1:x=u<;>by_cases h2:y=v<;>simp[h1,h2]<;>lia
 rw[show ([a,b]++[(i:Int)])=[a,b,(i:Int)] from rfl,show ([c,d]++[(j:Int)])=[c,d,(j:Int)] from rfl,e,e2,e2];rw[Bool.eq_iff_iff];simp only[Bool.or_eq_true,Bool.and_eq_true,Bool.not_eq_true',decide_eq_true_eq,decide_eq_false_iff_not];lia
def MD(te:TE)(ws:St):List V->Hp->(List V->Hp->Prop)->Prop
 |[],H,Q=>Q [] H
 |x::xs,H,Q=>te (some x::ws) H fun k H1=>MD te ws xs H1 fun ks H2=>Q (k::ks) H2
def Zbh(K:ZmM)(te:TE)(js:List Nat)(ta:TA):TE:=fun σ H Q=>ta σ H fun xs H1=>∃p,∃as:LI2,xs=[.ref p]/\Uc K H1 p (as.map V.ref)/\as.Nodup/\as.length<=1000000 /\
 ∀H2,Ia H1 H2->MD te (Ip js σ) (as.map V.ref) H2 fun ks H3=>∃ys:List Xd,ks=(ys.map fun t=>V.ref t.1)/\(∀t∈ys,Re K H3 t.1 (t.2.map V.int)/\t.2.length=2)/\ys.length=as.length /\
  ∀l,H3 l=none->Q (.ref l) (upd H3 l (.lst ((Qh (ys.map (·.2))).map fun i=>V.ref (as.getD i 0))))
theorem Zb0:∀{as:LI2}{us:LI3},Ub (as.map V.ref) us->us=as.map Value.ref
 |[],_,.nil=>rfl
 |a::as,_,.cons r rr=>by
  have r:_=Value.ref a:=r;rw[r,Zb0 rr];rfl
theorem Zaj:∀(as:LI2),Ub (as.map V.ref) (as.map Value.ref)
 |[]=>.nil
 |a::as=>.cons rfl (Zaj as)
noncomputable def ZX(N:List Str)(sc scope:Scope)(x:Str)(FN:List Str)(js:List Nat):Bool:=(scope.kind==.function)&&!scope.isCoroutine&&!scope.isGenerator&&(scope.names.all fun p=>!(p.2==.cell))&&(scope.names.lookup x==some .local)
 && (scope.names.all fun p=>!(p.2==.free) || sc.names.lookup p.1==some .cell || sc.names.lookup p.1==some .free)&&(FN.all fun y=>scope.names.lookup y==some .free)&&decide (js.map (fun j=>N[j]?)=FN.map some)
theorem Bu.of{X:Cx}{N:List Str}{sc scope:Scope}{x:Str}{FN:List Str}{js:List Nat}(h:ZX N sc scope x FN js=true)(hs:X.env.scope=sc:=by rfl)(hN:X.N=N:=by rfl):Bu X scope x FN js:=by
 subst hs;subst hN;unfold ZX at h;simp only[Bool.and_eq_true,Hg,decide_eq_true_eq,Bool.not_eq_true',Bool.or_eq_true,beq_iff_eq,beq_eq_false_iff_ne] at h;obtain⟨⟨⟨⟨⟨⟨⟨h1,h2⟩,h3⟩,h4⟩,h5⟩,h6⟩,h7⟩,h8⟩:=h;refine⟨h1,h2,h3,fun p hp=>h4 p hp,h5,fun p hp e=>?_,h7,h8⟩;rcases h6 p hp with (z|z)|z
 ·exact Gb e z
 ·exact .inl z
 ·exact .inr z
theorem He.lam{j k:Nat}{A:Qe}{env:Env}(r:He k A)(h:j+3<=k):He j (A.in1.in1.deeper env):=((r.mono h).in1.in1).deeper env
section
variable {X:Cx}{params:Arguments}{body e:Expr}{scope:Scope}{np lpos kp pos:Pos}{f0 c P:Ja}{x:Str}{FN:List Str}{js:List Nat}{te:TE}{ta:TA}
theorem ZkA{K:ZmM}{k:Nat}(hg:Gl X "sorted")(hm:X.mg "sorted"=none)(hv:Fh "sorted"=some (.builtin "sorted"))(ha:PA X [e] ta)(hT:Mj K f0=some (c,P))(hcode:X.env.code=.ref c)(hqual:X.env.qual ++ "<lambda>"=QL)(sc:Bu X scope x FN js)(hr:He (k+2) X.A)(hbody:∀f c' s H,PE (F9 X X.A.in1.in1 scope (x::FN) f c' s H) body te)(hb:∀cl pm c' ctv u,bindArgs (PySem.W.kla_fn "<lambda>" QL params body scope cl pm (.ref c') ctv) ⟨[u],[]⟩=pure [(x,u)]:=by intros;rfl)(hcl:F0 scope X.env=pure (Jh scope X.env):=by rfl)(hdef:defaultsOf params X.env=([],[]):=by rfl)(he:Ti pos (Ed [e] X.env)=(false,eval e X.env)::Ti pos (Ed [] X.env):=by rfl)(hpl:(Ti pos (Ed [e] X.env)).any (·.1)=false:=by rfl)(eK:X.K=K:=by rfl) :
  PE X (.Call (.Name "sorted" np) [e] [⟨some "key",.Lambda params body scope lpos,kp⟩] pos) (Zbh K te js ta):=by
 subst eK;intro Za s σ H Q I h;refine Z1 (Yu I hg hm hv ?_ (by decide) (by decide));refine callWith_kw (Db (ha pos Za s σ H _ I h) fun us s1 ⟨vs,H1,I1,r1,q1⟩=>?_) he hpl;obtain⟨p,as,rfl,hS,nd,hz,q⟩:=q1;obtain⟨u,rfl,rx⟩:=Np r1;cases rx;refine kws_cons (Zij I1 hT hcode hqual hcl hdef fun f c' oc pm ctv H2 s2 sm I2 hCo hc hf=>kws_nil ?_);show Sa _ _ (call (.builtin "sorted") [.ref p] [("key",.ref f)]) _ _ s2;have q2:=q H2 sm;obtain⟨its,r',pl,hz'⟩:=I2.list (show Uc X.K H2 p (as.map V.ref) from hS.imp (fun z=>z.same sm) id);have hits:=Zb0 r';subst hits;refine Zl1 pl.isList (by simpa using hz) fun D kS e1 h3 kk hD hDk oD okS=>?_;have I3:Da X Za σ H2 { s2 with heap:=h3 }:=I2.kept (t':=s2.toks) kk;have fpD:Zn X Za H2 D:=I2.fpOk hD (I2.hok.fresh hD);have hK:s2.heap.objs.size<=kS:=Oe hD (Tt hDk);have fpK:Zn X Za H2 kS:=I2.fpOk hK (I2.hok.fresh hK);have hne:kS≠D:=Z0 hDk;have pinned:∀{H4:Hp}{s4:Ha}{o1 o2:Obj},Da X Za σ H4 s4->H4 D=none->H4 kS=none->s4.heap.get? D=some o1->s4.heap.get? kS=some o2->(∀v,o1.data≠.cell v)->(∀v,o2.data≠.cell v)->Da X (Za++[(D,o1),(kS,o2)]) σ H4 s4:=fun {H4 s4 o1 o2} J n1 n2 g1 g2 d1 d2=>by
  refine J.pins_of fun pp hp=>?_;rcases Ud.mp hp with hp|hp
  ·exact J.pin pp (Fe _ hp)
  ·rcases Lc.mp hp with rfl|hp
   ·exact⟨g1,n1,fpD.2.1,fpD.2.2.1,d1⟩
   ·rw[Gi.mp hp]
    exact⟨g2,n2,fpK.2.1,fpK.2.2.1,d2⟩
 have unpin:∀{H4:Hp}{s4:Ha}{o1 o2:Obj},Da X (Za++[(D,o1),(kS,o2)]) σ H4 s4->Da X Za σ H4 s4/\(s4.heap.get? D=some o1/\H4 D=none)/\s4.heap.get? kS=some o2/\H4 kS=none:=fun {H4 s4 o1 o2} J=>by
  have p1:=J.pin (D,o1) (by simp);have p2:=J.pin (kS,o2) (by simp);exact⟨J.pins_of fun pp hp=>J.pin pp (Fe _ (Bf _ hp)),⟨p1.1,p1.2.1⟩,p2.1,p2.2.1⟩
 refine ZhZ (J:=fun kz s4=>∃H4 vks n,Da X (Za++[(D,Sd "list" #[] e1),(kS,Sd "list" kz.toArray n)]) σ H4 s4/\(∀b o u,H2 b=some (.frz o u)->H4 b=some (.frz o u))/\Ub vks kz /\
  MD te (Ip js σ) ((as.map V.ref).drop kz.length) H4 (fun ks H3=>∃ys:List Xd,vks++ks=(ys.map fun t=>V.ref t.1)/\(∀t∈ys,Re X.K H3 t.1 (t.2.map V.int)/\t.2.length=2)/\ys.length=as.length /\
   ∀l,H3 l=none->Q (.ref l) (upd H3 l (.lst ((Qh (ys.map (·.2))).map fun i=>V.ref (as.getD i 0)))))) ?_ (by simpa using hz) ?_ ?_
 ·exact⟨H2,[],0,pinned I3 fpD.1 fpK.1 oD okS (fun v z=>nomatch z) (fun v z=>nomatch z),fun _ _ _ z=>z,.nil,q2⟩
 ·rintro kz xv s4 hx ⟨H4,vks,n,I4,fz,rk,hq⟩
  obtain⟨a,ha',rfl⟩:∃a,as[kz.length]?=some a/\Value.ref a=xv:=by
   rw[Cd] at hx;cases z:as[kz.length]? with
   |none=>rw[z] at hx;cases hx
   |some a=>rw[z] at hx;exact⟨a,rfl,Option.some.inj hx⟩
  have hdrop:(as.map V.ref).drop kz.length=V.ref a::(as.map V.ref).drop (kz.length+1):=by
   have hlt:kz.length<(as.map V.ref).length:=by rw[Lb];exact(Pd.mp ha').1
   rw[Hr hlt];congr 1;rw[List.getElem_map];rw[Pd] at ha';obtain⟨_,e⟩:=ha';rw[e]
  rw[hdrop] at hq;have hr2:He k X.A.in1.in1:=hr.in1.in1;refine Cf (Zii I4 sc hr2.hd hr2.depth I4.ok.frames hCo (fz _ _ _ hc) (fz _ _ _ hf) (hb _ _ _ _) (hbody f c' s4 H4) (v:=V.ref a) rfl hq) (fun kv s5 h5=>?_) fun _ _ z=>z;obtain⟨v5,H5,I5,r5,q5,fz5⟩:=h5;obtain⟨I5',⟨gD,nD⟩,gK,nK⟩:=unpin I5;refine⟨n,gK,fun h' cc sb g'=>⟨H5,vks++[v5],cc, ?_,fun b o u z=>fz5 _ _ _ (fz b o u z),rk.append (.cons r5 .nil), ?_⟩⟩
  ·have I6:Da X Za σ H5 { s5 with heap:=h' }:=I5'.turned (t':=s5.toks) (it:=kS) (fun b o nb e=>(sb.2 b nb).trans e) nK fpK.2.1 fpK.2.2.2.1 fpK.2.2.2.2.1 fpK.2.2.2.2.2
   exact pinned I6 nD nK ((sb.2 D (Ne.symm hne)).trans gD) g' (fun v z=>nomatch z) (fun v z=>nomatch z)
  ·rw[show (kz++[kv]).length=kz.length+1 by simp]
   simpa[Hf] using q5
 ·rintro kz s4 hkl ⟨H4,vks,n,I4,fz,rk,hq⟩
  obtain⟨I4',⟨gD,nD⟩,gK,nK⟩:=unpin I4;refine⟨n,gK, ?_⟩;rw[IE (by rw[Lb] at hkl ⊢;lia)] at hq;obtain⟨ys,ey,hy,hyl,hQ⟩:=hq;rw[Dt] at ey;subst ey;have hkz:=ZO rk;subst hkz;have tup:∀t∈ys,∃vs:LI3,Ub (t.2.map V.int) vs/\IsTup s4.heap t.1 vs.toArray:=fun t ht=>by
   obtain⟨vs,rv,pt,_⟩:=I4'.tuple (hy t ht).1;exact⟨vs,rv,pt⟩
  have hu:∀t∈ys,∀t'∈ys,t.1=t'.1->t.2=t'.2:=fun t ht t' Ad e=>by
   obtain⟨vs,rv,ob,eo,oc,k1,od⟩:=tup t ht;obtain⟨vs',rv',ob',eo',oc',k1',od'⟩:=tup t' Ad;rw[e,eo'] at eo;cases eo;rw[od] at od';have e2:vs.toArray=vs'.toArray:=by injection od'
   have e3:vs=vs':=by simpa using e2
   subst e3;rw[<- (T5 rv).1,<- (T5 rv').1]
  refine ZhW (tuples' true) (fun x y=>HT.Jc (Nf ys (Bc x)) (Nf ys (Bc y))) (fun v=>as.idxOf (Bc v)) gD gK hne (by simpa using hz) (by simp[hyl]) (fun h2 Q' q'=>?_) (fun x y hx hy' C q'=>?_) (fun x y _ _ h=>K9 h) (fun x y z _ _ _ h1 h2=>M9 h1 h2) (fun i x hx=>?_) fun h' cc ps k4 p1 p2 g'=>?_
  ·have:∀(ts:List Xd) (its:LI3),(∀t∈ts,t.2≠[]/\∃vs:LI3,Ub (t.2.map V.int) vs/\IsTup s4.heap t.1 vs.toArray)->Ub (ts.map fun t=>V.ref t.1) its->∃fs:LI3,fs.length=ts.length/\PySem.W.KatTups s4.heap its fs/\∀v∈fs,∃n t,v=Value.int n t:=by
    intro ts
    induction ts with
    |nil =>
     intro its _ rv;cases rv;exact⟨[],rfl,trivial,by simp⟩
    |cons t ts ih =>
     intro its ht rv;cases rv with
     |cons rv tv =>
      obtain⟨fs,e1,e2,e3⟩:=ih _ (fun t' h'=>ht t' (Fi _ h')) tv;obtain⟨hne,vs,rvs,ob,eo,oc,k,od⟩:=ht t (Tl ..);obtain⟨n,ns,en⟩:=KE hne;rw[en] at rvs;cases rvs with
      |cons rn tn =>
       obtain⟨tk,rfl⟩:=rn;have rv':_=Value.ref t.1:=rv;subst rv';exact⟨.int n tk::fs,by simp[e1],⟨⟨t.1,ob,_,k,rfl,eo,oc,od,rfl⟩,e2⟩,fun v hv=>(Lc.mp hv).elim (fun z=>⟨n,tk,z⟩) (e3 v)⟩
   obtain⟨fs,e1,e2,e3⟩:=this ys _ (fun t ht=>⟨(fun z=>by have h2:=(hy t ht).2;rw[z] at h2;cases h2),tup t ht⟩) (R4 ys);exact PySem.W.kat_kind (T:=.type "int") e2 (by rw[e1,hyl];rw[Lb] at h2;lia) (fun v hv=>by obtain⟨n,t,rfl⟩:=e3 v hv;exact PySem.W.Looks.of_pure rfl) rfl q'
  ·obtain⟨t,ht,rfl⟩:=Ze.mp hx
   obtain⟨t',Ad,rfl⟩:=Ze.mp hy';obtain⟨vs,rv,ob,eo,oc,k1,od⟩:=tup t ht;obtain⟨vs',rv',ob',eo',oc',k1',od'⟩:=tup t' Ad;refine PySem.W.kat_lt eo od eo' od' (N9 rv rv' ?_ ?_)
   ·simp
   ·rw[show Bc (.ref t.1)=t.1 from rfl,show Bc (.ref t'.1)=t'.1 from rfl,En hu ht,En hu Ad] at q'
    exact q'
  ·rw[Cd] at hx
   cases z:as[i]? with
   |none=>rw[z] at hx;cases hx
   |some a =>
    rw[z] at hx;have hx:Value.ref a=x:=Option.some.inj hx;subst hx;exact V9 nd z
  ·have mem:∀y∈ps,∃t∈ys,∃i a,as[i]?=some a/\y=(Value.ref t.1,Value.ref a):=fun y hy'=>by
    have hm:=p1.mem_iff.mp hy';obtain⟨i,hi⟩:=Wj hm;rw[Wv,Cd,Cd] at hi;obtain⟨h1,h2⟩:=hi;cases z1:ys[i]? with
    |none=>rw[z1] at h1;cases h1
    |some t =>
     cases z2:as[i]? with
     |none=>rw[z2] at h2;cases h2
     |some a =>
      rw[z1] at h1;rw[z2] at h2;exact⟨t,Tc z1,i,a,z2,Prod.ext (Option.some.inj h1).symm (Option.some.inj h2).symm⟩
   generalize hcmp:(fun y:Ua=>Nf ys (Bc y.1)++[((as.idxOf (Bc y.2):Nat):Int)])=cmp;have up:So (ps.map cmp):=by
    refine Rp.mpr (p2.imp_of_mem fun {y z} hy' hz' h=>?_);obtain⟨t,ht,i,a,hi,rfl⟩:=mem y hy';obtain⟨t',Ad,i',a',hi',rfl⟩:=mem z hz';subst hcmp;unfold Dm at h;dsimp only at h ⊢;rw[show Bc (.ref t.1)=t.1 from rfl,show Bc (.ref t'.1)=t'.1 from rfl,En hu ht,En hu Ad] at h ⊢;obtain⟨p0,p1,ep⟩:∃p0 p1,t.2=[p0,p1]:=by
     have:=(hy t ht).2
     match t.2,this with
     |[p0,p1],_=>exact⟨p0,p1,rfl⟩
    obtain⟨p0',p1',ep'⟩:∃p0 p1,t'.2=[p0,p1]:=by
     have:=(hy t' Ad).2
     match t'.2,this with
     |[p0,p1],_=>exact⟨p0,p1,rfl⟩
    rw[ep,ep'] at h ⊢;rw[Zi3];exact h
   have hz0:(((ys.map fun t=>Value.ref t.1).zip (as.map Value.ref)).map cmp)=Gq (ys.map (·.2)):=by
    subst hcmp;unfold Gq;apply Qo;intro i;rw[Cd,Cd,List.getElem?_zipIdx,Cd];cases z1:ys[i]? with
    |none =>
     have hl1:=Kt.mp z1;rw[Ch (by rw[Yv,Lb,Lb];lia)];rfl
    |some t =>
     have hi:i<as.length:=by rw[<- hyl];exact(Pd.mp z1).1
     have z2:as[i]?=some as[i]:=Rc hi;rw[show ((ys.map fun t=>Value.ref t.1).zip (as.map Value.ref))[i]?=some (Value.ref t.1,Value.ref as[i]) from by
      rw[Wv,Cd,Cd,z1,z2];exact⟨rfl,rfl⟩]
     simp only[D6,Option.some.injEq];rw[show Bc (.ref t.1)=t.1 from rfl,En hu (Tc z1),show Bc (.ref as[i])=as[i] from rfl,V9 nd z2,Tp]
   have hs:ps.map cmp=Bi (Gq (ys.map (·.2))):=by
    refine S5 up (Ov _) (((p1.map cmp).trans ?_).trans (Ql _).symm);rw[hz0]
   have hres:((Qh (ys.map (·.2))).map fun i=>V.ref (as.getD i 0))=ps.map fun y=>V.ref (Bc y.2):=by
    unfold Qh;rw[<- hs,Me,Me];refine Om fun y hy'=>?_;obtain⟨t,ht,i,a,hi,rfl⟩:=mem y hy';subst hcmp;show V.ref (as.getD ((Nf ys t.1++[((as.idxOf a:Nat):Int)]).getLastD 0).toNat 0)=V.ref a;rw[RE,El,V9 nd hi,Bb,hi];rfl
   have hv:Ub ((Qh (ys.map (·.2))).map fun i=>V.ref (as.getD i 0)) (ps.map (·.2)):=by
    rw[hres];have:=Zaj (ps.map fun y=>Bc y.2);rw[Me,Me] at this;have e2:ps.map (Value.ref∘fun y=>Bc y.2)=ps.map (·.2):=Om fun y hy'=>by
     obtain⟨t,ht,i,a,hi,rfl⟩:=mem y hy';rfl
    rw[e2] at this;exact this
   have I7:Da X Za σ H4 { s4 with heap:=h' }:=I4'.turned2 (t':=s4.toks) (it:=kS) (e:=D) (fun b o n1 n2 q=>k4 b o n1 n2 q) fun b hb'=>by
    rcases hb' with rfl|rfl
    ·exact⟨nD,fpD.2.1,fpD.2.2.2.1,fpD.2.2.2.2.1,fpD.2.2.2.2.2⟩
    ·exact⟨nK,fpK.2.1,fpK.2.2.2.1,fpK.2.2.2.2.1,fpK.2.2.2.2.2⟩
   have hsD:X.s₀.heap.objs.size<=D:=Oe I2.sz hD;have I8:=I7.adopt (D:=D) (ys:=(Qh (ys.map (·.2))).map fun i=>V.ref (as.getD i 0)) (its:=ps.map (·.2)) (n:=cc) nD hsD fpD.2.1 fpD.2.2.2.2.1 fpD.2.2.2.2.2 g' hv (by
    rw[hv.length,Lb,p1.length_eq,Yv,Lb,Lb];exact Oe (Nat.min_le_right _ _) (Ek hz))
   exact⟨rfl,.ref D,_,I8,rfl,hQ D nD⟩
end
noncomputable def Cp(m:LI5->Rr PV)(pa pb:PV)(t:LI0):LI0:=match m [Qb t,pa,pb] with
 |.ok (.tup [.int a,.int b])=>[a,b]
 |_=>[]
def AG(m:LI5->Rr PV)(pa pb:PV)(ts:LI1):Prop:=ts.Nodup/\ts.length<=1000000/\∀t∈ts,∃a b,m [Qb t,pa,pb]=.ok (.tup [.int a,.int b])
open Classical in
def RA(m:LI5->Rr PV)(pa pb:PV)(xs:LI5):Rr PV:=if h:∃ts:LI1,xs=[.lst (ts.map Qb)]/\AG m pa pb ts then newF ((Qh (h.choose.map (Cp m pa pb))).map fun i=>Qb (h.choose.getD i [])) else .bad
theorem Zko{m:LI5->Rr PV}{pa pb:PV}{ts:LI1}(h:AG m pa pb ts):RA m pa pb [.lst (ts.map Qb)]=newF ((Qh (ts.map (Cp m pa pb))).map fun i=>Qb (ts.getD i [])):=by
 have hex:∃us:LI1,[PV.lst (ts.map Qb)]=[.lst (us.map Qb)]/\AG m pa pb us:=⟨ts,rfl,h⟩
 unfold RA;rw[Rm hex];have hs:ts.map Qb=hex.choose.map Qb:=PV.lst.inj (List.cons.inj hex.choose_spec.1).1;have e:hex.choose=ts:=(R5 hs).symm;rw[e]
theorem OH{kz:LI1}{l:LI0}(h:l∈Gq kz):∃i k,kz[i]?=some k/\l=k++[((i:Nat):Int)]:=by
 unfold Gq at h;obtain⟨⟨k,i⟩,hp,rfl⟩:=Ze.mp h;have:=List.mem_zipIdx_iff_getElem?.mp hp;exact⟨i,k,this,rfl⟩
theorem DN{kz:LI1}{i:Nat}(h:i∈Qh kz):i<kz.length:=by
 unfold Qh at h;obtain⟨l,hl,rfl⟩:=Ze.mp h;obtain⟨j,k,hj,rfl⟩:=OH ((Ql _).mem_iff.mp hl);rw[RE,El];exact(Pd.mp hj).1
theorem XX:∀{qs:List Xd},(qs.map fun t=>t.2).Nodup->(∀t∈qs,∀t'∈qs,t.1=t'.1->t.2=t'.2)->(qs.map (·.1)).Nodup
 |[],_,_=>List.nodup_nil
 |t::qs,nd,hi=>by
  rw[Dd] at nd ⊢;obtain⟨n1,n2⟩:=Lr.mp nd;refine Lr.mpr ⟨fun z=>?_,XX n2 fun a ha b hb=>hi a (Fi _ ha) b (Fi _ hb)⟩;obtain⟨t',Ad,e⟩:=Ze.mp z;exact n1 (Ze.mpr ⟨t',Ad,hi t' (Fi _ Ad) t (Tl ..) e⟩)
section
variable {K:ZmM}{EX:PX->Hp->Prop}{Γ Γ':List Md}{ta:TA}{fa:LI5->Rr LI5}{m:LI5->Rr PV}
abbrev PN(K:ZmM)(m:LI5->Rr PV):TE:=Nm (Wb K 3 .P W0 m) (Di (Wg 0) (Di (Wg 1) (Di (Wg 2) Rj)))
theorem WW{pa pb:PV}{wa wb:V}:∀(qs:List Xd) (H2:Hp) (QQ:List V->Hp->Prop),Ya K H2 (fun _=>True) pa wa->Ya K H2 (fun _=>True) pb wb->(∀t∈qs,Ya K H2 (fun _=>True) (Qb t.2) (V.ref t.1)) ->
  (∀t∈qs,∃a b,m [Qb t.2,pa,pb]=.ok (.tup [.int a,.int b])) ->
  (∀H3 (ys:List Xd),Ia H2 H3->ys.map (·.2)=qs.map (fun t=>Cp m pa pb t.2)->(∀t∈ys,Re K H3 t.1 (t.2.map V.int)/\t.2.length=2)->QQ (ys.map fun t=>V.ref t.1) H3) ->
  MD (PN K m) [some wa,some wb] (qs.map fun t=>V.ref t.1) H2 QQ
 |[],H2,QQ,_,_,_,_,h=>h H2 [] (Ia.refl _) rfl (by simp)
 |t::qs,H2,QQ,ra,rb,rq,hm,h=>by
  obtain⟨a,b,e⟩:=hm t (by simp);show PN K m (some (V.ref t.1)::[some wa,some wb]) H2 _;refine⟨_,rfl,_,rfl,_,rfl,fun _=>True,[Qb t.2,pa,pb],⟨_,_,rfl,rq t (by simp),_,_,rfl,ra,_,_,rfl,rb,rfl⟩,rfl, ?_⟩;rw[e];intro v H1 s1 r1;obtain⟨_,p,ws,rfl,hi,hr⟩:=r1;obtain⟨v1,r',rfl,h1,h2⟩:=hr;obtain⟨v2,r'',rfl,h3,h4⟩:=h2;cases h1;cases h3;cases h4;refine WW qs H1 _ (ra.same s1) (rb.same s1) (fun t' Ad=>(rq t' (by simp[Ad])).same s1) (fun t' Ad=>hm t' (by simp[Ad])) fun H3 ys s3 ey hy=>?_;have hk:Cp m pa pb t.2=[a,b]:=by unfold Cp;rw[e]
  refine h H3 ((p,[a,b])::ys) (s1.trans s3) (by rw[Dd,Dd,ey,hk]) fun t' Ad=>?_;rcases Lc.mp Ad with rfl|Ad
  ·exact⟨(s3.im hi).sqT,rfl⟩
  ·exact hy t' Ad
theorem Zf0{ja jb:Nat}{ma mb:Md}(ha:Ge K EX Γ Γ' ta fa)(h1:Γ'[ja]?=some ma)(hm1:ma≠.U)(h2:Γ'[jb]?=some mb)(hm2:mb≠.U) :
  DE K EX Γ Γ' .F (Zbh K (PN K m) [ja,jb] ta) (fun ρ=>(fa ρ).bind (RA m (gv ja ρ) (gv jb ρ))):=fun B H0 H σ ρ F R Q A d=>by
 refine ha B H0 H σ ρ F R _ A (d.bind.imp (fun xs _ d vs H1 F1 s1 f1 p1 A1=>?_) fun e q=>q);obtain⟨wa,ea,ra⟩:=A1.getA h1 hm1;obtain⟨wb,eb,rb⟩:=A1.getA h2 hm2;unfold RA at d
 split at d
 ·rename_i hex
  have hs:=hex.choose_spec;generalize hex.choose=ts at d hs;obtain⟨rfl,nd,hl,hk⟩:=hs;obtain⟨g1,g2,d⟩:=Dn.newF d;obtain⟨v,rfl,a,ws,rfl,hn,hr⟩:=Ik p1;obtain⟨qs,rfl,rfl,e3⟩:=IM hr;have hnd:(qs.map (·.1)).Nodup:=by
   have hinj:∀t∈qs,∀t'∈qs,t.1=t'.1->t.2=t'.2:=fun t ht t' Ad e=>by
    obtain⟨p,us,e1,i1,r1⟩:=(e3 t ht).2;obtain⟨p',us',e1',i1',r1'⟩:=(e3 t' Ad).2;cases e1;cases e1';rw[e] at i1;have h3:=i1.1.symm.trans i1'.1;have h4:us=us':=by injection h3 with h3;injection h3
    subst h4;have h5:=(T4 r1).symm.trans (T4 r1');exact Sz (fun x y h=>by injection h) |>.mp h5
   exact XX nd hinj
  refine⟨a,qs.map (·.1),rfl, ?_,hnd,by simpa using hl,fun H2 sm=>?_⟩
  ·rw[Me]
   exact Vg (S:=fun _=>True) hn
  have hsel:Ip [ja,jb] σ=[some wa,some wb]:=by
   unfold Ip;rw[Dd,Dd,Zw,ea,eb];rfl
  rw[hsel,Me];refine WW (pa:=gv ja ρ) (pb:=gv jb ρ) qs H2 _ (ra.same sm) (rb.same sm) (fun t ht=>(e3 t ht).2.same sm) (fun t ht=>hk _ (WE ht)) fun H3 ys s3 ey hy=>?_;have eyl:ys.length=qs.length:=by
   have:=Wf List.length ey;rwa [Lb,Lb] at this
  refine⟨ys,rfl,hy,by rw[Lb];exact eyl,fun l hz=>?_⟩;have A3:=A1.grow (sm.trans s3);have hst:Qh (ys.map (·.2))=Qh ((qs.map fun t=>t.2).map (Cp m (gv ja ρ) (gv jb ρ))):=by rw[ey,Me];rfl
  rw[hst];refine d _ _ ((s1.trans (sm.trans s3)).trans (Ia.new hz)) (Cc.newP (S:=fun _=>True) (s1.trans (sm.trans s3)) f1 ?_ g1 A3 hz);have hlt:∀i∈Qh ((qs.map fun t=>t.2).map (Cp m (gv ja ρ) (gv jb ρ))),i<qs.length:=fun i hi=>by
   have:=DN hi;simpa using this
  generalize Qh ((qs.map fun t=>t.2).map (Cp m (gv ja ρ) (gv jb ρ)))=is at hlt;clear d g1 g2
  induction is with
  |nil=>exact rfl
  |cons i is ih =>
   have hi:=hlt i (by simp);refine⟨_,_,rfl, ?_,ih fun j hj=>hlt j (by simp[hj])⟩;have:=((e3 qs[i] (Mt hi)).2.same (sm.trans s3))
   dsimp only;rw[Bb,Bb,Cd,Cd,Rc hi];exact this
 ·exact d.elim
end
def OP(K:ZmM)(f:Ja)(Ib:Va):Prop:=∃oc od fd osl,K.lookup f=some ⟨oc,od,.func fd,osl⟩/\fd.code=Ib/\fd.name = "ends_first"
noncomputable def Zif(K:ZmM)(ts:LI2):Bool:=K.all fun p=>match p.2 with
 |⟨_,_,.func fd,_⟩=>if fd.name = "ends_first" then (match Mj K p.1 with
  |some (_,P)=>ts.contains P&&(K.lookup P).isNone
  |none=>false) else true
 |_=>true
theorem Zig{K:ZmM}{ts:LI2}{h:Heap}(hc:Zif K ts=true)(ht:∀P∈ts,h.get? P=some (PySem.W.tabObj #[])):JG K h:=fun f c P e=>by
 have e0:=e;unfold Mj at e
 split at e
 ·rename_i oc od fd osl hk
  have hm:=Hg.mp hc _ (PySem.W.mem_of_lookupK hk);dsimp only at hm
  split at e
  ·rename_i hn
   rw[Ba hn,e0] at hm;simp only[Bool.and_eq_true,Et] at hm;exact⟨ht _ hm.1,Option.isNone_iff_eq_none.mp hm.2⟩
  ·cases e
 ·cases e
noncomputable def YW(K:ZmM):Bool:=K.all fun p=>match p.2 with
 |⟨_,_,.func fd,_⟩=>if fd.name = "ends_first" then (Mj K p.1).isSome else true
 |_=>true
theorem Zih{K:ZmM}{f:Ja}{Ib:Va}(hc:YW K=true)(hf:OP K f Ib):∃c P,Mj K f=some (c,P)/\Ib=.ref c:=by
 obtain⟨oc,od,fd,osl,hk,e1,e2⟩:=hf;have hm:=Hg.mp hc _ (PySem.W.mem_of_lookupK hk);dsimp only at hm;rw[Ba e2] at hm;cases e:Mj K f with
 |none=>rw[e] at hm;cases hm
 |some cp =>
  obtain⟨c,P⟩:=cp;refine⟨c,P,rfl, ?_⟩;unfold Mj at e;rw[hk] at e;dsimp only at e;rw[Ba e2,e1] at e;cases Ib with
  |ref c0 =>
   dsimp only at e
   split at e
   ·split at e
    ·split at e
     ·cases e;rfl
     ·cases e
    ·cases e
   ·cases e
  |_=>cases e
section
variable {P:Qc}{w:Xb}{K:ZmM}{mg:Str->Option Va}{base:Heap}
theorem Zc.okL{qual:Str}{st:Fb}{f:Ja}{fd:Dl}{N ps:List Str}{k n l:Nat}{kd:Kd}{m:LI5->Rr PV}(F:Zc K "ends_first" qual st f fd)(S:Gc N ps (Ob st))(hn:ps.length=n)(hl:N.length-n=l)(hbody:∀(Ib:Va) (A:Qe) (outer:List Env) (s:Ha) (H:Hp) (E:XK),OP K f Ib->He k (A.deeper (envOfC qual (Ob st) s.heap.objs.size f Ib)) ->
   ∃t g Y,Y.r=kd/\Yg (Ki Ic P w K mg base N qual (Ob st) f Ib A outer s H E).nox (Bm st) t/\DS K X0 (List.replicate n .S++List.replicate l .U) Y t g/\∀xs,Nw (m xs) (g (xs++List.replicate l .non)).out)(hkN:kd≠.N:=by nofun)(hkM:kd≠.M:=by nofun) :
  Yb P w K mg base Ic (k+1) f fd ps (Wb K n kd W0 m):=by
 obtain⟨oc,od,kV,doc,pm,an,Ib,ct,osl,rfl,lk,hcd⟩:=F.ex;refine XI lk hcd S (fun vs H Q E h=>?_) (fun A outer s H vs Q E hr h=>?_)
 ·obtain⟨B,xs,h1,h2,_⟩:=h
  rw[h1.length,h2,hn]
 ·obtain⟨B,xs,h1,h2,dn⟩:=h
  obtain⟨t,g,Y,hY,ht,hd,href⟩:=hbody Ib A outer s H E ⟨_,_,_,_,lk,rfl,rfl⟩ hr;refine⟨t,ht.nox, ?_⟩;have A0:=Ag.init (n:=l) h1;have est:Pj N vs=vs.map some++List.replicate l none:=by
   unfold Pj;rw[h1.length,h2,hl]
  rw[est];rw[h2] at A0;refine hd _ H H _ _ _ _ A0 ?_;have hdn:Dn (g (xs++List.replicate l .non)).out (fun x=>∀v H',Ia H H'->Jm K B H kd x v H'->Q v H') (fun e=>∀H',Ia H H'->W0 e E H'):=by
   rcases href xs with e|e
   ·rw[e] at dn;exact dn.elim
   ·rw[<- e];exact dn
  have retK:∀{x v H'},Jm K (fun a=>B a\/H a=none) H kd x v H'->Jm K B H kd x v H':=fun {x v H'} h=>by
   cases kd with
   |P=>exact h
   |F=>exact h
   |T=>exact Ya.mono (fun a us s r=>⟨r,s.elim id .inr⟩) (fun a us r=>r) h
   |Z=>exact Ya.mono (fun a us s r=>⟨r,s.elim id .inr⟩) (fun a us r=>r) h
   |A=>exact Ya.mono (fun a us s r=>⟨r,s.elim id .inr⟩) (fun a us r=>r) h
   |N=>exact h
   |M=>exact h
  cases e:g (xs++List.replicate l .non) with
  |next ρ =>
   rw[e] at hdn;refine fun σ' H' F' fr A'=>hdn .non H' A'.same ?_;cases kd with
   |P=>exact⟨rfl,rfl⟩
   |F=>exact⟨[],⟨rfl,rfl⟩,by simp⟩
   |T=>exact rfl
   |Z=>exact rfl
   |A=>exact rfl
   |N=>exact Gb rfl hkN
   |M=>exact Gb rfl hkM
  |ret x=>rw[e] at hdn;exact fun v H' s r=>hdn v H' s (retK (hY▸r))
  |exc q=>rw[e] at hdn;exact fun H' s=>hdn H' s
  |brk ρ=>rw[e] at hdn;exact hdn.elim
  |cont ρ=>rw[e] at hdn;exact hdn.elim
  |bad=>rw[e] at hdn;exact hdn.elim
end
theorem Zex(kz:LI1):(Qh kz).Perm (List.range kz.length):=by
 unfold Qh;refine((Ql (Gq kz)).map _).trans (List.Perm.of_eq ?_);unfold Gq;rw[Me];apply Qo;intro i;rw[Cd,List.getElem?_zipIdx];by_cases hi:i<kz.length
 ·rw[Rc hi,Ir hi]
  simp only[D6,Function.comp,Option.some.injEq];rw[RE];lia
 ·rw[Ch (by lia),Ch (by simpa using hi)]
  rfl
theorem AK{α:Type}(ts:List α)(d:α):(List.range ts.length).map (fun i=>ts.getD i d)=ts:=by
 apply Qo;intro i;rw[Cd];by_cases hi:i<ts.length
 ·rw[Ir hi,Rc hi,D6,Bb,Rc hi];rfl
 ·rw[Ch (by simpa using hi),Ch (by lia)];rfl
theorem ZlE{α:Type}{ts:List α}{d:α}{kz:LI1}(h:kz.length=ts.length):((Qh kz).map fun i=>ts.getD i d).Perm ts:=by
 refine((Zex kz).map _).trans (List.Perm.of_eq ?_);rw[h,AK]
theorem Zi4{k k':LI0}{a b:Int}(hl:k.length=k'.length)(h:HT.Jc (k++[a]) (k'++[b])=false):HT.Jc k k'=false:=by
 induction k generalizing k' with
 |nil =>
  cases k' with
  |nil=>rfl
  |cons y k'=>simp at hl
 |cons x k ih =>
  cases k' with
  |nil=>simp at hl
  |cons y k' =>
   have hl:k.length=k'.length:=by simpa using hl
   rw[Q6,Q6] at h;unfold HT.Jc at h ⊢;by_cases hx:x=y
   ·simp only[hx,if_true] at h ⊢
    first|exact ih hl h|simp_all
   ·simp only[hx,if_false] at h ⊢
    first|exact h|simp_all
theorem ZlF{kz:LI1}(h2:∀k∈kz,k.length=2):((Qh kz).map fun i=>kz.getD i []).Pairwise fun x y=>HT.Jc y x=false:=by
 have hu:=Ov (Gq kz);unfold Qh;rw[Me,Rp];refine hu.imp_of_mem fun {x y} hx hy h=>?_;obtain⟨i,k,hi,rfl⟩:=OH ((Ql _).mem_iff.mp hx);obtain⟨j,k',hj,rfl⟩:=OH ((Ql _).mem_iff.mp hy);simp only[Function.comp,RE,El];rw[Bb,Bb,hi,hj];show HT.Jc k' k=false;exact Zi4 (by rw[h2 _ (Tc hi),h2 _ (Tc hj)]) h
section
end
end L2
namespace My
open PySem PySem.Spec PyProof.Rows L2
noncomputable def Vh(n:Nat)(l:LI0)(p:Int):Nat:=((List.range (n+1)).find? fun(k:Nat)=>decide (1<=k/\(p+(k:Int))%n∈l)).getD 0
structure ZbR(n:Nat)(l:LI0)(p:Int)(d:Nat):Prop where
 d1:1<=d
 dn:d<n
 at_:(p+(d:Int))%n∈l
 min:∀k:Nat,1<=k->k<d->(p+(k:Int))%n ∉ l
theorem PU:∀{m:Nat}{f:Nat->Bool}{k:Nat},(List.range m).find? f=some k->f k=true/\k<m/\∀j,j<k->f j=false:=fun {m f k} h=>by
 have h1:=List.find?_some h;have h2:=Qg.mp (List.mem_of_find?_eq_some h);refine⟨h1,h2,fun j hj=>?_⟩;rw[List.find?_eq_some_iff_append] at h;obtain⟨_,as,bs,e,hn⟩:=h;have Ae:as.length=k:=by
  have e1:(List.range m)[as.length]?=some k:=by rw[e,Ei (Cb _)];simp
  rw[Ir (by
   have:=Wf List.length e;rw[A6,Nh,Dh] at this;lia)] at e1
  exact Option.some.inj e1
 have e2:as[j]?=some j:=by
  have:(List.range m)[j]?=some j:=Ir (by lia);rw[e,Pi (by lia)] at this;exact this
 have:=hn j (Tc e2);simpa using this
theorem P8{n:Nat}{l:LI0}{p:Int}(h0:0<=p)(h1:p<n)(hp:p ∉ l)(hl:∃q∈l,0<=q/\q<n):ZbR n l p (Vh n l p):=by
 unfold Vh;cases hf:(List.range (n+1)).find? fun(k:Nat)=>decide (1<=k/\(p+(k:Int))%n∈l) with
 |none =>
  exfalso;obtain⟨q,hq,q0,q1⟩:=hl;have hn:=ME.mp hf;have hne:q≠p:=fun z=>hp (by rw[<- z];exact hq);have m:=X9 (n:=n) q0 q1 h0 h1;have:=hn ((q-p)%n).toNat (Qg.mpr (by rw[m];split<;>lia));apply this;refine Hb ⟨by rw[m];split<;>lia, ?_⟩;have e:(p+(((q-p)%n).toNat:Int))%n=q:=by
   rw[m]
   split
   ·rw[show p+((q-p).toNat:Int)=q by lia];exact Sl q0 q1
   ·rw[show p+((q-p+n).toNat:Int)=q+n by lia,FE];exact Sl q0 q1
  rw[e];exact hq
 |some k =>
  obtain⟨a,b,c⟩:=PU hf;have a:=Wi a;rw[Vw];refine⟨a.1, ?_,a.2,fun j j1 j2 z=>?_⟩
  ·have:k≠n:=fun z=>by
    have a2:=a.2;rw[z,FE,Sl h0 h1] at a2;exact hp a2
   lia
  ·have:=c j j2
   rw[Hb ⟨j1,z⟩] at this;cases this
def Xe(n:Nat)(f:Nat->Int):Int:=((List.range n).map f).sum
theorem Mm(n:Nat)(f:Nat->Int):Xe (n+1) f=Xe n f+f n:=by
 unfold Xe;rw[Yz,Kr,List.sum_append];simp
theorem ED{n:Nat}{f g:Nat->Int}(h:∀i,i<n->f i<=g i):Xe n f<=Xe n g:=by
 induction n with
 |zero=>exact Nz _
 |succ n ih =>
  rw[Mm,Mm];have:=ih fun i hi=>h i (by lia);have:=h n (by lia);lia
theorem DD{n:Nat}{f g:Nat->Int}(h:∀i,i<n->f i=g i):Xe n f=Xe n g:=
 Int.le_antisymm (ED fun i hi=>Int.le_of_eq (h i hi)) (ED fun i hi=>Int.le_of_eq (h i hi).symm)
theorem ZlJ{n:Nat}{f g:Nat->Int}(h:∀i,i<n->f i<=g i){r:Nat}(hr:r<n)(hs:f r<g r):Xe n f<Xe n g:=by
 induction n with
 |zero=>lia
 |succ n ih =>
  rw[Mm,Mm];by_cases e:r=n
  ·subst e
   have:=ED (n:=r) fun i hi=>h i (by lia);lia
  ·have:=ih (fun i hi=>h i (by lia)) (by lia)
   have:=h n (by lia);lia
theorem D5(n:Nat)(f g:Nat->Int):Xe n (fun i=>f i+g i)=Xe n f+Xe n g:=by
 induction n with
 |zero=>rfl
 |succ n ih=>rw[Mm,Mm,Mm,ih];lia
theorem ZlK(n:Nat)(c:Int)(f:Nat->Int):Xe n (fun i=>f i*c)=Xe n f*c:=by
 induction n with
 |zero=>simp[Xe]
 |succ n ih=>rw[Mm,Mm,ih,Int.add_mul]
theorem ZaG{n:Nat}{p:Nat}(hp:p<n)(v:Int):Xe n (fun i=>if i=p then v else 0)=v:=by
 induction n with
 |zero=>lia
 |succ n ih =>
  rw[Mm];by_cases e:p=n
  ·subst e
   rw[Ba rfl];have:Xe p (fun i=>if i=p then v else 0)=Xe p (fun _=>0):=DD fun i hi=>Aa (by lia);rw[this];have z:∀m,Xe m (fun _=>(0:Int))=0:=fun m=>by
    induction m with
    |zero=>rfl
    |succ m ih=>rw[Mm,ih];rfl
   rw[z];lia
  ·rw[ih (by lia),Aa (fun z=>e z.symm)];lia
theorem GN:∀(x:LI0),Xe x.length (fun i=>x.getD i 0)=x.sum:=fun x=>by
 unfold Xe;congr 1;exact AK x 0
theorem VJ(n:Nat)(l:LI0)(g:Int->Int):((Pa n l).map g).sum=Xe n fun i=>if (i:Int)∈l then 0 else g i:=by
 unfold Pa;rw[Me]
 induction n with
 |zero=>rfl
 |succ n ih =>
  rw[Mm,Yz,List.filter_append,Kr,List.sum_append,ih];by_cases e:(n:Int)∈l
  ·simp[e]
  ·simp[e]
noncomputable def Bp(n:Nat)(l:LI0)(x:LI0):LI0:=[((Pa n l).map fun p=>x.getD p.toNat 0).sum,((Pa n l).map fun p=>x.getD p.toNat 0*(Vh n l p:Int)).sum]
theorem ZlA{n:Nat}{s:Int}{l x:LI0}(hB:Bs n s x)(hl:∃q∈l,0<=q/\q<n){p:Int}(hp:p∈Pa n l)(hx:0<x.getD p.toNat 0):HT.Jc (Bp n l (Uf x p)) (Bp n l x)=true:=by
 obtain⟨⟨p0,p1⟩,pl⟩:=K3.mp hp;obtain⟨hn,nn,sm⟩:=hB;have D:=P8 p0 p1 pl hl;generalize hd:Vh n l p=d at D;have hB':=Bs.sow (b:=x) ⟨hn,nn,sm⟩ p0 p1;have get:∀i,i<n->(Uf x p).getD i 0=(if (i:Int)=p then 0 else x.getD i 0)+x.getD p.toNat 0/n+Br n p (x.getD p.toNat 0%n) i:=fun i hi=>by
  rw[Zl6 (by lia)];unfold Ej Mv;rw[hn]
 have h0:=Int.ediv_nonneg (Int.le_of_lt hx) (show (0:Int)<=n by lia);have key2:∀a b c e:Int,(a<c\/(a=c/\b<e))->HT.Jc [a,b] [c,e]=true:=fun a b c e h=>by
  unfold HT.Jc HT.Jc HT.Jc;by_cases h1:a=c
  ·have:b<e:=by lia
   by_cases h2:b=e
   ·lia
   ·simp[h1,h2,this]
  ·have:a<c:=by lia
   simp[h1,this]
 unfold Bp;apply key2;have whole:∀y:LI0,y.length=n->Xe n (fun i=>if (i:Int)∈l then y.getD i 0 else 0)+((Pa n l).map fun p=>y.getD p.toNat 0).sum=y.sum:=fun y hy=>by
  rw[VJ n l fun p=>y.getD p.toNat 0,<- D5,<- GN y,hy];refine DD fun i hi=>?_;by_cases e:(i:Int)∈l
  ·rw[Ba e,Ba e];lia
  ·rw[Aa e,Aa e,El];lia
 have w1:=whole x hn;have w2:=whole (Uf x p) hB'.1;have hsum:(Uf x p).sum=x.sum:=by rw[hB'.2.2,sm]
 have grow:∀i,i<n->(if (i:Int)∈l then x.getD i 0 else 0)<=(if (i:Int)∈l then (Uf x p).getD i 0 else 0):=fun i hi=>by
  by_cases e:(i:Int)∈l
  ·rw[Ba e,Ba e,get i hi,Aa (fun z=>pl (by rw[<- z];exact e))]
   have:=UN n p (x.getD p.toNat 0%n) i;lia
  ·rw[Aa e,Aa e];exact Nz _
 by_cases c:(d:Int)<=x.getD p.toNat 0
 ·left
  have hr0:=Af (p+(d:Int)) (show (n:Int)≠0 by lia);have hr1:=Qf (p+(d:Int)) (show (0:Int)<n by lia);have hrl:=D.at_;have hmod:=V4 p0 p1 (show (0:Int)<=(d:Int) by lia) (show (d:Int)<n from by have:=D.dn;lia);generalize hr:(p+(d:Int))%n=r at hr0 hr1 hrl hmod;have hrn:r.toNat<n:=by lia
  have strict:=ZlJ grow (r:=r.toNat) hrn (by
   rw[Ba (by rw[Hl hr0];exact hrl),Ba (by rw[Hl hr0];exact hrl),get _ hrn,Hl hr0,Aa (fun z=>pl (by rw[<- z];exact hrl))];by_cases big:(n:Int)<=x.getD p.toNat 0
   ·have:1<=x.getD p.toNat 0/n:=Int.le_ediv_of_mul_le (by lia) (by lia)
    have:=UN n p (x.getD p.toNat 0%n) r.toNat;lia
   ·rw[Sl (by lia) (by lia),Q5]
    ·lia
    ·rw[Hl hr0]
     have m2:=X9 (n:=n) hr0 hr1 p0 p1;have:=D.d1;have:=D.dn;rw[m2]
     split at hmod<;>split<;>lia)
  lia
 ·right
  have hq:x.getD p.toNat 0/n=0:=Int.ediv_eq_zero_of_lt (by lia) (by have:=D.dn;lia);have hm:x.getD p.toNat 0%n=x.getD p.toNat 0:=Sl (by lia) (by have:=D.dn;lia);generalize hh:x.getD p.toNat 0=h at *;have near:∀i:Nat,i<n->1<=((i:Int)-p)%n->((i:Int)-p)%n<=h->(i:Int) ∉ l/\(Vh n l i:Int)<=(d:Int)-1:=fun i hi k1 k2=>by
   obtain⟨k,k1,k2,k3⟩:∃k:Nat,1<=k/\(k:Int)<=h/\(p+(k:Int))%n=i:=by
    refine⟨(((i:Int)-p)%n).toNat,by lia,by lia, ?_⟩;have m2:=X9 (n:=n) (show (0:Int)<=(i:Int) by lia) (by lia) p0 p1;rw[Hl (by lia),m2]
    split
    ·rw[show p+((i:Int)-p)=i by lia];exact Sl (by lia) (by lia)
    ·rw[show p+((i:Int)-p+n)=i+n by lia,FE];exact Sl (by lia) (by lia)
   have hil:(i:Int) ∉ l:=fun z=>by
    have:=D.min k k1 (by lia);rw[k3] at this;exact this z
   refine⟨hil, ?_⟩;have D':=P8 (l:=l) (show (0:Int)<=(i:Int) by lia) (by lia) hil hl;apply Classical.byContradiction;intro z;have:=D'.min (d-k) (by lia) (by lia);apply this;have e:((i:Int)+((d-k:Nat):Int))%n=(p+(d:Int))%n:=by
    rw[<- k3,Int.emod_add_emod];congr 1;lia
   rw[e];exact D.at_
  have same:Xe n (fun i=>if (i:Int)∈l then (Uf x p).getD i 0 else 0)=Xe n (fun i=>if (i:Int)∈l then x.getD i 0 else 0):=DD fun i hi=>by
   by_cases e:(i:Int)∈l
   ·rw[Ba e,Ba e,get i hi,Aa (fun z=>pl (by rw[<- z];exact e)),hq,hm,Nv (fun z=>(near i hi z.1 z.2).1 e)]
    lia
   ·rw[Aa e,Aa e]
  refine⟨by lia, ?_⟩;rw[VJ n l fun q=>(Uf x p).getD q.toNat 0*(Vh n l q:Int),VJ n l fun q=>x.getD q.toNat 0*(Vh n l q:Int)];have cnt:Xe n (fun i=>Br n p h i)=h:=by
   have e1:Xe n (fun i=>(Uf x p).getD i 0)=x.sum:=by rw[<- hsum,<- GN (Uf x p),hB'.1]
   have e2:Xe n (fun i=>(Uf x p).getD i 0)+Xe n (fun i=>if i=p.toNat then h else 0)=Xe n (fun i=>x.getD i 0)+Xe n (fun i=>Br n p h i):=by
    rw[<- D5,<- D5];refine DD fun i hi=>?_;rw[get i hi,hq,hm];by_cases e:(i:Int)=p
    ·rw[Ba e,Ba (by lia),show i=p.toNat by lia,hh];lia
    ·rw[Aa e,Aa (by lia)];lia
   rw[ZaG (by lia),e1] at e2;have e3:=GN x;rw[hn] at e3;lia
  have step:Xe n (fun i=>(if (i:Int)∈l then 0 else (Uf x p).getD ((i:Int)).toNat 0*(Vh n l i:Int))+(if i=p.toNat then h*(d:Int) else 0))<=Xe n (fun i=>(if (i:Int)∈l then 0 else x.getD ((i:Int)).toNat 0*(Vh n l i:Int))+Br n p h i*((d:Int)-1)):=by
   refine ED fun i hi=>?_;rw[El,get i hi,hq,hm];by_cases e:(i:Int)=p
   ·have e':i=p.toNat:=by lia
    rw[Aa (by rw[e];exact pl),Ba e,Ba e',Aa (by rw[e];exact pl),e',hh,Hl p0,hd,Nv (by rw[Hl p0,Int.sub_self,Int.zero_emod];lia)];simp
   ·rw[Aa e,Aa (show ¬i=p.toNat by lia)]
    by_cases g:1<=((i:Int)-p)%n/\((i:Int)-p)%n<=h
    ·obtain⟨g1,g2⟩:=near i hi g.1 g.2
     rw[Q5 g,Aa g1,Aa g1];have:(x.getD i 0+0+1)*(Vh n l i:Int)=x.getD i 0*(Vh n l i:Int)+(Vh n l i:Int):=by
      rw[Int.add_zero,Int.add_mul,Int.one_mul]
     rw[this];lia
    ·rw[Nv g]
     by_cases e2:(i:Int)∈l
     ·rw[Ba e2,Ba e2];lia
     ·rw[Aa e2,Aa e2];simp
  rw[D5,D5,ZlK,cnt,ZaG (show p.toNat<n by lia)] at step;have:h*((d:Int)-1)=h*(d:Int)-h:=by rw[Int.mul_sub,Int.mul_one]
  lia
def De(n:Nat)(l b:LI0):LI1:=(Qh ((Ih (Pa n l) b).map (Bp n l))).map fun i=>(Ih (Pa n l) b).getD i []
theorem O8(n:Nat)(l b:LI0):(De n l b).Perm (Ih (Pa n l) b):=ZlE (by simp)
theorem Bx(n:Nat)(l b:LI0):(De n l b).Nodup:=(O8 n l b).nodup_iff.mpr (Zai _ _)
theorem ZfR(n:Nat)(l b:LI0):(De n l b).Pairwise fun x y=>HT.Jc (Bp n l y) (Bp n l x)=false:=by
 have h:=ZlF (kz:=(Ih (Pa n l) b).map (Bp n l)) (fun k hk=>by obtain⟨x,_,rfl⟩:=Ze.mp hk;rfl);unfold De;rw[Rp] at h ⊢;refine h.imp_of_mem fun {i j} hi hj q=>?_;have li:=DN hi;have lj:=DN hj;rw[Lb] at li lj;rw[Bb,Bb,Cd,Cd,Rc li,Rc lj] at q;rw[Bb,Bb,Rc li,Rc lj];exact q
structure Bg(n:Nat)(s:Int)(l b:LI0):Prop where
 f:Hj n s (Pa n l) b
 bar:∃q∈l,0<=q/\q<n
theorem Bg.len{n:Nat}{s:Int}{l b:LI0}(h:Bg n s l b):(De n l b).length<=1000:=by
 rw[(O8 n l b).length_eq];exact h.f.le _
theorem Bg.mem{n:Nat}{s:Int}{l b:LI0}(h:Bg n s l b){x:LI0}:x∈De n l b ↔ Wh (Pa n l) b x:=by
 rw[(O8 n l b).mem_iff];exact h.f.mem
theorem Bg.ahead{n:Nat}{s:Int}{l b:LI0}(h:Bg n s l b){i:Nat}{x:LI0}(hi:(De n l b)[i]?=some x){p:Int}(hp:p∈Pa n l)(hx:0<x.getD p.toNat 0):∃j,j<i/\(De n l b)[j]?=some (Uf x p):=by
 have rx:=h.mem.mp (Tc hi);have ry:Uf x p∈De n l b:=h.mem.mpr (.step rx hp hx);have k:=ZlA (rx.bs h.f.hP h.f.hb) h.bar hp hx;obtain⟨j,hj⟩:=Wj ry;refine⟨j, ?_,hj⟩;obtain⟨li,ei⟩:=Pd.mp hi;obtain⟨lj,ej⟩:=Pd.mp hj;apply Classical.byContradiction;intro c;by_cases e:i=j
 ·subst e
  rw[ei] at ej;rw[<- ej,HL.SJ] at k;cases k
 ·have:=B6.mp (ZfR n l b) i j li lj (by lia)
  rw[ei,ej,k] at this;cases this
noncomputable def vF(g:LI0->Int)(P:LI0):Nat->LI0->Int
 |0,_=>0
 |k+1,x=>g ((Yd P x).map fun y=>vF g P k y.2)
theorem WN(g:LI0->Int)(P:LI0)(k:Nat)(x:LI0):vF g P (k+1) x=g ((Yd P x).map fun y=>vF g P k y.2):=rfl
def Pv(g:LI0->Int)(P:LI0)(x:LI0):Int:=vF g P (1001+P.length) x
theorem Zmm(g:LI0->Int)(P:LI0)(x:LI0):Pv g P x=g ((Yd P x).map fun y=>vF g P (1000+P.length) y.2):=by
 unfold Pv;rw[show 1001+P.length=(1000+P.length)+1 by lia,WN]
theorem Bg.same{n:Nat}{s:Int}{l b:LI0}(h:Bg n s l b)(g:LI0->Int):∀(i k k':Nat) (x:LI0),i<k->i<k'->(De n l b)[i]?=some x->vF g (Pa n l) k x=vF g (Pa n l) k' x:=by
 intro i
 induction i using Nat.strongRecOn with
 |_ i ih =>
  intro k k' x hk hk' hx
  match k,k',hk,hk' with
  |k+1,k'+1,hk,hk' =>
   rw[WN,WN];congr 1;refine Om fun y hy=>?_;obtain⟨y1,y2,y3⟩:=Ez.mp hy;obtain⟨j,hj,ej⟩:=h.ahead hx y1 y2;rw[<- y3] at ej;exact ih j hj k k' y.2 (by lia) (by lia) ej
theorem Bg.val{n:Nat}{s:Int}{l b:LI0}(h:Bg n s l b)(g:LI0->Int){x:LI0}(hx:x∈De n l b):Pv g (Pa n l) x=g ((Yd (Pa n l) x).map fun y=>Pv g (Pa n l) y.2):=by
 obtain⟨i,hi⟩:=Wj hx;have hl:=h.len;have li:=(Pd.mp hi).1;rw[Zmm];congr 1;refine Om fun y hy=>?_;obtain⟨y1,y2,y3⟩:=Ez.mp hy;obtain⟨j,hj,ej⟩:=h.ahead hi y1 y2;rw[<- y3] at ej;unfold Pv;exact h.same g j _ _ y.2 (by lia) (by lia) ej
theorem Bg.go{n:Nat}{s:Int}{l b:LI0}(h:Bg n s l b){x:LI0}(hx:Wh (Pa n l) b x):Bg n s l x:=⟨h.f.go hx,h.bar⟩
theorem Zbx{g:LI0->Int}(hg:∀L:LI0,(∀v∈L,0<=v)->0<=g L)(P:LI0):∀k x,0<=vF g P k x
 |0,_=>Nz _
 |k+1,x=>hg _ fun v hv=>by
  obtain⟨y,_,rfl⟩:=Ze.mp hv;exact Zbx hg P k y.2
theorem IR{E:LI1}{f:LI0->PV}{i j:Nat}{y:LI0}(nd:E.Nodup)(hj:j<i)(hy:E[j]?=some y):Ye ((E.take i).map tI) ((E.take i).map f) (tI y)=some (f y):=by
 refine FR (j:=j) (ZlL (nd.sublist (UP _ _))) ?_ ?_
 ·rw[Cd,OE hj,hy];rfl
 ·rw[Cd,OE hj,hy];rfl
theorem ZaV{E:LI1}{i:Nat}{y:LI0}(nd:E.Nodup)(hy:E[i]?=some y):tI y ∉ (E.take i).map tI:=fun z=>by
 obtain⟨w,hw,e⟩:=Ze.mp z;have:=ID e;subst this;obtain⟨j,hj⟩:=Wj hw;have hji:j<i:=by
  have:=(Pd.mp hj).1;rw[Ug] at this;lia
 rw[OE hji] at hj;obtain⟨l1,e1⟩:=Pd.mp hj;obtain⟨l2,e2⟩:=Pd.mp hy;have:=(List.getElem_inj nd).mp (e1.trans e2.symm);lia
theorem Zbm{α β:Type}{E:List α}{f:α->β}{i:Nat}{y:α}(hy:E[i]?=some y):(E.take (i+1)).map f=(E.take i).map f++[f y]:=by
 rw[List.take_add_one,hy,Kr];rfl
theorem Y3{α:Type}{f:PV->Rr PV}{q g:α->PV}:∀{L:List α},(∀x∈L,f (q x)=.ok (g x))->Fg f (L.map q)=.ok (L.map g)
 |[],_=>rfl
 |x::L,h=>by
  rw[Dd,Dd];unfold Fg;rw[h x (Tl ..),Y3 fun y hy=>h y (Fi _ hy)];rfl
end My
namespace L2
open PySem PySem.Spec PyProof.Rows
def Uk(h:Heap)(d:Ja)(es:Array DictEntry)(ep:Nat):Prop:=∃o,h.get? d=some o/\o.ExactDict/\o.data=.dict es ep
theorem Uk.at{h h':Heap}{d:Ja}{es:Array DictEntry}{ep:Nat}(x:Uk h d es ep)(k:∀o,h.get? d=some o->h'.get? d=some o):Uk h' d es ep:=by
 obtain⟨o,e,r⟩:=x;exact⟨o,k o e,r⟩
section
variable {prog:Qc}{w:Xb}{A:Qe}{E:Va->Ha->Prop}{s:Ha}{d it:Ja}{es:Array DictEntry}{ep:Nat}
theorem Uk.ty(x:Uk s.heap d es ep):s.TypeIs (.ref d) "dict":=by
 obtain⟨o,e,r,_⟩:=x;exact⟨o,e,r.1⟩
theorem Zah{Q:Va->Ha->Prop}(nm:(d==Yj)=false)(x:Uk s.heap d es ep)(q:Q (.ref s.heap.objs.size) { s with heap:=s.heap.push { cls:=.type "dict_keyiterator",data:=.fields #[.ref d,.int 0 0,.int es.size 0,.int ep 0] } }):Sa (La prog w) A (pyIter (.ref d)) Q E s:=by
 have ty:=x.ty;obtain⟨o,e1,e2,e3⟩:=x;refine wpAny_pyIter_slot ty F.slot_dict_iter (G6 F.slot_dict_iter ty F.entry_dict_iter (by
  unfold Builtin.«dict.__iter__»;refine Ka (by
   unfold Builtin.Dict.dictSlotNone;refine Ka (wpAny_notOrdered_dict ty (by
    show Sa _ _ (pure (Value.ref d)) _ _ s;refine Mb (by
     show Sa _ _ (Builtin.Dict.showsAll d >>= _) _ _ s;unfold Builtin.Dict.showsAll;rw[Aa (by rw[nm];exact Bool.false_ne_true)];refine Ka (Mb (Ka (HP e1 e3 (Ka (wpAny_dictEpoch e1 e3 (Ka (FF (Mb ⟨_,rfl, "dict_keyiterator",_,⟨_,Heap.get?_push_size _ rfl,rfl⟩,F.slot_dict_keyiterator_next.lookup, ?_⟩))))))));simpa[rawInt] using q))))) (F.args_dict_iter_1 _))
theorem Zag{i:Nat}{Q:Option Va->Ha->Prop}(hi:s.heap.IsKeyIter it d i es.size ep)(x:Uk s.heap d es ep)(hx:i<es.size)(q:∀h',h'.IsKeyIter it d (i+1) es.size ep->Heap.SameBut it s.heap h'->Q (some es[i].key) { s with heap:=h' }):Sa (La prog w) A (pyNext (.ref it)) Q E s:=by
 have ty:=hi.typeIs;obtain⟨o,e1,e2,e3⟩:=id hi;obtain⟨u,u1,u2,u3⟩:=x;unfold pyNext;refine Ka (J1 (wpAny_callSpecial?_slot (name:=Str.ofString "__next__") ty F.slot_dict_keyiterator_next (G6 F.slot_dict_keyiterator_next ty F.entry_dict_keyiterator_next (by
  refine Ka (Mb (Ka (Ka (by
   first
    |refine Ka (GF ty (Mb (Ka (EF e1 e3 ?_))))
    |refine Ka (HF ty (Mb (Ka (EF e1 e3 ?_))))
   have n1:Builtin.Dict_items.ownsTuple "dict_keyiterator"=false:=by decide
   simp only[n1,Bool.false_eq_true,if_false];show Sa _ _ (if (Value.ref d==Value.none)=true then _ else _) _ _ s;rw[Aa (show ¬((Value.ref d==Value.none)=true) from Bool.false_ne_true)];refine Ka (Mb (Ka (HP u1 u3 ?_)));rw[Aa (by simp)];refine Ka (Mb (Ka (wpAny_dictEpoch u1 u3 ?_)));rw[Aa (by simp)];refine Mb ?_;simp only[show ¬((i:Int)<0) from by lia,if_false,El,AE hx];have hit':(s.heap.update it (Obj.mapFields (·.setIfInBounds 1 (rawInt ((i:Int)+1))))).IsKeyIter it d (i+1) es.size ep:=⟨_,Heap.get?_update_self _ e1 (Obj.isFreed_of_fields (Obj.data_mapFields e3 _)),(Obj.cls_mapFields ..).trans e2,by rw[Obj.data_mapFields e3];simp[rawInt]⟩
   refine Ka (by
    first
     |refine Ka (GF ty (Mb (Ka (IP ty ?_))))
     |refine Ka (HF ty (Mb (Ka (IP ty ?_))))
    show Sa _ _ (setField (.ref it) 1 (rawInt ((i:Int)+1)) >>= _) _ _ s;refine Ka (wpAny_setField e1 e3 (by simp) (Ka (Yl (Ka (IP (s:={ s with heap:=s.heap.update it (Obj.mapFields (·.setIfInBounds 1 (rawInt ((i:Int)+1)))) }) hit'.typeIs (by
     show Sa _ _ (pure es[i].key) _ _ _;exact Mb (Mb ⟨_,rfl,Mb (q _ hit' (Heap.SameBut.update ..))⟩))))))))))))) (F.args_dict_keyiterator_next_1 _))))
theorem Zaf{Q:Option Va->Ha->Prop}(hh:A.handled=none){i:Nat}(hge:es.size<=i)(hi:s.heap.IsKeyIter it d i es.size ep)(x:Uk s.heap d es ep)(q:∀h',Heap.ExtBut it s.heap h'->Q none { s with heap:=h' }):Sa (La prog w) A (pyNext (.ref it)) Q E s:=by
 have ty:=hi.typeIs;obtain⟨o,e1,e2,e3⟩:=id hi;obtain⟨u,u1,u2,u3⟩:=x;unfold pyNext;refine Ka (J1 (wpAny_callSpecial?_slot (name:=Str.ofString "__next__") ty F.slot_dict_keyiterator_next (G6 F.slot_dict_keyiterator_next ty F.entry_dict_keyiterator_next (by
  refine Ka (Mb (Ka (Ka (by
   first
    |refine Ka (GF ty (Mb (Ka (EF e1 e3 ?_))))
    |refine Ka (HF ty (Mb (Ka (EF e1 e3 ?_))))
   have n1:Builtin.Dict_items.ownsTuple "dict_keyiterator"=false:=by decide
   simp only[n1,Bool.false_eq_true,if_false];show Sa _ _ (if (Value.ref d==Value.none)=true then _ else _) _ _ s;rw[Aa (show ¬((Value.ref d==Value.none)=true) from Bool.false_ne_true)];refine Ka (Mb (Ka (HP u1 u3 ?_)));rw[Aa (by simp)];refine Ka (Mb (Ka (wpAny_dictEpoch u1 u3 ?_)));rw[Aa (by simp)];refine Mb ?_;simp only[show ¬((i:Int)<0) from by lia,if_false,El,BE hge];refine Ka (by
    first
     |refine Ka (GF ty (Mb ?_))
     |refine Ka (HF ty (Mb ?_))
    show Sa _ _ (setField (.ref it) 0 .none >>= _) _ _ s;refine Ka (wpAny_setField e1 e3 (by simp) ?_);show Sa _ _ (newExc (.type "StopIteration") [] >>= _) _ _ _;refine Ka ?_;simp only[newExc,newTuple];refine Ka (FF (Ka (m:=firstArgMember _ _) (wpAny_of_eq (a:=Value.none) (by first|rfl|(simp only[firstArgMember];rfl)) ?_)) (by size_fits));refine FF ?_ (by size_fits);simp only[raiseNew];refine Ka (wpAny_handled ?_);rw[show A.in1.handled=none from hh];refine Ka (Mb (wpAny_throw ?_));refine Ka (wpAny_isInstance (T := "StopIteration") (b:=true) ⟨_,Heap.get?_push_size _ rfl,rfl⟩ isSubtype_stop ?_);exact Mb (q _ (((Heap.SameBut.update ..).extBut.push _).push _)))))))) (F.args_dict_keyiterator_next_1 _))))
theorem Zmq(hh:A.handled=none)(I:Ja)(ne:d≠I):Walks prog w A I [I,d] [I] es.size (fun i v=>(es.map (·.key))[i]?=some v) (fun i h=>h.IsKeyIter I d i es.size ep/\Uk h d es ep) where
 sub b hb:=by simp at hb;simp[hb]
 frame _ _ _ st k:=⟨st.1.at fun o e=>k I (by simp) o e,st.2.at fun o e=>k d (by simp) o e⟩
 item i s Q E hi st q:=Zag st.1 st.2 hi fun h' Ca sb=>q _ h' s.toks (by simp[hi]) ⟨Ca,st.2.at fun o e=>(sb.2 d ne).trans e⟩ fun b o hb e=>(sb.2 b (fun z=>hb (by simp[z]))).trans e
 done s Q E st q:=Zaf hh (Cb _) st.1 st.2 fun h' eb=>q h' s.toks fun b o hb e=>eb b o (fun z=>hb (by simp[z])) e
 self _ _ _ _ st q:=wpAny_pyIter_keyiter st.1 q
theorem Zh0{Q:Bool->Ha->Prop}(nm:(d==Yj)=false)(x:Uk s.heap d es ep)(hz:es.size<=1000000)(q:∀b tk,Q b { s with toks:=tk }):Sa (La prog w) A (Builtin.List.listLengthHint (.ref d)) Q E s:=by
 have ty:=x.ty;unfold Builtin.List.listLengthHint;refine Ka (wpAny_specialOf ty F.slot_dict_len.lookup ?_);generalize hid:("dict.__len__":String)=nm0
 wp_delta
 rw[show splitId nm0=some ("dict", "__len__") from by subst hid;decide +kernel];subst hid;exact Ka (wpAny_isInstance (T := "dict") (b:=true) ty (by rw[isSubtype_type];kernel_rfl) (wpAny_ite_split (fun z=>Gb z (by decide)) (fun _=>wpAny_ite_split (fun _=>Ka (wpAny_typeOf ty (Mb (q _ s.toks)))) (fun z=>Gb (by decide +kernel) z))))
theorem NU{R:Result->Ha->Prop}(hh:A.handled=none)(nm:(d==Yj)=false)(x:Uk s.heap d es ep)(hz:es.size<=1000000)(S:Ja)(res:Va)(c0:Nat)(hS:s.heap.get? S=some { cls:=.type "list",data:=.seq #[] c0 })(q:∀h' tk acc c',(∀b o,b≠S->s.heap.get? b=some o->h'.get? b=some o)->h'.get? S=some { cls:=.type "list",dict:=none,data:=.seq acc c',slots:=#[] } ->
   ItemsOf (fun i v=>(es.map (·.key))[i]?=some v) acc es.size->R (.ok (.ret res)) { s with heap:=h',toks:=tk }) :
  Sa (La prog w) A.in1 (Builtin.List.listExtendWith (.ref S) (.ref d) res) (fun fin s'=>match fin with|.done f=>R (.ok f) s'|.again c'=>c'.quiet=true/\codeAny (La prog w) A c' R s') (fun e s'=>R (.error e) s') s:=by
 have ty:=x.ty;have dne:S≠d:=fun e=>by
  obtain⟨o,e1,e2,e3⟩:=x;rw[e,e1] at hS;cases hS;cases e3
 have sne:S≠s.heap.objs.size:=Vf (Heap.lt_size hS);have dI:d≠s.heap.objs.size:=by
  obtain⟨o,e1,_⟩:=x;exact Vf (Heap.lt_size e1)
 have W:=(Zmq (prog:=prog) (w:=w) (A:=A.in1) (es:=es) (ep:=ep) hh s.heap.objs.size dI).toS;have go:∀(h:Heap) (c1 tk:Nat),h.IsKeyIter s.heap.objs.size d 0 es.size ep->Uk h d es ep->(∀b o,b≠S->s.heap.get? b=some o->h.get? b=some o) ->
   h.get? S=some { cls:=.type "list",data:=.seq #[] c1 }->codeAny (La prog w) A (.builtin "list.extend.loop" ⟨[.ref S,.ref s.heap.objs.size,res],[]⟩) R { s with heap:=h,toks:=tk }:=fun h c1 tk st st2 k hS1=>by
  refine codeAny_extend_loopS W (by rw[sizeLine_eq];lia) S (by simp[sne,dne]) res es.size 0 _ #[] c1 rfl (Og _) ⟨st,st2⟩ hS1 (ItemsOf.nil _) fun s' acc' c' hm hS' hacc=>?_;rw[Moved.eq_with hm];refine q s'.heap s'.toks acc' c' (fun b o hb e=>hm.heap b o (fun z=>?_) (k b o hb e)) hS' hacc;rcases Lc.mp z with z|z
  ·exact hb z
  ·exact Gb (Heap.lt_size e) (by rw[Gi.mp z];exact Io _)
 unfold Builtin.List.listExtendWith;refine Ka (wpAny_typeOf ty ?_);simp only[show Builtin.List.listSameRef (.ref S) (.ref d)=false by simp[Builtin.List.listSameRef,dne],show (Value.type "dict" == Value.type "list")=false by decide,show (Value.type "dict" == Value.type "tuple")=false by decide,Bool.or_false,Bool.false_eq_true,if_false];have p1:∀(ob:Obj) b o,s.heap.get? b=some o->(s.heap.push ob).get? b=some o:=fun ob b o e=>Heap.get?_push_of_some _ e;refine Ka (Zah nm x (Ka (Yl (Zh0 nm (x.at fun o e=>p1 _ _ _ e) hz fun bb tk=>?_))));have it0:(s.heap.push { cls:=.type "dict_keyiterator",data:=.fields #[.ref d,.int 0 0,.int es.size 0,.int ep 0] }).IsKeyIter s.heap.objs.size d 0 es.size ep:=⟨_,Heap.get?_push_size _ rfl,rfl,rfl⟩
 have S1:=p1 { cls:=.type "dict_keyiterator",data:=.fields #[.ref d,.int 0 0,.int es.size 0,.int ep 0] } S _ hS;refine wpAny_ite_split (fun _=>Ka (Yp (Ka ?_))) (fun _=>Mb ⟨plainId_quiet F.plain_extend_loop _,go _ c0 _ it0 (x.at fun o e=>p1 _ _ _ e) (fun b o _ e=>p1 _ b o e) S1⟩);show Sa _ _ (updateSeq S (·.push .none) >>= fun _=>updateSeq S (·.pop)) _ _ _;have S2:=Heap.get?_update_self (Obj.mapSeq (·.push Value.none)) S1 rfl;have S3:=Heap.get?_update_self (Obj.mapSeq (·.pop)) S2 rfl;have oth:∀(h:Heap) f b o,b≠S->h.get? b=some o->(h.update S f).get? b=some o:=fun h f b o hb e=>(Heap.get?_update_other _ _ (Ne.symm hb)).trans e;exact Ka (wpAny_updateSeq S1 rfl (wpAny_updateSeq (hz:=by seq_fits) S2 rfl (Mb ⟨plainId_quiet F.plain_extend_loop _,go _ _ _ (it0.at fun o e=>oth _ _ _ _ (Ne.symm sne) (oth _ _ _ _ (Ne.symm sne) e)) (x.at fun o e=>oth _ _ _ _ (Ne.symm dne) (oth _ _ _ _ (Ne.symm dne) (p1 _ _ _ e))) (fun b o hb e=>oth _ _ _ _ hb (oth _ _ _ _ hb (p1 _ _ _ e))) S3⟩)))
theorem Zi5{Q:Va->Ha->Prop}(hh:A.handled=none)(nm:(d==Yj)=false)(x:Uk s.heap d es ep)(hz:es.size<=1000000)(q:∀h' tk acc c',(∀b o,s.heap.get? b=some o->h'.get? b=some o)->h'.get? s.heap.objs.size=some { cls:=.type "list",dict:=none,data:=.seq acc c',slots:=#[] }->ItemsOf (fun i v=>(es.map (·.key))[i]?=some v) acc es.size->Q (.ref s.heap.objs.size) { s with heap:=h',toks:=tk }) :
  Sa (La prog w) A (call (.type "list") [.ref d]) Q E s:=by
 have hS:(s.heap.push { cls:=.type "list",data:=.seq #[] }).get? s.heap.objs.size=some { cls:=.type "list",data:=.seq #[] }:=Heap.get?_push_size _ rfl;have p1:∀b o,s.heap.get? b=some o->(s.heap.push { cls:=.type "list",data:=.seq #[] }).get? b=some o:=fun b o e=>Heap.get?_push_of_some _ e;have dne:d≠s.heap.objs.size:=by
  obtain⟨o,e1,_⟩:=x;exact Vf (Heap.lt_size e1)
 refine callType_codes (Q₁:=fun ob s1=>ob=.ref s.heap.objs.size/\s1={ s with heap:=s.heap.push { cls:=.type "list",data:=.seq #[] } }) F.called_list (F.typeCall_list_1 _) F.entry_list_init (code_list_new _ ⟨rfl,rfl⟩) fun ob s1 ⟨e1,e2⟩=>?_;subst e1 e2;refine⟨⟨_,hS,rfl⟩,F.args_list_init_2 _ _, ?_⟩;show Sa _ _ (do let old <- Builtin.List.listItems (.ref s.heap.objs.size);Builtin.List.listUpdate (.ref s.heap.objs.size) (fun _=>#[]);letGo old.toList.reverse;Builtin.List.listExtendWith (.ref s.heap.objs.size) (.ref d) .none) _ _ _;refine Ka ?_;unfold Builtin.List.listItems;refine Ka (wpAny_seqItems hS rfl (Mb ?_));show Sa _ _ (updateSeq s.heap.objs.size (fun _=>#[]) >>= fun _=>letGo (#[]:Array Va).toList.reverse >>= fun _=>Builtin.List.listExtendWith (.ref s.heap.objs.size) (.ref d) .none) _ _ _;have S2:=Heap.get?_update_self (Obj.mapSeq (fun _=>(#[]:Array Va))) hS rfl;have oth:∀b o,b≠s.heap.objs.size->s.heap.get? b=some o->((s.heap.push { cls:=.type "list",data:=.seq #[] }).update s.heap.objs.size (Obj.mapSeq (fun _=>(#[]:Array Va)))).get? b=some o:=fun b o hb e=>(Heap.get?_update_other _ _ (Ne.symm hb)).trans (p1 b o e);refine Ka (wpAny_updateSeq hS rfl (Ka (wpAny_letGo (NU (A:=A.in1) hh nm (x.at fun o e=>oth _ _ dne e) hz _ .none _ S2 fun h' tk acc c' k hS' hacc=>⟨rfl,q h' tk acc c' (fun b o e=>?_) hS' hacc⟩))));have hb:b≠s.heap.objs.size:=Vf (Heap.lt_size e);exact k b o hb (oth b o hb e)
end
section
variable {X:Cx}
theorem Px:∀{H:Hp}{Ra:List (List Sb×V)}{xs:List (List Sb×Ja×Va)},KT H Ra xs->Ra.length=xs.length/\∀(i:Nat) (k:List Sb) (v:V),Ra[i]?=some (k,v)->∃b u,xs[i]?=some (k,b,u)/\H b=some (.tup (k.map kV))
 |_,_,_,.nil=>⟨rfl,fun i k v h=>by simp at h⟩
 |H,_,_,.cons (a:=p) (b:=q) r rr=>by
  obtain⟨e,f⟩:=Px rr;refine⟨by simp[e],fun i k v h=>?_⟩;cases i with
  |zero =>
   simp only[NE,Option.some.injEq] at h;obtain⟨r1,r2,r3⟩:=r;subst h;exact⟨q.2.1,q.2.2,by rw[NE,show k=q.1 from r1],r2⟩
  |succ i =>
   rw[MO] at h ⊢;exact f i k v h
def WZ:List V->Hp->VK->Prop:=fun xs H Q=>∃p,∃Ra:List (List Sb×V),xs=[.ref p]/\Rd H p (.dT Ra)/\Ra.length<=1000000 /\
  ∀l,H l=none->∀bs:LI2,bs.length=Ra.length->(∀(i:Nat) (k:List Sb) (v:V),Ra[i]?=some (k,v)->∃b,bs[i]?=some b/\H b=some (.tup (k.map kV)))->Q (.ref l) (upd H l (.lst (bs.map V.ref)))
theorem MW{ks:LI3}{acc:Array Va}(h:ItemsOf (fun i v=>(List.toArray ks)[i]?=some v) acc ks.length):acc.toList=ks:=by
 obtain⟨h1,h2⟩:=h;refine List.ext_getElem (by simpa using h1) fun i i1 i2=>?_;have:=h2 i (acc.toList[i]) (by simp at i1 ⊢);have this:(List.toArray ks)[i]?=some acc.toList[i]:=this;rw[List.getElem?_toArray,Rc i2] at this;exact(Option.some.inj this).symm
theorem Zak:∀(bs:LI2),Ub (bs.map V.ref) (bs.map Value.ref)
 |[]=>.nil
 |b::bs=>.cons rfl (Zak bs)
theorem Zek(hc:X.calm=true):Xf X (.type "list") WZ:=by
 intro Za s σ H xs us Q I r h;obtain⟨p,Ra,rfl,hp,hz0,q⟩:=h;obtain⟨u,rfl,rx⟩:=Np r;cases rx;obtain⟨z,nm,xs,rv,o,es,ep,h1,h2,h3,h4,h5⟩:=(show Df X.prog X.w H s.heap p (.dT Ra) from EB I.hok hp)
 obtain⟨g1,g2⟩:=Px rv;have hes:es.size=xs.length:=by rw[<- Gf,h4,Lb]
 refine Zi5 (I.ok.hd hc) nm ⟨o,h1,h2,h3⟩ (by lia) fun h' tk acc c' k e hacc=>?_;have hk:es.map (·.key)=List.toArray (xs.map fun x=>Value.ref x.2.1):=by
  apply U6.mp;rw[Mz,h4,Me];rfl
 rw[hk,hes,show xs.length=(xs.map fun x=>Value.ref x.2.1).length by simp] at hacc;have ha:=MW hacc;have ea:acc=List.toArray ((xs.map (·.2.1)).map Value.ref):=by
  apply U6.mp;rw[ha,Me];rfl
 have I1:Da X Za σ (upd H s.heap.objs.size (.lst ((xs.map (·.2.1)).map V.ref))) { s with heap:=h',toks:=tk }:=by
  refine I.laid (t':=tk) k (Cb _) ⟨?_,_,c',Zak _,by rw[<- ea];exact e⟩;rw[Lb,Lb,<- g1];exact z
 refine⟨.ref s.heap.objs.size,_,I1,rfl,q _ (I.hok.fresh (Cb _)) (xs.map (·.2.1)) (by simp[g1]) fun i kk v hi=>?_⟩;obtain⟨b,u,e1,e2⟩:=g2 i kk v hi;exact⟨b,by rw[Cd,e1];rfl,e2⟩
end
def HA(xs:LI5):Rr PV:=match xs with
 |[.box _ (.dt ks) ys]=>if ks.length=ys.length/\ks.length<=1000000 then .ok (.lst (ks.map fun k=>.tup (k.map Dk))) else .bad
 |_=>.bad
theorem Zkf{p:Option Ja}{bs:LI1}{ys:LI5}(h:ys.length=bs.length)(hz:bs.length<=1000000):HA [.box p (.dt (bs.map fun b=>b.map Sum.inl)) ys]=.ok (.lst (bs.map Qb)):=by
 unfold HA;simp only;rw[Ba ⟨by rw[Lb];lia,by rw[Lb];exact hz⟩,Me];congr 2;refine Om fun b _=>?_;simp only[Function.comp_apply,Qb,Me];rfl
theorem FB{K:ZmM}{H:Hp}{S:Ja->Prop}:∀(k:List Sb),Reps K H S (k.map Dk) (k.map kV)
 |[]=>rfl
 |.inl i::k=>⟨_,_,rfl,rfl,FB k⟩
 |.inr x::k=>⟨_,_,rfl,rfl,FB k⟩
theorem WI:∀(k:List Sb),PV.flats (k.map Dk)=true
 |[]=>rfl
 |.inl i::k=>by simp only[Dd,Dk,PV.flats,PV.flat,WI k,Bool.and_self]
 |.inr x::k=>by simp only[Dd,Dk,PV.flats,PV.flat,WI k,Bool.and_self]
theorem TU:∀(ks:List (List Sb)),PV.flats (ks.map fun k=>.tup (k.map Dk))=true
 |[]=>rfl
 |k::ks=>by simp only[Dd,PV.flats,PV.flat,WI k,TU ks,Bool.and_self]
theorem Zaq{K:ZmM}{H:Hp}{S:Ja->Prop}:∀(ks:List (List Sb)) (bs:LI2),bs.length=ks.length->(∀(i:Nat) (k:List Sb),ks[i]?=some k->∃b,bs[i]?=some b/\H b=some (.tup (k.map kV)))->Reps K H S (ks.map fun k=>.tup (k.map Dk)) (bs.map V.ref)
 |[],[],_,_=>rfl
 |[],b::bs,h,_=>by simp at h
 |k::ks,[],h,_=>by simp at h
 |k::ks,b::bs,h,f=>by
  obtain⟨b',e1,e2⟩:=f 0 k rfl;have e1:b=b':=by simpa using e1
  subst e1;exact⟨_,_,rfl,⟨b,_,rfl,⟨e2,trivial⟩,FB k⟩,Zaq ks bs (by simpa using h) fun i kk hi=>f (i+1) kk hi⟩
section
variable {K:ZmM}{EX:PX->Hp->Prop}{Γ Γ':List Md}{ta:TA}{fa:LI5->Rr LI5}
theorem Zfv(ha:Ge K EX Γ Γ' ta fa):DE K EX Γ Γ' .F (Ci WZ ta) (fun ρ=>(fa ρ).bind HA):=fun B H0 H σ ρ F R Q A d=>by
 refine ha B H0 H σ ρ F R _ A (d.bind.imp (fun xs _ d vs H1 F1 s1 f1 p1 A1=>?_) fun e q=>q);unfold HA at d
 split at d
 ·rename_i p ks ys _
  split at d
  ·rename_i hc
   obtain⟨v,rfl,a,ws,u,rfl,⟨hr,_⟩,⟨_,hl,rfl⟩,_⟩:=Ik p1;refine⟨a,_,rfl,hr,by rw[Yv];lia,fun l hz bs hb f=>?_⟩;have hlz:(ks.zip ws).length=ks.length:=by rw[Yv];lia
   have pr:=Zaq (K:=K) (H:=H1) (S:=fun _=>True) ks bs (by lia) fun i k hi=>by
    have hi':i<ks.length:=(Pd.mp hi).1;have hw:i<ws.length:=by lia
    exact f i k ws[i] (by rw[Wv];exact⟨hi,Rc hw⟩)
   exact d _ _ (s1.trans (Ia.new hz)) (Cc.newP s1 f1 pr (TU ks) A1 hz)
  ·exact d.elim
 ·exact d.elim
end
noncomputable def Ze0(v:Va):Sem LI3:=match v with|.ref a=>(load a >>= fun o=>match o.data with|.seq ys _=>pure ys.toList|_=>unsupported "internal:collect")|_=>unsupported "internal:collect"
section
variable {prog:Qc}{w:Xb}{A:Qe}{E:Va->Ha->Prop}{s:Ha}{d:Ja}{es:Array DictEntry}{ep:Nat}
theorem Ze1{Q:LI3->Ha->Prop}(hh:A.handled=none)(nm:(d==Yj)=false)(x:Uk s.heap d es ep)(hz:es.size<=1000000)(q:∀h' tk,(∀b o,s.heap.get? b=some o->h'.get? b=some o)->s.heap.objs.size<=h'.objs.size->Q (es.map (·.key)).toList { s with heap:=h',toks:=tk }):Sa (La prog w) A (collect (.ref d)) Q E s:=by
 have hS:(s.heap.push (Sd "list" #[] 0)).get? s.heap.objs.size=some (Sd "list" #[] 0):=Heap.get?_push_size _ rfl;unfold collect;refine Ka (wpAny_runValue (codeAny_builtin entry_proto_collect' (by
  refine Ka (m:=newList []) (U1 (Mb ⟨Code.quiet_builtin _ (by decide +kernel),codeAny_builtin entry_list_iadd' ?_⟩));rw[Around.under_plainId (show plainId "list.__iadd__"=true by decide +kernel) _];refine NU (A:=A) (R:=fun r s2=>match r with|.ok (.ret v)=>Sa (La prog w) A (Ze0 v) Q E s2|.ok _=>False|.error x=>E x s2) (s:={ s with heap:=s.heap.push (Sd "list" #[] 0) }) hh nm (x.at fun o e=>Heap.get?_push_of_some _ e) hz s.heap.objs.size (.ref s.heap.objs.size) 0 hS fun h' tk acc c' k e hacc=>?_;have hes:es.size=(es.map (·.key)).toList.length:=by simp
  have hacc':acc.toList=(es.map (·.key)).toList:=MW (by rw[Array.toArray_toList,<- hes];exact hacc);refine Ka (m:=load s.heap.objs.size) (wpAny_load e ?_);show Sa _ _ (pure acc.toList) Q E _;rw[hacc'];exact Mb (q h' tk (fun b o eb=>k b o (Vf (Heap.lt_size eb)) (Heap.get?_push_of_some _ eb)) (Tt (Heap.lt_size e))))))
theorem Zl3{vs:LI3}{Q:Va->Ha->Prop}(κ:Si)(Rv:Va->Va->Bool)(hh:A.handled=none)(nm:(d==Yj)=false)(x:Uk s.heap d es ep)(hv:(es.map (·.key)).toList=vs)(hz:vs.length<=1000000)(hk:2<=vs.length->∀(s1:Ha) (Q:Si->Ha->Prop),(∀b o,s.heap.get? b=some o->s1.heap.get? b=some o)->Q κ s1->Sa (La prog w) A.in1.in1 (keyKind' vs.toArray) Q E s1)(hc:∀(s1:Ha) x y,x∈vs->y∈vs->(∀b o,s.heap.get? b=some o->s1.heap.get? b=some o)->∀C:Bool->Ha->Prop,C (Rv x y) s1->Sa (La prog w) A.in1.in1 (keyLt' κ x y) C (fun _ _=>False) s1)(asy:∀x y,x∈vs->y∈vs->Rv x y=true->Rv y x=false)(tr:∀x y z,x∈vs->y∈vs->z∈vs->Rv y x=false->Rv z y=false->Rv z x=false)(hq:∀D h' tk c out,(∀b o,s.heap.get? b=some o->h'.get? b=some o)->s.heap.objs.size<=D->out.Perm vs->out.Pairwise (fun x y=>Rv y x=false)->h'.get? D=some (Sd "list" (List.toArray out) c)->Q (.ref D) { s with heap:=h',toks:=tk }) :
  Sa (La prog w) A (call (.builtin "sorted") [.ref d]) Q E s:=by
 have line:vs.length<=Rb:=Ek hz;have hes:es.size<=1000000:=by
  have:=Wf List.length hv;rw[Gf,Array.size_map] at this;lia
 refine Calls.call_function_entry kind_sorted plain_sorted entry_sorted (args_sorted1 _) ?_;unfold Builtin.«sorted»;refine Ka (m:=checkCount "sorted" 1 1 _) (Mb (Ka (Ze1 (A:=A.in1) hh nm x hes fun h1 tk k1 hsz=>?_)));rw[hv];refine Ka (U1 ?_ line);have hD:(h1.push (Sd "list" vs.toArray 0)).get? h1.objs.size=some (Sd "list" vs.toArray 0):=Heap.get?_push_size _ rfl;show Sa _ _ _ _ _ { s with heap:=h1.push (Sd "list" vs.toArray 0),toks:=tk };have up:∀(h2:Heap),(∀b o,b≠h1.objs.size->(h1.push (Sd "list" vs.toArray 0)).get? b=some o->h2.get? b=some o)->∀b o,s.heap.get? b=some o->h2.get? b=some o:=fun h2 k b o q =>
  k b o (Vf (Heap.lt_size (k1 b o q))) (Heap.get?_push_of_some _ (k1 b o q))
 refine Ka (Yl (G6 slot_list_sort ⟨_,hD,rfl⟩ entry_list_sort (Za7 (s:={ s with heap:=h1.push (Sd "list" vs.toArray 0),toks:=tk }) κ Rv hD hz (fun h2 s1 Q k q=>hk h2 s1 Q (up _ k) q) (fun s1 x y hx hy k C q=>hc s1 x y hx hy (up _ k) C q) asy tr fun h' c out k p1 p2 e=>?_) (args_list_sort _)));exact⟨_,rfl,Mb ⟨_,rfl,hq _ h' tk c out (up _ k) hsz p1 p2 e⟩⟩
end
section
variable {X:Cx}
def Zac:List V->Hp->VK->Prop:=fun xs H Q=>∃p,∃Ra:List (List Sb×V),∃ts:LI1,xs=[.ref p]/\Rd H p (.dT Ra)/\Ra.map (·.1)=ts.map (fun t=>t.map Sum.inl)/\(∀t∈ts,t≠[])/\ts.length<=1000000 /\
  ∀l,H l=none->∀qs:List Xd,(∀t∈qs,H t.1=some (.tup (t.2.map V.int)))->(qs.map (·.2)).Perm ts->So (qs.map (·.2))->Q (.ref l) (upd H l (.lst (qs.map fun t=>V.ref t.1)))
theorem Zeo(hc:X.calm=true):Xf X (.builtin "sorted") Zac:=by
 intro Za s σ H xs us Q I r h;obtain⟨p,Ra,ts,rfl,hp,hks,hne,hz0,q⟩:=h;obtain⟨u,rfl,rx⟩:=Np r;cases rx;obtain⟨z,nm,xs,rv,o,es,ep,h1,h2,h3,h4,h5⟩:=(show Df X.prog X.w H s.heap p (.dT Ra) from EB I.hok hp)
 obtain⟨g1,g2⟩:=Px rv;have Ae:Ra.length=ts.length:=by
  have:=Wf List.length hks;rwa [Lb,Lb] at this
 obtain⟨qs,hq1,hq2,hq3⟩:∃qs:List Xd,qs.map (·.1)=xs.map (·.2.1)/\qs.map (·.2)=ts/\∀t∈qs,H t.1=some (.tup (t.2.map V.int)):=by
  refine⟨(xs.map (·.2.1)).zip ts,List.map_fst_zip (by rw[Lb];lia),List.map_snd_zip (by rw[Lb];lia),fun t ht=>?_⟩;obtain⟨i,hi⟩:=Wj ht;rw[Wv,Cd] at hi;obtain⟨i1,i2⟩:=hi;have ki:(Ra.map (·.1))[i]?=some (t.2.map Sum.inl):=by rw[hks,Cd,i2];rfl
  rw[Cd] at ki;cases e:Ra[i]? with
  |none=>rw[e] at ki;cases ki
  |some kv =>
   rw[e] at ki;have ki:kv.1=t.2.map Sum.inl:=Option.some.inj ki;obtain⟨b,u,e1,e2⟩:=g2 i kv.1 kv.2 e;rw[e1] at i1;have i1:b=t.1:=Option.some.inj i1;rw[<- i1,e2,ki,Me];rfl
 have hk:(es.map (·.key)).toList=qs.map fun t=>Value.ref t.1:=by
  rw[Mz,h4,Me];have:=Wf (List.map Value.ref) hq1;rw[Me,Me] at this;exact this.symm
 have hql:qs.length=ts.length:=by rw[<- hq2,Lb]
 have tup:∀(s1:Ha),(∀b o,s.heap.get? b=some o->s1.heap.get? b=some o)->∀t∈qs,∃vs:LI3,Ub (t.2.map V.int) vs/\IsTup s1.heap t.1 vs.toArray:=fun s1 k t ht=>by
  have I':Da X Za σ H { s with heap:=s1.heap,toks:=s1.toks }:=I.kept k;obtain⟨vs,rv,pt,_⟩:=I'.tuple (show Re X.K H t.1 (t.2.map V.int) from .inl (.inl (hq3 t ht)));exact⟨vs,rv,pt⟩
 have hu:∀t∈qs,∀t'∈qs,t.1=t'.1->t.2=t'.2:=fun t ht t' Ad e=>by
  have a1:=hq3 t ht;rw[e,hq3 t' Ad] at a1;have a1:t'.2.map V.int=t.2.map V.int:=by injection a1 with a1;injection a1
  exact((Sz fun x y h=>by injection h).mp a1).symm
 refine Zl3 (vs:=qs.map fun t=>Value.ref t.1) (tuples' true) (fun x y=>HT.Jc (Nf qs (Bc x)) (Nf qs (Bc y))) (I.ok.hd hc) nm ⟨o,h1,h2,h3⟩ hk (by rw[Lb];lia) (fun h2 s1 Q' k q'=>?_) (fun s1 x y hx hy k C q'=>?_) (fun x y _ _ h=>K9 h) (fun x y z _ _ _ h1 h2=>M9 h1 h2) fun D h' tk c out k hD p1 p2 e=>?_
 ·have:∀(ts:List Xd) (its:LI3),(∀t∈ts,t.2≠[]/\∃vs:LI3,Ub (t.2.map V.int) vs/\IsTup s1.heap t.1 vs.toArray)->Ub (ts.map fun t=>V.ref t.1) its->∃fs:LI3,fs.length=ts.length/\PySem.W.KatTups s1.heap its fs/\∀v∈fs,∃n t,v=Value.int n t:=by
   intro ts
   induction ts with
   |nil =>
    intro its _ rv;cases rv;exact⟨[],rfl,trivial,by simp⟩
   |cons t ts ih =>
    intro its ht rv;cases rv with
    |cons rv tv =>
     obtain⟨fs,e1,e2,e3⟩:=ih _ (fun t' h'=>ht t' (Fi _ h')) tv;obtain⟨hne,vs,rvs,ob,eo,oc,k,od⟩:=ht t (Tl ..);obtain⟨n,ns,en⟩:=KE hne;rw[en] at rvs;cases rvs with
     |cons rn tn =>
      obtain⟨tk,rfl⟩:=rn;have rv':_=Value.ref t.1:=rv;subst rv';exact⟨.int n tk::fs,by simp[e1],⟨⟨t.1,ob,_,k,rfl,eo,oc,od,rfl⟩,e2⟩,fun v hv=>(Lc.mp hv).elim (fun z=>⟨n,tk,z⟩) (e3 v)⟩
  obtain⟨fs,e1,e2,e3⟩:=this qs _ (fun t ht=>⟨hne _ (by rw[<- hq2];exact WE ht),tup s1 k t ht⟩) (R4 qs);exact PySem.W.kat_kind (T:=.type "int") e2 (by rw[e1];rw[Lb] at h2;lia) (fun v hv=>by obtain⟨n,t,rfl⟩:=e3 v hv;exact PySem.W.Looks.of_pure rfl) rfl q'
 ·obtain⟨t,ht,rfl⟩:=Ze.mp hx
  obtain⟨t',Ad,rfl⟩:=Ze.mp hy;obtain⟨vs,rv,ob,eo,oc,k1,od⟩:=tup s1 k t ht;obtain⟨vs',rv',ob',eo',oc',k1',od'⟩:=tup s1 k t' Ad;refine PySem.W.kat_lt eo od eo' od' (N9 rv rv' ?_ ?_)
  ·simp
  ·rw[show Bc (.ref t.1)=t.1 from rfl,show Bc (.ref t'.1)=t'.1 from rfl,En hu ht,En hu Ad] at q'
   exact q'
 ·have ho:∀u∈out,∃t∈qs,u=Value.ref t.1:=fun u hu=>by
   obtain⟨t,ht,e⟩:=Ze.mp (p1.mem_iff.mp hu);exact⟨t,ht,e.symm⟩
  have hp':(out.map fun v=>((Bc v,Nf qs (Bc v)):Xd)).Perm qs:=by
   have a1:=p1.map fun v=>((Bc v,Nf qs (Bc v)):Xd)
   rw[Me] at a1;have a2:qs.map ((fun v=>((Bc v,Nf qs (Bc v)):Xd))∘fun t=>Value.ref t.1)=qs:=by
    have:qs.map ((fun v=>((Bc v,Nf qs (Bc v)):Xd))∘fun t=>Value.ref t.1)=qs.map id:=Om fun t ht=>by
     show ((t.1,Nf qs t.1):Xd)=t;rw[En hu ht]
    rw[this,SE]
   rw[a2] at a1;exact a1
  have hup:So ((out.map fun v=>((Bc v,Nf qs (Bc v)):Xd)).map (·.2)):=by
   rw[Me];exact Rp.mpr (p2.imp fun h=>h)
  have hout:out=(out.map fun v=>((Bc v,Nf qs (Bc v)):Xd)).map fun t=>Value.ref t.1:=by
   rw[Me];have:out.map ((fun(t:Xd)=>Value.ref t.1)∘fun v=>((Bc v,Nf qs (Bc v)):Xd))=out.map id:=Om fun u hu=>by
    obtain⟨t,ht,rfl⟩:=ho u hu;rfl
   rw[this,SE]
  generalize (out.map fun v=>((Bc v,Nf qs (Bc v)):Xd))=zs at hp' hup hout;have I1:Da X Za σ (upd H D (.lst (zs.map fun t=>V.ref t.1))) { s with heap:=h',toks:=tk }:=by
   refine I.laid (t':=tk) k hD ⟨?_,_,c, ?_,e⟩
   ·rw[Lb,hp'.length_eq,hql];exact Ek hz0
   ·rw[hout];exact R4 zs
  exact⟨.ref D,_,I1,rfl,q D (I.hok.fresh hD) zs (fun t ht=>hq3 t (hp'.mem_iff.mp ht)) (by rw[<- hq2];exact hp'.map _) hup⟩
end
open Classical in
def OA(xs:LI5):Rr PV:=if h:∃(ts:LI1) (p:Option Ja) (ys:LI5),xs=[.box p (.dt (ts.map fun t=>t.map Sum.inl)) ys]/\ys.length=ts.length/\Mw ts then newF ((Bi h.choose).map Qb) else .bad
theorem Zkn{ts:LI1}{p:Option Ja}{ys:LI5}(hl:ys.length=ts.length)(h:Mw ts):OA [.box p (.dt (ts.map fun t=>t.map Sum.inl)) ys]=newF ((Bi ts).map Qb):=by
 have hex:∃(us:LI1) (p':Option Ja) (ys':LI5),[PV.box p (.dt (ts.map fun t=>t.map Sum.inl)) ys]=[.box p' (.dt (us.map fun t=>t.map Sum.inl)) ys']/\ys'.length=us.length/\Mw us:=⟨ts,p,ys,rfl,hl,h⟩
 unfold OA;rw[Rm hex];obtain⟨p',ys',e,_⟩:=hex.choose_spec;have e2:ts.map (fun t=>t.map (Sum.inl:Int->Sb))=hex.choose.map fun t=>t.map Sum.inl:=by
  have:=(List.cons.inj e).1;injection this with _ a2 _;injection a2
 have:∀{a b:LI1},(a.map fun t=>t.map (Sum.inl:Int->Sb))=(b.map fun t=>t.map Sum.inl)->a=b:=fun {a b} h=>(Sz fun x y h=>(Sz fun x y h=>Sum.inl.inj h).mp h).mp h;rw[<- this e2]
section
variable {K:ZmM}{EX:PX->Hp->Prop}{Γ Γ':List Md}{ta:TA}{fa:LI5->Rr LI5}
theorem Zfz(ha:Ge K EX Γ Γ' ta fa):DE K EX Γ Γ' .F (Ci Zac ta) (fun ρ=>(fa ρ).bind OA):=fun B H0 H σ ρ F R Q A d=>by
 refine ha B H0 H σ ρ F R _ A (d.bind.imp (fun xs _ d vs H1 F1 s1 f1 p1 A1=>?_) fun e q=>q);unfold OA at d
 split at d
 ·rename_i hex
  have hs:=hex.choose_spec;generalize hex.choose=ts at d hs;obtain⟨p,ys,rfl,hl,hne,hz⟩:=hs;obtain⟨g1,g2,d⟩:=Dn.newF d;obtain⟨v,rfl,a,ws,u,rfl,⟨hr,_⟩,⟨_,hlz,rfl⟩,_⟩:=Ik p1;refine⟨a,_,ts,rfl,hr,List.map_fst_zip (by lia),hne,hz,fun l hz' zs hq hp hup=>?_⟩;have e:Bi ts=zs.map (·.2):=S5 (Ov _) hup ((Ql _).trans hp.symm);have pr:=HM (K:=K) (H:=H1) (S:=fun _=>True) (qs:=zs) fun t ht=>⟨t.1,_,rfl,⟨hq t ht,trivial⟩,Zal t.2⟩
  rw[<- e] at pr;exact d _ _ (s1.trans (Ia.new hz')) (Cc.newP s1 f1 pr g1 A1 hz')
 ·exact d.elim
end
end L2
namespace My
open PySem PySem.Spec PyProof.Rows L2
def rkQ(y:LI0×Int):PV:=.tup [Fc y.1,.int y.2]
end My
namespace L2
open PySem PySem.Spec PyProof.Rows
theorem ZlH{u:HO}(hu:VR u)(a:∀xs,u≠.tup xs)(b:∀o c,u≠.frz o (.own c)):False:=by
 cases u with
 |tup xs=>exact a _ rfl
 |frz o v =>
  cases v with
  |own c=>exact b _ _ rfl
  |_=>exact hu
 |_=>exact hu
section
variable {X:Cx}{Za:List (Ja×Obj)}{σ:St}{H:Hp}{s:Ha}
theorem Da.swapO{a:Ja}{u u':HO}(I:Da X Za σ H s)(ha:H a=some u)(n1:∀b,u≠.own b)(n2:∀xs,u≠.tup xs)(m1:∀xs,X.H₀ a≠some (.tup xs))(m2:∀o v,X.H₀ a≠some (.frz o v))(m3:∀ps w',X.H₀ a≠some (.tbl ps w'))(h0:∀o,X.s₀.heap.get? a=some o->X.H₀ a=none->a∈X.ex)(ok:Df X.prog X.w (upd H a u') s.heap a u')(n3:∀o b,u≠.frz o (.own b):=by intro _ _ z;cases z):Da X Za σ (upd H a u') s:=by
 have nn:∀{b},H b=none->b≠a:=fun {b} e z=>by rw[z,ha] at e;cases e
 refine⟨I.ok,I.os,I.bare,⟨I.base.keep,I.base.slot,fun b o q n hx=>?_,I.base.there,fun b xs q=>?_,fun b o v q=>?_,fun b ps w' q=>?_⟩,I.loc,I.cell, ?_,fun x c q=>?_,fun p hq=>?_,fun b v q=>?_,I.len⟩
 ·have e:=I.base.free b o q n hx
  rw[Ab (nn e)];exact e
 ·rw[Ab (fun z=>m1 xs (by rw[<- z];exact q))];exact I.base.tups b xs q
 ·rw[Ab (fun z=>m2 o v (by rw[<- z];exact q))];exact I.base.frzs b o v q
 ·rw[Ab (fun z=>m3 ps w' (by rw[<- z];exact q))];exact I.base.tbls b ps w' q
 ·rw[Ab (nn I.free)];exact I.free
 ·rw[Ab (nn (I.freeC x c q))];exact I.freeC x c q
 ·obtain⟨a1,b1,c1⟩:=I.pin p hq
  exact⟨a1,by rw[Ab (nn b1)];exact b1,c1⟩
 ·by_cases hb:b=a
  ·subst hb
   rw[Hd] at q;cases q;exact ok
  ·rw[Ab hb] at q
   refine(I.hok b v q).stay (fun c w' _ z=>z) (fun c z=>?_) fun c xs z=>?_
   ·rw[Ab (fun y=>by rw[y,ha] at z;cases z;exact n1 _ rfl)];exact z
   ·obtain⟨w',hw⟩:=xs
    rw[Ab (fun y=>by
     rw[y,ha] at z;have z:u=w':=Option.some.inj z;subst z;exact ZlH hw n2 n3)]
    exact z
end
section
variable {K:ZmM}{H:Hp}
mutual
theorem Pb.flat_nil:∀{x:PV}{v:V}{G:LI2},x.flat=true->Pb K H x v G->G=[]
 |.non,_,_,_,h=>h.2
 |.bl _,_,_,_,h=>h.2
 |.int _,_,_,_,h=>h.2
 |.str _,_,_,_,h=>h.2
 |.any,_,_,_,h=>h.2
 |.exc _,_,_,_,h=>h.2
 |.exa _ _,_,_,_,h=>h.2
 |.box _ _ _,_,_,f,_=>by simp[PV.flat] at f
 |.lst _,_,_,f,_=>by simp[PV.flat] at f
 |.tup xs,_,_,f,h=>by
  obtain⟨a,vs,rfl,ha,ht⟩:=h;exact Trees.flat_nil (by simpa[PV.flat] using f) ht
 |.fz xs,_,_,f,h=>by
  obtain⟨a,vs,rfl,ha,ht⟩:=h;exact Trees.flat_nil (by simpa[PV.flat] using f) ht
theorem Trees.flat_nil:∀{xs:LI5}{vs:List V}{G:LI2},PV.flats xs=true->Trees K H xs vs G->G=[]
 |[],_,_,_,h=>h.2
 |x::xs,_,_,f,h=>by
  obtain⟨v,r,G1,G2,rfl,h3,h4,hd,rfl⟩:=h;simp only[PV.flats,Bool.and_eq_true] at f;rw[Pb.flat_nil f.1 h3,Trees.flat_nil f.2 h4];rfl
end
end
theorem Zj4{F:Nat->LI2}{i:Nat}:Se F i (F i)=F:=by
 funext j;by_cases q:j=i
 ·subst q;exact Jf
 ·exact Ee q
section
variable {H:Hp}{F:Nat->LI2}{n:Str}{i:Nat}
theorem ZgB{q:Ja}{o:HO}(hq:q∈F i):Ec H F (upd H q o) F:=fun b u h n=>⟨by rw[Ab (fun z=>n i (by rw[z];exact hq))];exact h,n⟩
end
noncomputable def F3(a0 a1 a2:Ja):Nat->LI2
 |0=>[a0]
 |1=>[a1]
 |2=>[a2]
 |_=>[]
section
end
section
variable {K:ZmM}{Γ Γ1 Γ3:List Md}{k:Kd}
def pPopAt(x y:PV):Rr PV:=match x,y with
 |.lst xs,.int c=>if PV.flats xs=true/\0<=c/\c<xs.length/\xs.length<=1000000 then .ok (.lst (xs.eraseIdx c.toNat)) else .bad
 |_,_=>.bad
theorem Dn.pPopAt{x y:PV}{ok:PV->Prop}{ex:PX->Prop}(d:Dn (pPopAt x y) ok ex):∃xs c,x=.lst xs/\y=.int c/\(PV.flats xs=true/\0<=c/\c<xs.length/\xs.length<=1000000)/\ok (.lst (xs.eraseIdx c.toNat)):=by
 unfold L2.pPopAt at d
 split at d
 ·split at d
  ·rename_i hc
   exact⟨_,_,rfl,rfl,hc,d⟩
  ·exact d.elim
 ·exact d.elim
theorem Zgd{xs:LI5}(h:PV.flats xs=true)(n:Nat):PV.flats (xs.eraseIdx n)=true:=PV.flats_all.mpr fun x hx=>PV.flats_all.mp h x (List.mem_of_mem_eraseIdx hx)
theorem Zao{H:Hp}{S:Ja->Prop}:∀{xs:LI5}{vs:List V} (n:Nat),Reps K H S xs vs->Reps K H S (xs.eraseIdx n) (vs.eraseIdx n)
 |[],_,n,h=>by cases h;exact rfl
 |x::xs,_,0,⟨v,r,rfl,h1,h2⟩=>h2
 |x::xs,_,n+1,⟨v,r,rfl,h1,h2⟩=>⟨v,_,rfl,h1,Zao n h2⟩
variable {EX:PX->Hp->Prop}
theorem ZfG{i:Nat}{te:TE}{f:LI5->Rr PV}(hm:Γ[i]?=some .O)(he:DE K EX Γ Γ .P te f) :
  DS K EX Γ ⟨Γ,Γ1,Γ3,k⟩ (HD (HN K "list" XZ (Wg i) (Di te Rj))) (fun ρ=>(asL (gv i ρ)).thenS fun xs=>(f ρ).thenS fun y=>(pPopAt (.lst xs) y).thenS fun z=>.next (ρ.set i z)):=fun B H0 H σ ρ F D A d=>by
 obtain⟨v,h1,h2⟩:=A.getO hm;refine⟨v,h1, ?_⟩;obtain⟨xs,e1,d⟩:=Dn.asL d.thenS;rw[show ρ.getD i .non=.lst xs from e1] at h2;obtain⟨a,vs,G,rfl,hH,ht,hn,hF⟩:=h2;refine⟨.inl ⟨rfl,_,Uc.of hH⟩,he B H0 H σ ρ F [] _ A (d.thenS.imp (fun y _ d w H2 s2 r2=>?_) fun e q=>q)⟩;obtain⟨F2,f2,yf,y1,A2⟩:=r2;obtain⟨xs',c,ex,ey,⟨c1,c2,c3,c4⟩,d2⟩:=Dn.pPopAt d.thenS;cases ex;subst ey;cases y1;obtain⟨v',h1',h2'⟩:=A2.getO hm;rw[h1] at h1';cases h1';rw[show ρ.getD i .non=.lst xs from e1] at h2';obtain⟨a',vs',G',e,hH',Ad,hn',hF'⟩:=h2';cases e;have hG:=Trees.flat_nil c1 Ad;subst hG;have hr:Reps K H2 (fun _=>True) xs vs':=Ad.reps fun _ _=>trivial;have hl:=hr.length;have hk:c.toNat<vs'.length:=by lia
 refine⟨a,vs',c,c.toNat,_,rfl,rfl,hH',by lia,by lia, ?_,Rc hk, ?_⟩
 ·exact(KJ (by unfold Lj;rw[Ba c2,Ba (by lia)])).1
 ·have haF:a∈F2 i:=by rw[hF'];simp
  have AC:=Ag.chg (G:=[]) (G':=F2 i) (R:=[]) (x':=.lst (xs.eraseIdx c.toNat)) (vs':=vs'.eraseIdx c.toNat) A2 hm haF (fun b hb=>.inl hb) (by simp) ⟨_,h1,a,_,[],rfl,Hd,((Zao c.toNat hr).trees (Zgd c1 _)).put hH' (by simp),by simp,hF'⟩;rw[Zj4] at AC;exact d2 σ _ F2 ((Ec.of s2 f2).trans (ZgB haF)) AC
end
end L2
namespace My
open PySem PySem.Spec PyProof.Rows L2
def Dp(L:LI0):Nat:=((List.range (L.length+1)).find? fun(k:Nat)=>decide ((k:Int) ∉ L)).getD 0
theorem ZaF:∀(A L:LI0),A.Nodup->(∀x∈A,x∈L)->A.length<=L.length
 |[],_,_,_=>Og _
 |a::A,L,nd,h=>by
  obtain⟨n1,n2⟩:=Lr.mp nd;have ih:=ZaF A (L.erase a) n2 fun x hx=>(List.mem_erase_of_ne (fun z=>n1 (by rw[<- z];exact hx))).mpr (h x (Fi _ hx));have h1:=List.length_erase_of_mem (h a (Tl ..));have h2:=List.length_pos_of_mem (h a (Tl ..));rw[Dh];lia
theorem SX(L:LI0):((Dp L:Nat):Int) ∉ L/\Dp L<=L.length/\∀k:Nat,k<Dp L->(k:Int)∈L:=by
 unfold Dp;cases hf:(List.range (L.length+1)).find? fun(k:Nat)=>decide ((k:Int) ∉ L) with
 |none =>
  exfalso;have hn:=ME.mp hf;have hall:∀k:Nat,k<L.length+1->(k:Int)∈L:=fun k hk=>by
   have:=hn k (Qg.mpr hk);apply Classical.byContradiction;intro z;exact this (Hb z)
  have h1:((List.range (L.length+1)).map fun(k:Nat)=>(k:Int)).length<=L.length:=by
   refine ZaF _ _ ?_ ?_
   ·rw[Tz,Rp]
    exact(Tz.mp List.nodup_range).imp fun h z=>h (by lia)
   ·intro x hx
    obtain⟨k,hk,rfl⟩:=Ze.mp hx;exact hall k (Qg.mp hk)
  rw[Lb,A6] at h1;lia
 |some k =>
  obtain⟨a,b,c⟩:=PU hf;rw[Vw];refine⟨Wi a,by lia,fun j hj=>?_⟩;have:=c j hj;apply Classical.byContradiction;intro z;rw[Hb z] at this;cases this
def gM(L:LI0):Int:=Dp L
def Vc(P x:LI0):Int:=Pv gM P x
theorem UO(P x:LI0):0<=Vc P x:=by
 unfold Vc Pv;exact Zbx (fun L _=>by unfold gM;lia) P _ x
theorem Bg.wt{n:Nat}{s:Int}{l b:LI0}(h:Bg n s l b):Vc (Pa n l) b=gM ((Yd (Pa n l) b).map fun y=>Vc (Pa n l) y.2):=h.val gM (h.mem.mpr .refl)
def JE(P x:LI0):PV:=rkQ (x,Vc P x)
structure Stk(P b:LI0)(M S:LI1):Prop where
 nd:M.Nodup
 re:∀x∈M,Wh P b x
 b0:b∈M
 ns:S.Nodup
 sub:∀x∈S,x∈M
 cl:∀x∈M,x ∉ S->∀y∈Yd P x,y.2∈M
structure Stj(P b x:LI0)(L:List (Int×LI0))(M S:LI1):Prop where
 nd:M.Nodup
 re:∀z∈M,Wh P b z
 b0:b∈M
 xM:x∈M
 ns:S.Nodup
 sub:∀z∈S,z∈M/\z≠x
 cl:∀z∈M,z ∉ S->z≠x->∀y∈Yd P z,y.2∈M
 got:∀y∈L,y.2∈M
end My
namespace L2
theorem JS:(10:Nat)^61<2^60000:=by
 calc (10:Nat)^61<=(2^4)^61:=QP (by decide) _
  _=2^244:=by rw[<- Nat.pow_mul]
  _<2^60000:=CP (by decide) (by decide)
end L2
namespace L2
open PySem PySem.Spec PyProof.Rows
noncomputable def WF(a:Ja)(o:Obj)(Ra:List (List Sb×V)):It:=
 ⟨fun i H=>H a=some (.frz o (.dT Ra))/\i<Ra.length,fun i H x H'=>H'=H/\∃k v b,Ra[i]?=some (k,v)/\x=.ref b/\H b=some (.tup (k.map kV)),fun i H=>H a=some (.frz o (.dT Ra))/\Ra.length<=i⟩
theorem Zmb{P:Qc}{w:Xb}{K:ZmM}{tg:Expr}(a it:Ja)(o:Obj)(Ra:List (List Sb×V)){es:Array DictEntry}{ep:Nat}(hd:o.data=.dict es ep):Eu P w K tg (WF a o Ra) [it] it (fun i h=>h.IsKeyIter it a i Ra.length ep) where
 mem:=by simp
 obj:=fun i h st b hb=>by
  have e:b=it:=by simpa using hb
  subst e;obtain⟨o,e,c,d⟩:=st;exact⟨o,e,fun v z=>by rw[d] at z;cases z⟩
 keep:=fun i h h' st k=>st.at fun o e=>k it (by simp) o e
 item:=by
  intro X hP hw hK hc i Za s σ H E I hf st hg;subst hP hw hK;obtain⟨hH,hi⟩:=hg;obtain⟨ho,hz,hs,xs,rv,o',es',ep',e1,e2,e3,e4,e5⟩:=I.hok a _ hH;rw[ho] at e1;cases e1;rw[hd] at e3;cases e3;obtain⟨g1,g2⟩:=Px rv;have hes:es.size=Ra.length:=by rw[<- Gf,e4,Lb,g1]
  obtain⟨b,u,hb,hHb⟩:=g2 i Ra[i].1 Ra[i].2 (Rc hi);have hkey:es[i].key=.ref b:=by
   have h1:es.toList[i]?=some es[i]:=by rw[Ah,AE (by lia)]
   rw[e4,Cd,hb] at h1;rw[<- Option.some.inj h1];rfl
  obtain⟨f0,f1,f2,f3,f4,f5⟩:=hf it (by simp);rw[<- hes] at st;refine Zag st ⟨o,ho,e2,hd⟩ (by lia) fun h' Ca sb=>?_;have I1:Da X Za σ H { s with heap:=h' }:=I.turned (t':=s.toks) (fun b o hb e=>(sb.2 b hb).trans e) f0 f1 f3 f4 f5;obtain⟨o2,q2,c2,d2⟩:=id Ca;rw[hes] at Ca;exact⟨es[i].key,rfl,Z9 (s:={ s with heap:=h' }) q2 c2 d2 (by decide) ⟨.ref b,H,I1,by rw[hkey];rfl,⟨rfl,_,_,b,Rc hi,rfl,hHb⟩,Ca,fun b hb=>(hf b hb).1⟩⟩
 done:=by
  intro X hP hw hK hc i Za s σ H E I hf st hg;subst hP hw hK;obtain⟨hH,hi⟩:=hg;obtain⟨ho,hz,hs,xs,rv,o',es',ep',e1,e2,e3,e4,e5⟩:=I.hok a _ hH;rw[ho] at e1;cases e1;rw[hd] at e3;cases e3;obtain⟨g1,g2⟩:=Px rv;have hes:es.size=Ra.length:=by rw[<- Gf,e4,Lb,g1]
  obtain⟨f0,f1,f2,f3,f4,f5⟩:=hf it (by simp);rw[<- hes] at st;exact Zaf (I.ok.hd hc) (by lia) st ⟨o,ho,e2,hd⟩ fun h' eb=>⟨rfl,I.turned (t':=s.toks) (fun b o hb e=>eb b o hb e) f0 f1 f3 f4 f5⟩
 self:=fun _ _ _ _ _ st h=>wpAny_pyIter_keyiter st h
def Zh3(tl:TE):TI:=fun σ H R=>tl σ H fun x H1=>∃a o Ra,x=.ref a/\H1 a=some (.frz o (.dT Ra))/\R (WF a o Ra) H1
section
variable {X:Cx}{tg:Expr}
theorem ZkF{l:Expr}{tl:TE}(hl:PE X l tl):PI X tg l (Zh3 tl):=by
 intro Za s σ H R I h;refine Db (hl Za s σ H _ I h) fun v s1 ⟨x,H1,I1,r1,a,o,Ra,e,hH,q⟩=>?_;subst e;cases r1;obtain⟨ho,hz,hs,xs,rv,o',es,ep,e1,e2,e3,e4,e5⟩:=I1.hok a _ hH;rw[ho] at e1;cases e1;obtain⟨g1,g2⟩:=Px rv;have hes:es.size=Ra.length:=by rw[<- Gf,e4,Lb,g1]
 refine Zah hs ⟨o,ho,e2,e3⟩ ?_;refine⟨s1.heap.objs.size,[s1.heap.objs.size],_,_,H1,rfl,I1.kept (t':=s1.toks) fun b o e=>Heap.get?_push_of_some _ e,Zmb a _ o Ra e3,⟨_,Heap.get?_push_size _ rfl,rfl,by rw[<- hes];rfl⟩,fun b hb=>?_,q⟩;have e:b=s1.heap.objs.size:=by simpa using hb
 subst e;exact I1.fpOk (Cb _) (I1.hok.fresh (Cb _))
theorem DY{P:Qc}{w:Xb}{H:Hp}{h:Heap}{a:Ja}{u v:HO}(x:Df P w H h a v)(n1:∀c,H a=some (.own c)->False)(n2:∀(c:Ja) (w':TF),H a=some w'.1->False):Df P w (upd H a u) h a v:=
 x.stay (fun c w' _ z=>z) (fun c z=>by
  rw[Ab (fun y=>by rw[y] at z;exact n1 _ z)];exact z) fun c xs z=>by
  rw[Ab (fun y=>by rw[y] at z;exact n2 c xs z)];exact z
def ZaU(i:Nat)(te:TE):TE:=fun σ H Q=>∃a Ra,σ[i]?=some (some (.ref a))/\H a=some (.dT Ra)/\∀o,te σ (upd H a (.frz o (.dT Ra))) fun v H2=>H2 a=some (.frz o (.dT Ra))/\Q v (upd H2 a (.dT Ra))
theorem Zk7{i:Nat}{e:Expr}{te:TE}(he:PE X e te):PE X e (ZaU i te):=by
 intro Za s σ H Q I ⟨a,Ra,hσ,ha,h⟩;have ok0:Df X.prog X.w H s.heap a (.dT Ra):=I.hok a _ ha;obtain⟨o,ho⟩:=ok0.there;have m1:∀xs,X.H₀ a≠some (.tup xs):=fun xs z=>by have:=I.base.tups a xs z;rw[ha] at this;cases this
 have m2:∀o v,X.H₀ a≠some (.frz o v):=fun o v z=>by have:=I.base.frzs a o v z;rw[ha] at this;cases this
 have m3:∀ps w',X.H₀ a≠some (.tbl ps w'):=fun ps w' z=>by have this:=I.base.tbls a ps w' z;rw[ha] at this;cases this
 have h0:∀o,X.s₀.heap.get? a=some o->X.H₀ a=none->a∈X.ex:=fun o q n=>by
  by_cases hx:a∈X.ex
  ·exact hx
  ·have:=I.base.free a o q n hx;rw[ha] at this;cases this
 have I1:=I.swapO (u':=.frz o (.dT Ra)) ha (fun _ z=>by cases z) (fun _ z=>by cases z) m1 m2 m3 h0 ⟨ho,DY ok0 (fun c z=>by rw[z] at ha;cases ha) (fun c xs z=>by have h:=xs.2;rw[Option.some.inj (z.symm.trans ha)] at h;exact h)⟩;refine Db (he Za s σ _ _ I1 (h o)) fun v s1 ⟨x,H2,I2,r,hH,q⟩=>⟨x,_, ?_,r,q⟩
 have ok2:=(I2.hok a _ hH).2;exact I2.swapO hH (fun _ z=>by cases z) (fun _ z=>by cases z) m1 m2 m3 h0 (DY ok2 (fun c z=>by rw[z] at hH;cases hH) (fun c xs z=>by have h:=xs.2;rw[Option.some.inj (z.symm.trans hH)] at h;exact h))
end
section
variable {K:ZmM}{H H':Hp}
mutual
theorem Pb.monoN:∀{x:PV}{v:V}{F:LI2},(∀a∈F,∀o,H a=some o->H' a=some o)->(∀a vs,(∀o Ra,vs≠.frz o (.dT Ra))->Im K H a vs->Im K H' a vs)->Pb K H x v F->Pb K H' x v F
 |.non,_,_,_,_,h=>h
 |.bl _,_,_,_,_,h=>h
 |.int _,_,_,_,_,h=>h
 |.str _,_,_,_,_,h=>h
 |.any,_,_,_,_,h=>h
 |.exc n,_,_,_,h2,h=>let ⟨⟨a,o,C,e1,e2,e3⟩,e4⟩:=h;⟨⟨a,o,C,e1,h2 a _ (fun _ _ z=>by cases z) e2,e3⟩,e4⟩
 |.exa n i,_,_,_,h2,h=>let ⟨⟨a,o,C,d,fs,e1,e2,e2',e3⟩,e4⟩:=h;⟨⟨a,o,C,d,fs,e1,h2 a _ (fun _ _ z=>by cases z) e2,h2 d _ (fun _ _ z=>by cases z) e2',e3⟩,e4⟩
 |.box p s xs,_,_,h1,h2,h=>by
  obtain⟨a,vs,u,G,rfl,ha,hb,ht,hn,rfl⟩:=h;exact⟨a,vs,u,G,rfl,h1 a (by simp) _ ha,hb,Trees.monoN (fun b hb o e=>h1 b (by simp[hb]) o e) h2 ht,hn,rfl⟩
 |.lst xs,_,_,h1,h2,h=>by
  obtain⟨a,vs,G,rfl,ha,ht,hn,rfl⟩:=h;exact⟨a,vs,G,rfl,h1 a (by simp) _ ha,Trees.monoN (fun b hb o e=>h1 b (by simp[hb]) o e) h2 ht,hn,rfl⟩
 |.tup xs,_,_,h1,h2,h=>by
  obtain⟨a,vs,rfl,ha,ht⟩:=h;exact⟨a,vs,rfl,h2 a _ (fun _ _ z=>by cases z) ha,Trees.monoN h1 h2 ht⟩
 |.fz xs,_,_,h1,h2,h=>by
  obtain⟨a,vs,rfl,⟨o,ha⟩,ht⟩:=h;exact⟨a,vs,rfl,⟨o,h2 a _ (fun _ _ z=>by cases z) ha⟩,Trees.monoN h1 h2 ht⟩
theorem Trees.monoN:∀{xs:LI5}{vs:List V}{F:LI2},(∀a∈F,∀o,H a=some o->H' a=some o)->(∀a vs,(∀o Ra,vs≠.frz o (.dT Ra))->Im K H a vs->Im K H' a vs)->Trees K H xs vs F->Trees K H' xs vs F
 |[],_,_,_,_,h=>h
 |x::xs,_,_,h1,h2,h=>by
  obtain⟨v,r,G1,G2,rfl,h3,h4,hd,rfl⟩:=h;exact⟨v,r,G1,G2,rfl,Pb.monoN (fun b hb o e=>h1 b (by simp[hb]) o e) h2 h3,Trees.monoN (fun b hb o e=>h1 b (by simp[hb]) o e) h2 h4,hd,rfl⟩
end
end
noncomputable def Tr(x:PV):Rr LI5:=match x with
 |.box _ (.dt ks) xs=>if ks.length=xs.length then .ok (ks.map fun k=>.tup (k.map Dk)) else .bad
 |_=>.bad
def wiT(i:Nat)(a:Ja)(o:Obj)(Ra:List (List Sb×V)):TI:=fun σ H R=>σ[i]?=some (some (.ref a))->H a=some (.frz o (.dT Ra))->R (WF a o Ra) H
section
variable {K:ZmM}{EX:PX->Hp->Prop}{Γ:List Md}
theorem ZfB{i:Nat}{a:Ja}{o:Obj}{Ra:List (List Sb×V)}(hm:Γ[i]?=some .S):Q1 K EX Γ Γ (wiT i a o Ra) (fun ρ=>Tr (gv i ρ)):=fun B H0 H σ ρ F R Q A d hσ hH=>by
 have sl:=A.slot i;rw[Bb,hm] at sl;obtain⟨_,v,hv,rp⟩:=(show F i=[]/\∃v,σ[i]?=some (some v)/\Ya K H (NO B F R) (ρ.getD i .non) v from sl)
 rw[hσ] at hv;cases hv;have d:Dn (Tr (ρ.getD i .non)) _ _:=d;unfold Tr at d
 split at d
 ·rename_i p ks xs hx
  rw[hx] at rp
  split at d
  ·rename_i hl
   obtain⟨a',vs,u,ea,⟨rd,_⟩,⟨_,hz,hu⟩,rr⟩:=rp;cases ea;subst hu;have ek:Ra=ks.zip vs:=by
    rcases rd with z|⟨o',z⟩
    ·rw[hH] at z;cases z
    ·rw[hH] at z;cases z;rfl
   subst ek;refine d _ H F (Ia.refl _) (fun _ _ h=>h) A fun H2 F2 s2 f2=>?_;have hH2:=s2 _ _ hH;have hln:(ks.zip vs).length=ks.length:=by rw[Yv,hz,QF]
   intro j;refine⟨fun x hx=>?_,fun hx=>⟨hH2, ?_⟩⟩
   ·rw[Cd] at hx
    obtain⟨k,hk,rfl⟩:=BF.mp hx;have hj:=(Pd.mp hk).1;refine⟨⟨hH2,by lia⟩,fun v H' ⟨e1,k',v',b',e2,e3,e5⟩=>?_⟩;subst e1 e3;refine⟨Ia.refl _, ?_⟩;have e4:k'=k:=by
     rw[Wv] at e2;rw[hk] at e2;exact(Option.some.inj e2.1).symm
    subst e4;exact⟨b',_,rfl,⟨e5,trivial⟩,FB k'⟩
   ·rw[Cd,Option.map_eq_none_iff,Kt] at hx
    lia
  ·exact d.elim
 ·exact d.elim
theorem Zfp{i:Nat}{te:TE}{te':Ja->Obj->List (List Sb×V)->TE}{f:LI5->Rr PV}(hm:Γ[i]?=some .O)(hno:NK (Γ.set i .S)=true)(he:∀a o Ra,DE K EX (Γ.set i .S) (Γ.set i .S) .F (te' a o Ra) f)(hmono:∀a o Ra (σ:St) (H:Hp) (Q:VK),σ[i]?=some (some (.ref a))->H a=some (.frz o (.dT Ra))->te' a o Ra σ H Q->te σ H Q) :
  DE K EX Γ Γ .F (ZaU i te) (fun ρ=>(Tr (gv i ρ)).bind fun _=>f ρ):=fun B H0 H σ ρ F R Q A d=>by
 obtain⟨v,hσ,tr⟩:=A.getO hm;have d1:=d.bind;have d1:Dn (Tr (ρ.getD i .non)) _ _:=d1;unfold Tr at d1
 split at d1
 ·rename_i p ks xs hx
  split at d1
  ·rename_i hl
   have tr0:=tr;rw[hx] at tr;obtain⟨a,vs,u,G,rfl,hH,⟨hp,hz,rfl⟩,ht,hn,hF⟩:=tr;refine⟨a,_,hσ,hH,fun o=>hmono a o _ σ _ _ hσ Hd ?_⟩;have haF:a∈F i:=by rw[hF];simp
   have hi:i<Γ.length:=(Pd.mp hm).1;have gen:∀j,(Γ.set i .S).getD j .U=if j=i then .S else Γ.getD j .U:=fun j=>by
    by_cases hj:j=i
    ·subst hj;rw[Ba rfl,Bb,Fj hi];rfl
    ·rw[Aa hj,Bb,Il (Ne.symm hj),<- Bb]
   have hFj:∀j,j≠i->F j=[]:=fun j hj=>by
    have sl:=A.slot j;by_cases hjl:j<Γ.length
    ·have hmm:=Hg.mp hno ((Γ.set i .S)[j]'(by simpa using hjl)) (Mt _)
     rw[List.getElem_set_ne (Ne.symm hj)] at hmm;have e2:Γ.getD j .U=Γ[j]:=by rw[Bb,Rc hjl];rfl
     rw[e2] at sl;simp only[Bool.or_eq_true,beq_iff_eq] at hmm;rcases hmm with (z|z)|z
     ·rw[z] at sl;exact sl
     ·rw[z] at sl;exact sl.1
     ·rw[z] at sl;exact sl.1
    ·have e2:Γ.getD j .U=.U:=by rw[Bb,Ch (by lia)];rfl
     rw[e2] at sl;exact sl
   have ha0:H0 a=none:=A.young i a haF;have hRa:a ∉ R:=A.disjR i a haF;have s0:Ia H0 (upd H a (.frz o (.dT (ks.zip vs)))):=fun b w' hb=>by
    rw[Ab (fun z=>by rw[z,ha0] at hb;cases hb)];exact A.same b w' hb
   have imne:∀b u,Im K H b u->Im K (upd H a (.frz o (.dT (ks.zip vs)))) b u:=fun b u ⟨h1,h2⟩=>by
    have nb:b≠a:=fun z=>by rw[z,hH] at h1;cases h1;exact h2
    exact⟨by rw[Ab nb];exact h1,h2⟩
   have gne:∀b∈G,b∈F i:=fun b hb=>by rw[hF];simp[hb]
   have rp0:Ya K H (fun b=>b∈F i) (ρ.getD i .non) (.ref a):=tr0.rep fun b hb=>hb;have A2:Ag K B H0 (upd H a (.frz o (.dT (ks.zip vs)))) σ (Γ.set i .S) ρ (fun _=>[]) R:=by
    refine⟨s0,A.own,fun j b hb=>by simp at hb,A.youngR,fun j b hb=>by simp at hb,fun b hb=>?_,fun j k _ b hb=>by simp at hb,fun j b hb=>by simp at hb,by simpa using A.lenS,by simpa using A.lenR,fun j=>?_⟩
    ·obtain⟨w',z⟩:=A.liveR b hb
     exact⟨w',by rw[Ab (fun y=>hRa (by rw[<- y];exact hb))];exact z⟩
    ·rw[gen j]
     by_cases hj:j=i
     ·subst hj
      rw[Ba rfl];refine⟨rfl,_,hσ,Ya.mono (fun b w' hb r=>?_) imne rp0⟩;have bR:b ∉ R:=A.disjR j b hb;refine⟨?_,A.own b (A.young j b hb),bR,fun k z=>by simp at z⟩;by_cases hb2:b=a
      ·subst hb2
       rcases r with z|⟨o',z⟩
       ·rw[hH] at z;cases z
        exact .inr ⟨o,Hd⟩
       ·rw[hH] at z;cases z
      ·rcases r with z|⟨o',z⟩
       ·exact .inl (by rw[Ab hb2];exact z)
       ·exact .inr ⟨o',by rw[Ab hb2];exact z⟩
     ·rw[Aa hj]
      have sl:=A.slot j;rw[hFj j hj] at sl;refine sl.mono (fun b w' hb r=>?_) imne (fun b hb=>by simp at hb);have nb:b≠a:=fun z=>hb.2.2 i (by rw[z];exact haF);refine⟨?_,hb.1,hb.2.1,fun k z=>by simp at z⟩;rcases r with z|⟨o',z⟩
      ·exact .inl (by rw[Ab nb];exact z)
      ·exact .inr ⟨o',by rw[Ab nb];exact z⟩
   refine he a o _ B H0 _ σ ρ _ R _ A2 ((show Dn (f ρ) _ _ from d1).imp (fun x _ dx y H2 s2 r2=>?_) fun e q=>q);have hH2:=s2 _ _ (Hd (H:=H) (a:=a));refine⟨hH2, ?_⟩;obtain⟨F1,f1,G2,t2,o2,A1⟩:=r2;have fr0:∀b∈G2,b≠a/\H b=none:=fun b hb=>by
    rcases (o2 b hb).2 with q|⟨j,q⟩
    ·have nb:b≠a:=fun z=>by rw[z,Hd] at q;cases q
     rw[Ab nb] at q;exact⟨nb,q⟩
    ·simp at q
   have s3:Ia H (upd H2 a (.dT (ks.zip vs))):=fun b w' hb=>by
    by_cases hb2:b=a
    ·subst hb2;rw[hH] at hb;cases hb;exact Hd
    ·rw[Ab hb2];exact s2 b w' (by rw[Ab hb2];exact hb)
   have t3:Pb K (upd H2 a (.dT (ks.zip vs))) x y G2:=t2.monoN (fun b hb o' ho=>by rw[Ab (fr0 b hb).1];exact ho) fun b u nf ⟨h1,h2⟩=>by
    have nb:b≠a:=fun z=>by rw[z,hH2] at h1;cases h1;exact nf _ _ rfl
    exact⟨by rw[Ab nb];exact h1,h2⟩
   exact dx _ _ s3 ⟨F,fun _ _ h=>h,G2,t3,fun b hb=>⟨(o2 b hb).1,.inl (fr0 b hb).2⟩,A.more s3 (fun b hb=>(fr0 b hb).2) t3.alive⟩
  ·exact d1.elim
 ·exact d1.elim
end
end L2
namespace HL
open PySem PyProof.Rows
section
open PySem.SeqAt
open PySem.AutoSeq1 (wpAny_loadPart')
open PySem.MeetsSeq PySem.MeetsSeq2 PySem.MeetsSeq3 SeqRoads2
end
end HL
namespace L2
open PySem PySem.Spec PyProof.Rows
section
end
end L2
namespace HL
open PySem PyProof.Rows
section
open PySem.AutoSeq1 (wpAny_loadPart')
theorem Zji{p:Ja}{xs:Array Va}{m:Nat}{x:Int}{u:Tok}{d1:Option Ja}{l1:Array (Option Va)}(h0:¬(!Builtin.List.listFitsIndex x)=true)(h1:¬xs.size*x.toNat>(2^63-1)/8)(h2:¬Builtin.List.listTooLong (xs.size*x.toNat)=true) :
  Meets (Builtin.«list.__mul__» ⟨[.ref p,.int x u],[]⟩) (fun _ R s=>s.heap.get? p=some ⟨.type "list",d1,.seq xs m,l1⟩ /\
   R (.ok (.ret (.ref s.heap.objs.size))) { s with heap:=s.heap.push { cls:=.type "list",data:=.seq (List.foldl (fun a b=>a++b) #[] (List.replicate (if xs.isEmpty=true then 0 else x.toNat) xs)) },toks:=s.toks }):=.of_wp fun prog w A R s h=>by
 obtain⟨hh,g,d,tk,os⟩:=s;obtain⟨hp,h⟩:=h;have hz:=PySem.AutoListH.joined_fits h2;wp_walk using wpAny_loadPart' hp;refine wpAny_ite_false (Tb (J0.mpr hz)) ?_;wp_walk;exact⟨_,rfl,h⟩
theorem Zld{p:Ja}{xs:Array Va}{m:Nat}{x:Int}{u:Tok}{d1:Option Ja}{l1:Array (Option Va)} :
  Meets (Builtin.«int.__rmul__» ⟨[.int x u,.ref p],[]⟩) (fun _ R s=>s.heap.get? p=some ⟨.type "list",d1,.seq xs m,l1⟩/\R (.ok (.ret .notImplemented)) s):=.of_wp fun prog w A R s h=>by
 obtain⟨hh,g,d,tk,os⟩:=s;obtain⟨hp,h⟩:=h;wp_walk;exact⟨_,rfl,h⟩
end
end HL
namespace L2
open PySem PySem.Spec PyProof.Rows
section
variable {X:Cx}{K:ZmM}
def Zaa(K:ZmM):R2:=fun x y H Q=>∃l k xs,x=.ref l/\y=.int k/\Uc K H l xs/\(-(2^63)<=k/\k<2^63)/\xs.length*k.toNat<=Rb/\∀p,H p=none->Q (.ref p) (upd H p (.lst (List.replicate k.toNat xs).flatten))
theorem ZkY(l:LI3)(k:Nat):List.foldl (fun a b=>a++b) #[] (List.replicate (if l.toArray.isEmpty=true then 0 else k) l.toArray)=(List.replicate k l).flatten.toArray:=by
 cases l with
 |nil=>simp
 |cons v l =>
  rw[Aa (by simp)];simpa using JJ (v::l) k []
theorem Zj1(e:X.K=K:=by rfl):Cg X (Wp .Mult) (Zaa K):=by
 subst e;intro Za s σ H x y v u Q I rx ry h;obtain⟨l,k,xs,rfl,rfl,hS,hk,hz,q⟩:=h;cases rx;obtain⟨t,rfl⟩:=ry;obtain⟨its,r,pl,_⟩:=I.list hS;obtain⟨⟨c,d,b,sl⟩,e,hc,n,hd⟩:=pl.isList;simp only at hc hd;subst hc hd;have hz':its.toArray.size*k.toNat<=Rb:=by
  rw[Ld,<- r.length];exact hz
 have hl:(Rb:Nat)<=(2^63-1)/8:=by decide
 refine ZbO (T := "list") (U := "int") (by decide) ⟨_,e,rfl⟩ (fun z=>typeIs_int z k t) noFill_list_mul F.fills_int_mul F.slot_int_rmul repeat_list F.slot_int_index.lookup ?_;refine Q0 F.slot_int_rmul (typeIs_int s k t) F.entry_int_rmul (F.args_int_rmul_2 _ _) HL.Zld ⟨e,rfl,⟨_,e,rfl⟩, ?_⟩;refine Q0 F.slot_list_mul ⟨_,e,rfl⟩ F.entry_list_mul (F.args_list_mul_2 _ _) (HL.Zji (by rw[fitsIndex_both hk.1 hk.2];decide) (by lia) (by rw[ZY hz'];decide)) ⟨e, ?_⟩;rw[ZkY];exact⟨.ref _,_,I.lnew (t':=s.toks) (r.rep k.toNat) (by rw[I9,Nat.mul_comm];exact hz),rfl,q _ I.fresh⟩
variable {EX:PX->Hp->Prop}{Γ Γ1 Γ2:List Md}{ta tb:TE}{fa fb:LI5->Rr PV}
theorem Zfy(ha:DE K EX Γ Γ1 .A ta fa)(hb:DE K EX Γ1 Γ2 .A tb fb):DE K EX Γ Γ2 .F (Ff (Zaa K) ta tb) (fun ρ=>(fa ρ).bind fun x=>(asL x).bind fun xs=>(fb ρ).bind fun y=>Ks xs y):=fun B H0 H σ ρ F R Q A d=>by
 refine ha B H0 H σ ρ F R _ A (d.bind.imp (fun x _ d v H1 s1 r1=>?_) fun e q=>q);obtain⟨F1,f1,p1,A1⟩:=r1;obtain⟨xs,ex,d2⟩:=Dn.asL d.bind;subst ex;have d:Dn ((fb ρ).bind fun y=>Ks xs y) _ _:=d2;obtain⟨p,vs,rfl,hn,hr⟩:=p1;refine hb B H0 H1 σ ρ F1 R _ A1 (d.bind.imp (fun y _ d w H2 s2 r2=>?_) fun e q=>q);obtain⟨F2,f2,p2,A2⟩:=r2;cases y with
 |int k =>
  cases p2;simp only[Ks] at d;by_cases h:xs.length*k.toNat<=1000000/\-(2^63)<=k/\k<2^63
  ·rw[Ba h] at d
   obtain⟨h1,h2,d⟩:=Dn.newF d;refine⟨p,k,vs,rfl,rfl,Vg (S:=fun _=>True) (hn.imp (fun z=>⟨z.1.same s2,trivial⟩) id),h.2,by rw[hr.length];exact Ek h.1,fun q hq=>?_⟩;exact d _ _ (s1.trans (s2.trans (Ia.new hq))) (Cc.newP (s1.trans s2) (fun i a ha=>f1 i a (f2 i a ha)) ((hr.same s2).rep k.toNat) h1 A2 hq)
  ·rw[Aa h] at d;exact d.elim
 |_=>exact d.elim
end
end L2
namespace My
open PySem L2
seal PE PT PA PS Yg DE DT Ge Fw DS
theorem EI{K:ZmM}{EX:_}{Γ:List Md}{i:Nat}(h:Γ[i]?=some .S):DE K EX Γ Γ .A (Wg i) (fun ρ=>.ok (gv i ρ)):=FI h (by decide)
noncomputable def Vd(i:Nat):Fb:=PySem.Challenge.pw_sowring_k32_hands_refuse.main.body.getD i (.Pass ⟨0,0,0,0⟩)
noncomputable abbrev SB:Fb:=Vd 54
local macro_rules | `(tactic| walk_at "sc")=>`(tactic| exact⟨rfl,rfl,rfl,by decide +kernel,rfl,by decide +kernel,by decide +kernel⟩)
theorem Lv:Gc ["script", "many", "found", "step", "k"] ["script", "many"] (Ob SB):=by walk_at "sc"
set_option hygiene false
local macro_rules | `(tactic| walk_at "b1")=>`(tactic| exact fun _ _ _ _ _ _ us hl=>by obtain⟨_,rfl⟩:=us1 hl;rfl)
local macro_rules | `(tactic| walk_at "b2")=>`(tactic| exact fun _ _ _ _ _ _ us hl=>by obtain⟨_,_,rfl⟩:=us2 hl;rfl)
local macro_rules | `(tactic| walk_at "b3")=>`(tactic| exact fun _ _ _ _ _ _ us hl=>by obtain⟨_,_,_,rfl⟩:=us3 hl;rfl)
local macro_rules | `(tactic| walk_at "b4")=>`(tactic| exact fun _ _ _ _ _ _ us hl=>by obtain⟨_,_,_,_,rfl⟩:=us4 hl;rfl)
set_option hygiene true
theorem Zdd:Qd "_law_numbers" SB ["script", "many"]:=by walk_at "b2"
abbrev RB:Fb:=Vd 55
theorem Kv:Gc ["script", "many", "found", "step", "k"] ["script", "many"] (Ob RB):=by walk_at "sc"
theorem Zdc:Qd "_law_large" RB ["script", "many"]:=by walk_at "b2"
abbrev KB:Fb:=Vd 56
theorem Yq:Gc ["numbers", "first", "way", "pits", "board", "k"] ["numbers", "first"] (Ob KB):=by walk_at "sc"
theorem ZcY:Qd "_law_board" KB ["numbers", "first"]:=by walk_at "b2"
noncomputable abbrev WB:Fb:=Vd 61
theorem Zlh:Gc ["barred", "fault", "number", "pits"] ["barred", "fault", "number", "pits"] (Ob WB):=by walk_at "sc"
theorem Zde:Qd "_law_spoilt_barred" WB ["barred", "fault", "number", "pits"]:=by walk_at "b4"
abbrev IB:Fb:=Vd 57
theorem QD:Gc ["numbers", "first", "pits", "barred", "pit"] ["numbers", "first", "pits"] (Ob IB):=by walk_at "sc"
theorem ZcX:Qd "_law_barred" IB ["numbers", "first", "pits"]:=by walk_at "b3"
abbrev OB:Fb:=Vd 62
theorem Zlg:Gc ["number", "far"] ["number", "far"] (Ob OB):=by walk_at "sc"
theorem Zdb:Qd "_law_how_many" OB ["number", "far"]:=by walk_at "b2"
noncomputable abbrev XB:Fb:=Vd 60
theorem PM:Gc ["board", "fault", "number", "far", "made", "at"] ["board", "fault", "number", "far"] (Ob XB):=by walk_at "sc"
theorem Zdf:Qd "_law_spoilt_board" XB ["board", "fault", "number", "far"]:=by walk_at "b4"
abbrev LB:Fb:=Vd 63
theorem Zr:Gc ["numbers", "large", "k", "board", "good", "faults", "pits", "number", "barred", "bad"] ["numbers", "large", "k"] (Ob LB):=by walk_at "sc"
theorem ZcZ:Qd "_law_built" LB ["numbers", "large", "k"]:=by walk_at "b3"
abbrev HC:Fb:=Vd 20
theorem Zln:Gc ["value"] ["value"] (Ob HC):=by walk_at "sc"
theorem Zdo:Qd "is_whole" HC ["value"]:=by walk_at "b1"
abbrev IC:Fb:=Vd 21
theorem Zlo:Gc ["value", "least"] ["value", "least"] (Ob IC):=by walk_at "sc"
theorem WR:Qd "is_whole_from" IC ["value", "least"]:=by walk_at "b2"
abbrev EC:Fb:=Vd 22
theorem Zay:Gc ["values"] ["values"] (Ob EC):=by walk_at "sc"
theorem Zdl:Qd "is_list_from_nought" EC ["values"]:=by walk_at "b1"
abbrev MC:Fb:=Vd 19
theorem Zlp:Gc [] [] (Ob MC):=by walk_at "sc"
theorem Zdr:Qd "most_seeds" MC []:=fun _ _ _ _ _ _ us hl=>match us,hl with | [],_=>rfl
abbrev DC:Fb:=Vd 23
theorem Zll:Gc ["board"] ["board"] (Ob DC):=by walk_at "sc"
theorem Zdk:Qd "is_board" DC ["board"]:=by walk_at "b1"
abbrev JC:Fb:=Vd 24
theorem Zli:Gc ["board"] ["board"] (Ob JC):=by walk_at "sc"
theorem PR:Qd "check_board" JC ["board"]:=by walk_at "b1"
abbrev GC:Fb:=Vd 26
theorem Zaz:Gc ["numbers"] ["numbers"] (Ob GC):=by walk_at "sc"
theorem Zdn:Qd "is_rising" GC ["numbers"]:=by walk_at "b1"
abbrev FC:Fb:=Vd 25
theorem Zlm:Gc ["board", "pit"] ["board", "pit"] (Ob FC):=by walk_at "sc"
theorem Zdm:Qd "is_pit" FC ["board", "pit"]:=by walk_at "b2"
noncomputable abbrev ZC:Fb:=Vd 27
theorem Zaw:Gc ["board", "barred"] ["board", "barred"] (Ob ZC):=by walk_at "sc"
theorem OR:Qd "check_barred" ZC ["board", "barred"]:=by walk_at "b2"
abbrev QC:Fb:=Vd 29
theorem AD:Gc ["pits", "seeds", "count", "k"] ["pits", "seeds"] (Ob QC):=by walk_at "sc"
theorem Zdh:Qd "count_boards" QC ["pits", "seeds"]:=by walk_at "b2"
noncomputable abbrev VC:Fb:=Vd 34
theorem Zlj:Gc ["board"] ["board"] (Ob VC):=by walk_at "sc"
theorem SR:Qd "check_few_boards" VC ["board"]:=by walk_at "b1"
abbrev BC:Fb:=Vd 41
theorem RM:Gc ["board", "barred"] ["board", "barred"] (Ob BC):=by walk_at "sc"
theorem G7:Qd "free_pits" BC ["board", "barred"]:=by walk_at "b2"
noncomputable abbrev YC:Fb:=Vd 45
theorem YM:Gc ["board", "barred", "pit", "steps"] ["board", "barred", "pit"] (Ob YC):=by walk_at "sc"
theorem Zdx:Qd "steps_to_bar" YC ["board", "barred", "pit"]:=by walk_at "b3"
noncomputable abbrev WC:Fb:=Vd 31
theorem Ut:Gc ["board", "pit", "pits", "rounds", "over", "other", "last", "step"] ["board", "pit"] (Ob WC):=by walk_at "sc"
theorem Zdw:Qd "sow_pit" WC ["board", "pit"]:=by walk_at "b2"
noncomputable abbrev XC:Fb:=Vd 36
theorem XM:Gc ["board", "pits"] ["board", "pits"] (Ob XC):=by walk_at "sc"
theorem ZH:Qd "sowings_of" XC ["board", "pits"]:=by walk_at "b2"
abbrev NC:Fb:=Vd 35
theorem CD:Gc ["level", "pits", "came_from", "found", "board", "step"] ["level", "pits", "came_from"] (Ob NC):=by walk_at "sc"
theorem Zds:Qd "next_level" NC ["level", "pits", "came_from"]:=by walk_at "b3"
noncomputable abbrev ZD:Fb:=Vd 40
theorem Y4:Gc ["board", "barred", "pits", "came_from", "level"] ["board", "barred"] (Ob ZD):=by walk_at "sc"
theorem Zdy:Qd "walk_from" ZD ["board", "barred"]:=by walk_at "b2"
abbrev CC:Fb:=Vd 42
theorem Zax:Gc ["board", "pits"] ["board", "pits"] (Ob CC):=by walk_at "sc"
theorem Zdj:Qd "free_seeds" CC ["board", "pits"]:=by walk_at "b2"
noncomputable abbrev SC:Fb:=Vd 44
theorem WM:Gc ["board", "pits", "steps"] ["board", "pits", "steps"] (Ob SC):=by walk_at "sc"
theorem Zdu:Qd "seeds_and_steps" SC ["board", "pits", "steps"]:=by walk_at "b3"
noncomputable abbrev W4:Fb:=Vd 43
theorem BD:Gc ["board", "barred", "pits", "steps"] ["board", "barred"] (Ob W4):=by walk_at "sc"
theorem Zdi:Qd "ends_first" W4 ["board", "barred"]:=by walk_at "b2"
abbrev LC:Fb:=Vd 50
theorem SM:Gc ["numbers", "least"] ["numbers"] (Ob LC):=by walk_at "sc"
theorem Zdq:Qd "least_missing" LC ["numbers"]:=by walk_at "b1"
noncomputable abbrev UD:Fb:=Vd 49
theorem J5:Gc ["board", "barred", "pits", "found", "other"] ["board", "barred"] (Ob UD):=by walk_at "sc"
theorem JH:Qd "worths_from" UD ["board", "barred"]:=by walk_at "b2"
abbrev OC:Fb:=Vd 51
theorem TM:Gc ["board", "barred", "found", "worth", "pits"] ["board", "barred", "found", "worth"] (Ob OC):=by walk_at "sc"
theorem YR:Qd "pit_to_worth" OC ["board", "barred", "found", "worth"]:=by walk_at "b4"
noncomputable abbrev TC:Fb:=Vd 52
theorem X4:Gc ["board", "barred", "other", "other_barred", "found", "worth", "other_found", "other_worth"] ["board", "barred", "other", "other_barred"] (Ob TC):=by walk_at "sc"
theorem Zdv:Qd "side_by_side" TC ["board", "barred", "other", "other_barred"]:=by walk_at "b4"
noncomputable abbrev UC:Fb:=Vd 39
theorem Zlk:Gc ["board", "barred"] ["board", "barred"] (Ob UC):=by walk_at "sc"
theorem TR:Qd "check_play" UC ["board", "barred"]:=by walk_at "b2"
abbrev RC:Fb:=Vd 37
theorem Za0:Gc ["boards"] ["boards"] (Ob RC):=by walk_at "sc"
theorem Zdt:Qd "rising_boards" RC ["boards"]:=by walk_at "b1"
abbrev JD:Fb:=Vd 47
theorem Z5:Gc ["board", "barred", "found", "lost"] ["board", "barred"] (Ob JD):=by walk_at "sc"
theorem Zdz:Qd "who_wins" JD ["board", "barred"]:=by walk_at "b2"
noncomputable abbrev VD:Fb:=Vd 48
theorem ZN:Gc ["board", "barred", "found"] ["board", "barred"] (Ob VD):=by walk_at "sc"
theorem Zd0:Qd "worths" VD ["board", "barred"]:=by walk_at "b2"
abbrev HB:Fb:=Vd 58
theorem Zlf:Gc ["way", "things"] ["way", "things"] (Ob HB):=by walk_at "sc"
theorem ZcW:Qd "_law_asked" HB ["way", "things"]:=by walk_at "b2"
noncomputable abbrev YB:Fb:=Vd 59
theorem Jr:Gc ["way", "things", "caught", "handed", "e", "kinds", "k", "word"] ["way", "things"] (Ob YB):=by walk_at "sc"
theorem Zdg:Qd "_law_word" YB ["way", "things"]:=by walk_at "b2"
abbrev MB:Fb:=Vd 64
theorem OM:Gc ["faults", "k"] ["faults"] (Ob MB):=by walk_at "sc"
theorem Zda:Qd "_law_due" MB ["faults"]:=by walk_at "b1"
abbrev KC:Fb:=Vd 65
theorem Vr:Gc ["script", "numbers", "large", "one", "two", "edge", "way", "due"] ["script"] (Ob KC):=by walk_at "sc"
theorem Zdp:Qd "law" KC ["script"]:=by walk_at "b1"
noncomputable abbrev XN:List Str:=["SowError", "BadBoard", "BadPits", "TooMany"]
noncomputable abbrev Kk(t:Str)(a0 a1 a2 a3:Bool):List (Str×Str×Bool):=[("SowError",t,a0),("BadBoard",t,a1),("BadPits",t,a2),("TooMany",t,a3)]
abbrev ZcC:=Kk "SowError" true true true true
abbrev Zc1:=Kk "BadBoard" false true false false
abbrev Zc5:=Kk "BadPits" false false true false
abbrev ZcE:=Kk "TooMany" false false false true
abbrev Zc4:=Kk "BadPit" false false false false
abbrev Zc2:=Kk "BadCount" false false false false
abbrev ZcB:=Kk "NoSeeds" false false false false
abbrev Zc6:=Kk "BadPlan" false false false false
abbrev ZcF:=Kk "Unlike" false false false false
abbrev ZcD:=Kk "TooLong" false false false false
abbrev Zc3:=Kk "BadLine" false false false false
abbrev Zc7:=Kk "BadRow" false false false false
abbrev Zc9:=Kk "BadYard" false false false false
abbrev ZcA:=Kk "NoDeed" false false false false
abbrev Zc8:=Kk "BadText" false false false false
abbrev XS:List (Str×Str×Bool):=ZcC++Zc1++Zc5++ZcE++Zc4++Zc2++ZcB++Zc6++ZcF++ZcD++Zc3++Zc7++Zc9++ZcA++Zc8
noncomputable abbrev XT:List Str:=["BadPit", "BadCount", "NoSeeds", "BadPlan", "Unlike", "TooLong", "BadLine", "BadRow", "BadYard", "NoDeed", "BadText"]
abbrev XR:List Str:=["SowError", "BadBoard", "BadPits", "TooMany"]
noncomputable abbrev Sj(a0 a1 a2 a3:Bool):List (Str×Bool):=[("SowError",a0),("BadBoard",a1),("BadPits",a2),("TooMany",a3)]
noncomputable abbrev OG:=Sj true true true true
noncomputable abbrev U7:=Sj false true false false
noncomputable abbrev Q7:=Sj false false true false
noncomputable abbrev A7:=Sj false false false true
noncomputable abbrev D2:=Sj false false false false
abbrev Q2:=Sj false false false false
abbrev T2:=Sj false false false false
abbrev E2:=Sj false false false false
abbrev Z3:=Sj false false false false
abbrev X2:=Sj false false false false
abbrev B2:=Sj false false false false
abbrev K2:=Sj false false false false
abbrev N2:=Sj false false false false
abbrev O2:=Sj false false false false
abbrev M2:=Sj false false false false
abbrev Zc0:=Sj true true true true
abbrev Za5:Fb:=U9 (Vd 1) 0
theorem Zls:Gc ["self"] ["self"] (Ob Za5):=by walk_at "sc"
abbrev Za3:Fb:=U9 (Vd 2) 0
theorem Zlq:Gc ["self"] ["self"] (Ob Za3):=by walk_at "sc"
abbrev Za4:Fb:=U9 (Vd 4) 0
theorem Zlr:Gc ["self"] ["self"] (Ob Za4):=by walk_at "sc"
abbrev Za6:Fb:=U9 (Vd 10) 0
theorem Zlt:Gc ["self"] ["self"] (Ob Za6):=by walk_at "sc"
structure Nc(K:ZmM)(mg:Str->Option Va):Prop where
 ZeC:Wc K mg "_law_numbers" SB
 ZeB:Wc K mg "_law_large" RB
 Ze7:Wc K mg "_law_board" KB
 ZeD:Wc K mg "_law_spoilt_barred" WB
 Ze6:Wc K mg "_law_barred" IB
 ZeA:Wc K mg "_law_how_many" OB
 ZeE:Wc K mg "_law_spoilt_board" XB
 Ze8:Wc K mg "_law_built" LB
 ZeO:Wc K mg "is_whole" HC
 MT:Wc K mg "is_whole_from" IC
 ZeL:Wc K mg "is_list_from_nought" EC
 ZeR:Wc K mg "most_seeds" MC
 ZeK:Wc K mg "is_board" DC
 FT:Wc K mg "check_board" JC
 ZeN:Wc K mg "is_rising" GC
 ZeM:Wc K mg "is_pit" FC
 ET:Wc K mg "check_barred" ZC
 ZeG:Wc K mg "count_boards" QC
 GT:Wc K mg "check_few_boards" VC
 W7:Wc K mg "free_pits" BC
 ZeZ:Wc K mg "steps_to_bar" YC
 ZeY:Wc K mg "sow_pit" WC
 WH:Wc K mg "sowings_of" XC
 ZeS:Wc K mg "next_level" NC
 Zfa:Wc K mg "walk_from" ZD
 ZeI:Wc K mg "free_seeds" CC
 ZeV:Wc K mg "seeds_and_steps" SC
 ZeH:Wc K mg "ends_first" W4
 ZeQ:Wc K mg "least_missing" LC
 XH:Wc K mg "worths_from" UD
 NT:Wc K mg "pit_to_worth" OC
 ZeX:Wc K mg "side_by_side" TC
 IT:Wc K mg "check_play" UC
 ZeU:Wc K mg "rising_boards" RC
 Zfb:Wc K mg "who_wins" JD
 Zfc:Wc K mg "worths" VD
 Ze5:Wc K mg "_law_asked" HB
 ZeF:Wc K mg "_law_word" YB
 Ze9:Wc K mg "_law_due" MB
 ZeP:Wc K mg "law" KC
 c_FEWEST_PITS:∃t,mg "FEWEST_PITS"=some (.int 2 t)
 c_MOST_BOARDS:∃t,mg "MOST_BOARDS"=some (.int 1000 t)
 c_MOST_PITS:∃t,mg "MOST_PITS"=some (.int 24 t)
 z_ValueError:mg "ValueError"=none
 z_all:mg "all"=none
 z_any:mg "any"=none
 z_bool:mg "bool"=none
 z_enumerate:mg "enumerate"=none
 z_int:mg "int"=none
 z_isinstance:mg "isinstance"=none
 z_len:mg "len"=none
 z_list:mg "list"=none
 z_max:mg "max"=none
 z_range:mg "range"=none
 z_sorted:mg "sorted"=none
 z_sum:mg "sum"=none
 z_tuple:mg "tuple"=none
 x_tab:Pp K XN XS=true
 x_exc:ZbG K XR=true
 x_tabT:ZbI K XT=true
 x_mg:∀n C,Ig K n C->mg n=some (.ref C)
 m_SowError:T1 K "SowError" "called" "SowError.called" Za5
 m_BadBoard:T1 K "BadBoard" "called" "BadBoard.called" Za3
 m_BadPits:T1 K "BadPits" "called" "BadPits.called" Za4
 m_TooMany:T1 K "TooMany" "called" "TooMany.called" Za6
 l_lam:YW K=true
section
variable {P:Qc}{w:Xb}{K:ZmM}{mg:Str->Option Va}{base:Heap}
theorem Zje(T:Nc K mg):Lw P w K mg base 1 "called" "SowError":=by
 obtain⟨C,f,fd,h1,h2,h3,F⟩:=T.m_SowError;obtain⟨C2,c1,_,c2,_⟩:=Ct T.x_tab (n := "SowError") (by decide);obtain rfl:=c1.inj h1;refine⟨C2,f,fd,h1,c2,h2,h3,F.kp,F.binds (fun _ _ _ _ _ _ us hl=>match us,hl with | [_],_=>rfl), ?_⟩;exact F.okP Zls rfl rfl (fun Ib A outer s H E hr=>⟨_,_,⟨[],[],[],.P⟩,rfl,Jb (Kb Jg),Ce Zg,fun xs=>.inr rfl⟩)
theorem Zjc(T:Nc K mg):Lw P w K mg base 1 "called" "BadBoard":=by
 obtain⟨C,f,fd,h1,h2,h3,F⟩:=T.m_BadBoard;obtain⟨C2,c1,_,c2,_⟩:=Ct T.x_tab (n := "BadBoard") (by decide);obtain rfl:=c1.inj h1;refine⟨C2,f,fd,h1,c2,h2,h3,F.kp,F.binds (fun _ _ _ _ _ _ us hl=>match us,hl with | [_],_=>rfl), ?_⟩;exact F.okP Zlq rfl rfl (fun Ib A outer s H E hr=>⟨_,_,⟨[],[],[],.P⟩,rfl,Jb (Kb Jg),Ce Zg,fun xs=>.inr rfl⟩)
theorem Zjd(T:Nc K mg):Lw P w K mg base 1 "called" "BadPits":=by
 obtain⟨C,f,fd,h1,h2,h3,F⟩:=T.m_BadPits;obtain⟨C2,c1,_,c2,_⟩:=Ct T.x_tab (n := "BadPits") (by decide);obtain rfl:=c1.inj h1;refine⟨C2,f,fd,h1,c2,h2,h3,F.kp,F.binds (fun _ _ _ _ _ _ us hl=>match us,hl with | [_],_=>rfl), ?_⟩;exact F.okP Zlr rfl rfl (fun Ib A outer s H E hr=>⟨_,_,⟨[],[],[],.P⟩,rfl,Jb (Kb Jg),Ce Zg,fun xs=>.inr rfl⟩)
theorem Zjf(T:Nc K mg):Lw P w K mg base 1 "called" "TooMany":=by
 obtain⟨C,f,fd,h1,h2,h3,F⟩:=T.m_TooMany;obtain⟨C2,c1,_,c2,_⟩:=Ct T.x_tab (n := "TooMany") (by decide);obtain rfl:=c1.inj h1;refine⟨C2,f,fd,h1,c2,h2,h3,F.kp,F.binds (fun _ _ _ _ _ _ us hl=>match us,hl with | [_],_=>rfl), ?_⟩;exact F.okP Zlt rfl rfl (fun Ib A outer s H E hr=>⟨_,_,⟨[],[],[],.P⟩,rfl,Jb (Kb Jg),Ce Zg,fun xs=>.inr rfl⟩)
theorem Zjg(T:Nc K mg):∀n∈XN,Lw P w K mg base 1 "called" n:=fun n hn=>by
 simp only[XN,Lc,Pt,or_false] at hn;rcases hn with rfl|rfl|rfl|rfl
 ·exact Zje T
 ·exact Zjc T
 ·exact Zjd T
 ·exact Zjf T
theorem ZiN:Cj OG (.exc "BadBoard")=.ok (.bl true):=Gm (by decide)
theorem ZiO:Cj OG (.exc "BadPits")=.ok (.bl true):=Gm (by decide)
theorem ZiP:Cj OG (.exc "TooMany")=.ok (.bl true):=Gm (by decide)
theorem ZiH:Cj U7 (.exc "BadBoard")=.ok (.bl true):=Gm (by decide)
theorem ZiI:Cj U7 (.exc "BadPits")=.ok (.bl false):=Gm (by decide)
theorem ZiJ:Cj U7 (.exc "TooMany")=.ok (.bl false):=Gm (by decide)
theorem ZiK:Cj Q7 (.exc "BadBoard")=.ok (.bl false):=Gm (by decide)
theorem ZiL:Cj Q7 (.exc "BadPits")=.ok (.bl true):=Gm (by decide)
theorem ZiM:Cj Q7 (.exc "TooMany")=.ok (.bl false):=Gm (by decide)
theorem ZiQ:Cj A7 (.exc "BadBoard")=.ok (.bl false):=Gm (by decide)
theorem ZiR:Cj A7 (.exc "BadPits")=.ok (.bl false):=Gm (by decide)
theorem ZiS:Cj A7 (.exc "TooMany")=.ok (.bl true):=Gm (by decide)
theorem Zis:Hs XN (.exc "BadBoard")=.ok (.str "BadBoard"):=SK (by decide)
theorem Zit:Hs XN (.exc "BadPits")=.ok (.str "BadPits"):=SK (by decide)
theorem Ziu:Hs XN (.exc "TooMany")=.ok (.str "TooMany"):=SK (by decide)
theorem ZiB:Rn [Q2,B2,D2,E2,K2,M2,N2] (.exc "BadBoard")=.ok (.bl false):=Vy (by decide)
theorem ZiC:Rn [Q2,B2,D2,E2,K2,M2,N2] (.exc "BadPits")=.ok (.bl false):=Vy (by decide)
theorem ZiD:Rn [Q2,B2,D2,E2,K2,M2,N2] (.exc "TooMany")=.ok (.bl false):=Vy (by decide)
theorem ZiE:Rn [O2,T2,X2,Z3] (.exc "BadBoard")=.ok (.bl false):=Vy (by decide)
theorem ZiF:Rn [O2,T2,X2,Z3] (.exc "BadPits")=.ok (.bl false):=Vy (by decide)
theorem ZiG:Rn [O2,T2,X2,Z3] (.exc "TooMany")=.ok (.bl false):=Vy (by decide)
theorem O9:PyData.canLay0 (.str "BadBoard")=true:=by rw[PyData.canLay0];decide +kernel
theorem P9:PyData.canLay0 (.str "BadPits")=true:=by rw[PyData.canLay0];decide +kernel
theorem R9:PyData.canLay0 (.str "TooMany")=true:=by rw[PyData.canLay0];decide +kernel
theorem DX:PyData.canLay0 (.str "told")=true:=by rw[PyData.canLay0];decide +kernel
theorem Ziv{g:Bool->Bool}:Mf g (.str "BadBoard") (.str "BadBoard")=.ok (.bl (g true)):=Cv O9 O9
theorem Ziw{g:Bool->Bool}:Mf g (.str "BadPits") (.str "BadBoard")=.ok (.bl (g false)):=Cv P9 O9
theorem Zix{g:Bool->Bool}:Mf g (.str "BadPits") (.str "BadPits")=.ok (.bl (g true)):=Cv P9 P9
theorem Ziy{g:Bool->Bool}:Mf g (.str "TooMany") (.str "BadBoard")=.ok (.bl (g false)):=Cv R9 O9
theorem Ziz{g:Bool->Bool}:Mf g (.str "TooMany") (.str "BadPits")=.ok (.bl (g false)):=Cv R9 P9
theorem Zi0{g:Bool->Bool}:Mf g (.str "TooMany") (.str "TooMany")=.ok (.bl (g true)):=Cv R9 R9
theorem Zi1{g:Bool->Bool}:Mf g (.str "told") (.str "told")=.ok (.bl (g true)):=Cv DX DX
set_option hygiene false
local macro_rules | `(tactic| symm)=>`(tactic| try simp -implicitDefEqProofs (disch:=first|lia|(simp only[Lb,Nh,Nt,SO,Dh,Rz,Ug,Ao,A6,Wn];lia)|decide) only[ZgP,ZgO,List.set_cons_zero,List.set_cons_succ,Q6,Ot,ZkW,ZkX,NE,Rr.bind_ok,Rr.bind_exc,Rr.bind_bad,Rr.thenS_ok,Rr.thenS_exc,RS.seq_next,RS.seq_ret,RS.seq_exc,RS.out_next,RS.out_ret,RS.out_exc,
 Zj9,Zkq,Zkh,Zkc,ZjR,ZjQ,ZgL,ZgM,ZgN,ZcJ,ZcM,ZcN,ZcL,ZjV,ZjW,ZjT,ZjU,Zkk,ZjZ,Zka,ZhA,Zh9,ZhB,ZjM,IY,ZjO,OY,Zj7,Zkr,Dh,Rz,Bool.not_true,Bool.not_false,Bool.false_eq_true,if_true,if_false,Nat.reduceAdd,Nat.reduceSub,id,Dd,Zw,Int.reduceToNat,ZjG,UL,Zj8,Zja,Zjb,Zkb,ZjH,ZjB,ZcP,Nat.reduceLeDiff,Cb,Int.reduceLT,Int.reduceLE,Int.reduceEq,decide_true,decide_false,
 GA,DL,ZjD,Zki,WY,Zkm,Sx,PY,Xx,LK,Zkl,Ze4,ZlV,ZlY,ZlX,Zj2,Zj3,Zjl,Zjj,ZjL,ZjA,beq_self_eq_true,Bool.and_true,Bool.true_and,Bool.and_false,Bool.false_and,Zkj,ZiN,ZiO,ZiP,ZiH,ZiI,ZiJ,ZiK,ZiL,ZiM,ZiQ,ZiR,ZiS,Zis,Zit,Ziu,ZiB,ZiC,ZiD,ZiE,ZiF,ZiG,Ziv,Ziw,Zix,Ziy,Ziz,Zi0,Zi1])
local macro_rules | `(tactic| walk_at "in")=>`(tactic| (simp only[List.cons.injEq,PV.lst.injEq,PV.int.injEq,PV.str.injEq,PV.bl.injEq,PV.tup.injEq,Zh5,and_true] at e ⊢;first|(simp only[e];done)|(subst e;rfl)|(rw[e])))
local macro_rules | `(tactic| walk_at "lo")=>`(tactic| first|exact Or.inl rfl|exact Or.inr rfl)
set_option hygiene true
noncomputable def Iy:Pm:=⟨LI0×Int,fun a=>[.lst (a.1.map PV.int),.int a.2],fun a=>a.1.length<=1000/\0<a.2/\a.2<=1000,fun a=>.ok (.lst ((Uv a.1 a.2.toNat).map PV.int))⟩
section
theorem pLe{X:Cx}(K:ZmM)(hm:X.mg "len"=none)(ha:PA X (e::es) t)(hg:Gl X "len":=by rfl)(he:Ed (e::es) X.env=(false,eval e X.env)::Ed es X.env:=by rfl)(hpl:(Ti pos (Ed es X.env)).any (·.1)=false:=by rfl)(e':X.K=K:=by rfl):PE X (.Call (.Name "len" p) (e::es) [] pos) (Ci (fun xs H Q=>∃p ys,xs=[.ref p]/\(Uc K H p ys\/Re K H p ys)/\Q (.int ys.length) H) t):=Lg (Zei (K:=K) e') hg hm ZcV ha (by decide) (by decide) he hpl
theorem pO{X:Cx}(G:Ok X.prog X.w X.K X.mg X.base k x ps sp)(hr:He k' X.A)(ha:PA X (e::es) t)(hk:k<=k':=by decide)(hg:Gl X x:=by rfl)(hdb:(x==("__debug__":Str))=false:=by decide)(he:Ed (e::es) X.env=(false,eval e X.env)::Ed es X.env:=by rfl)(hpl:(Ti pos (Ed es X.env)).any (·.1)=false:=by rfl):PE X (.Call (.Name x p) (e::es) [] pos) (Nm sp t):=VZ G (hr.mono hk) hg ha hdb he hpl
theorem pQ{X:Cx}(K:ZmM)(hu:X.A.units+64<cLine)(ha:PE X a ta)(hb:PE X b tb)(e:X.K=K:=by rfl):PT X (.Compare a [.Eq] [b] pos) (MN (Ff (BB K id) ta tb)):=Oi (PK (K:=K) hu e) ha hb (Kg _)
theorem pS{X:Cx}(i:Nat)(hN:X.N.Nodup)(he:PE X e te)(hi:X.N[i]?=some x:=by rfl)(hx:Du X.env.scope x:=by walk_at "lo")(hs:swapsWith e (some (.Name x pos')) pos.line X.env=pure false:=by rfl)(hf:X.fn x=true\/X.env.scope.names.lookup x=some .local:=by walk_at "lo"):PS X (.Assign [.Name x pos'] e pos) (Zo te (Aj i)):=ZkP hN hi hx he hs hf
theorem pX{X:Cx}(K:ZmM)(ha:PE X a ta)(hb:PE X b tb)(hs:JR b:=by exact fun _ _=>rfl)(e:X.K=K:=by rfl):PE X (.Subscript a b pos) (Ff (Jt K) ta tb):=Zk8 (ZhH (K:=K) e) ha hb hs
theorem qA(h:DE K EX Γ Γ' k te f):DE K EX Γ Γ' .A te f:=DE.toA h
theorem qF(h:DE K EX Γ Γ' .P te f):DE K EX Γ Γ' .F te f:=DE.PF h
theorem qI{i:Int}:DE K EX Γ Γ .A (tC (.int i)) (fun _=>.ok (.int i)):=DE.toA Ak
theorem qO{Γ:List Md}(i:Nat)(h:Γ[i]?=some .O:=by rfl):DE K EX Γ Γ .A (Wg i) (fun ρ=>.ok (gv i ρ)):=FI h (by decide)
theorem qP{Γ:List Md}(i:Nat)(h:Γ[i]?=some .P:=by rfl):DE K EX Γ Γ .A (Wg i) (fun ρ=>.ok (gv i ρ)):=DE.toA (Fn h)
theorem qS{Γ:List Md}(i:Nat)(h:Γ[i]?=some .S:=by rfl):DE K EX Γ Γ .A (Wg i) (fun ρ=>.ok (gv i ρ)):=FI h (by decide)
theorem qX{fa fb:LI5->Rr PV}(ha:DE K EX Γ Γ1 .A ta fa)(hb:DE K EX Γ1 Γ2 .A tb fb):DE K EX Γ Γ2 .A (Ff (Jt K) ta tb) (fun ρ=>(fa ρ).bind fun x=>(fb ρ).bind fun y=>pIx x y):=Zfs ha hb
theorem zF{Γ':List Md}{f:LI5->Rr PV}(i:Nat)(he:DE K EX Γ Γ' .F te f)(hi:i<Γ'.length:=by decide):DS K EX Γ ⟨Γ'.set i .O,Γ1,Γ2,k⟩ (Zo te (Aj i)) (fun ρ=>(f ρ).thenS fun x=>.next (ρ.set i x)):=FU he hi
theorem zP{Γ':List Md}{f:LI5->Rr PV}(i:Nat)(he:DE K EX Γ Γ' .P te f)(hi:i<Γ'.length:=by decide):DS K EX Γ ⟨Γ'.set i .P,Γ1,Γ2,k⟩ (Zo te (Aj i)) (fun ρ=>(f ρ).thenS fun x=>.next (ρ.set i x)):=ZfJ he hi
end
set_option hygiene false
local macro_rules | `(tactic| walk_at "ok")=>`(tactic| (refine F.okP S rfl rfl (fun Ib A outer s H E hr=>?_);have hu:=hr.units))
set_option hygiene true
local macro_rules | `(tactic| walk_at "ln")=>`(tactic| first|exact Tg|exact Sc (by walk_at "ln"))
section
theorem Tk{X:Cx}(hi:PI X tg iter wi)(hg:PG X tg g)(hb:Yg X body tb)(hp:PassesOwn (La X.prog X.w) X.A X.env X.xe:=by exact PassesOwn.never)(hc:X.calm=true:=by rfl)(hs:∀x,K0 iter X.env x=pure x:=by intro _;rfl):PS X (.For tg iter body [] pos) (KN wi g tb):=ZkO hp hc hi hg hb hs
theorem Xk{X:Cx}(i:Nat)(hN:X.N.Nodup)(hi:X.N[i]?=some x:=by rfl)(hx:Du X.env.scope x:=by walk_at "lo")(hf:X.fn x=true\/X.env.scope.names.lookup x=some .local:=by walk_at "lo"):PG X (.Name x pos) (Aj i):=OL hN hi hx hf
theorem Vl{Γ:List Md}(i:Nat)(hi:i<Γ.length:=by decide):DG K EX Γ (Γ.set i .P) (Aj i) (fun x ρ=>(grd x).bind fun x=>.ok (ρ.set i x)):=Zf5 hi
theorem qM{Γ:List Md}(i:Nat)(h:Γ[i]?=some .O:=by rfl):DE K EX Γ (Γ.set i .U) .F (Wg i) (fun ρ=>.ok (gv i ρ)):=Zf4 h
theorem Dj{fa:LI5->Rr LI5}(ha:Ge K X0 Γ Γ' ta fa)(hn:Ph fa n:=by walk_at "ln"):DE K X0 Γ Γ' .F (Nm (Wb K n .F W0 m) ta) (fun ρ=>(fa ρ).bind m):=Zfh hn ha
theorem Ul{fa:LI5->Rr LI5}(ha:Ge K X0 Γ Γ' ta fa)(hn:Ph fa n:=by walk_at "ln"):DE K X0 Γ Γ' .P (Nm (Wb K n .P W0 m) ta) (fun ρ=>(fa ρ).bind m):=Zfi hn ha
theorem ZM{fa:LI5->Rr LI5}{E:XK}(ha:Ge K (Wm K E) Γ Γ' ta fa)(hn:Ph fa n:=by walk_at "ln"):DE K (Wm K E) Γ Γ' .F (E5 (Wb K n .F (W1 K) m) (fun _=>E) ta) (fun ρ=>(fa ρ).bind m):=ZfO hn ha
theorem Lm{fa:LI5->Rr LI5}{E:XK}(ha:Ge K (Wm K E) Γ Γ' ta fa)(hn:Ph fa n:=by walk_at "ln"):DE K (Wm K E) Γ Γ' .P (E5 (Wb K n .P (W1 K) m) (fun _=>E) ta) (fun ρ=>(fa ρ).bind m):=ZfP hn ha
end
theorem Wd(P:Qc)(w:Xb)(base:Heap){ps:List Str}{sp:Sp}(d:Wc K mg x st)(b:Qd x st ps)(h:∀{f fd},Zc K x x st f fd->Yb P w K mg base Ic k f fd ps sp):Ok P w K mg base k x ps sp:=Zju d b h
theorem Zgm(T:Nc K mg)(F:Zc K "_law_numbers" "_law_numbers" SB f fd):Yb P w K mg base Ic 1 f fd ["script", "many"] (Wb K 2 .F W0 Iy.fn):=by
 have S:=Lv;walk_at "ok";refine⟨_,_,⟨[],[],[],.F⟩,rfl,(Wa (pS 2 Lv.nd (We Ga)) (Wa (pS 3 Lv.nd Ea) (Wa (Zd (Oi Gs (pLe K T.z_len (Qa (pv 0) Ga)) Ea (Kg _)) (Jb (pS 3 Lv.nd (Na Ue Ea (Na Od (pX K (pv 0) Ea) Ea)))) Jd) (Wa (Tk (Jl rfl T.z_range (Qa (pv 1) Ga)) (Xk 4 Lv.nd) (Wa (pS 3 Lv.nd (Na Od (Na Bj (pv 3) Ea) Ea)) (Jb (Ai (Gv PySem.F.plainAttrs_list PySem.F.slot_list_append PySem.F.type_list_append Wx (pv 2) (Qa (Na Od (Na Fk (pv 3) Ea) Ea) Ga)))))) (Wa (Tk (Jl rfl T.z_range (Qa (pLe K T.z_len (Qa (pv 0) Ga)) Ga)) (Xk 4 Lv.nd) (Jb (N4 (Na Od (Na Ue (pX K (pv 2) (Na Od (pv 4) (pv 1))) (pX K (pv 0) (pv 4))) Ea) (G4 (pv 2) (Na Od (pv 4) (pv 1)) Qr)))) (Jb (Kb (pv 2)))))))),(Ta (zF 2 (Yf Lf)) (Ta (zP 3 Ak) (Ta (Xc (Pc (qA (Us (qA (Zi (Fa (qS 0) Oa))) qI))) (zP 3 (Ve qI (qA (Nd (qX (qS 0) qI) qI)))) Yc) (Ta (Pk (Γl:=[.S,.S,.O,.P,.U]) (Nk (Fa (qS 1) Oa)) rfl (Vl 4) (DS.out (Y:=⟨[.S,.S,.O,.P,.P],[.S,.S,.O,.P,.U],[.S,.S,.O,.P,.U],.F⟩) (Y':=⟨[.S,.S,.O,.P,.U],[.S,.S,.O,.P,.U],[.S,.S,.O,.P,.U],.F⟩) (Ta (zP 3 (Nd (qA (Jj (qP 3) qI)) qI)) (Qx (i:=2) rfl rfl (qF (Nd (qA (Qk (qP 3) qI)) qI)))) rfl rfl rfl rfl)) (Ta (Pk (Γl:=[.S,.S,.O,.P,.U]) (Nk (Fa (qA (Zi (Fa (qS 0) Oa))) Oa)) rfl (Vl 4) (DS.out (Y:=⟨[.S,.S,.O,.P,.P],[.S,.S,.O,.P,.U],[.S,.S,.O,.P,.U],.F⟩) (Y':=⟨[.S,.S,.O,.P,.U],[.S,.S,.O,.P,.U],[.S,.S,.O,.P,.U],.F⟩) (E3 (i:=2) rfl (Nd (qA (Ve (qX (qO 2) (qA (Nd (qP 4) (qS 1)))) (qX (qS 0) (qP 4)))) qI) (qA (Nd (qP 4) (qS 1)))) rfl rfl rfl rfl)) (Eg (qM 2))))))), ?_⟩;refine Pm.ref Iy (g:=fun xs=>_) ?_;rintro⟨ns,m⟩ ⟨hn,h0,h1⟩;simp only at hn h0 h1;simp only[Iy];have hst:Tf ns=if 0<ns.length then 1+ns.getD 0 0%2147483646 else 1:=rfl
 symm;by_cases hz:0<ns.length
 ·rw[Ba hz] at hst
  rw[Hb (by lia)];symm;rw[<- hst];clear hst;generalize hw:Rf _ _ _=W;obtain⟨ρ',rfl,v,rfl⟩:=Ml hw (fun i ρ=>∃v,ρ=[.lst (ns.map PV.int),.int m,.lst ((Em (Tf ns) i).map PV.int),.int (Yn (Tf ns) i),v]) ⟨_,rfl⟩ (by
   rintro i x ρ hx ⟨v,rfl⟩;obtain⟨hi,rfl⟩:=Tn hx;have hb:=ZaD (B5 ns) i;have hl:(Em (Tf ns) i).length=i:=QJ _ _;symm;exact Hh ⟨_,by rw[NV,L2.Yn]⟩)
  symm;rw[Wn];generalize hw:Rf _ _ _=W;obtain⟨ρ',rfl,v,rfl⟩:=Ml hw (fun i ρ=>∃v,ρ=[.lst (ns.map PV.int),.int m,.lst ((Vp (Em (Tf ns) m.toNat) ns m.toNat i).map PV.int),.int (Yn (Tf ns) m.toNat),v]) ⟨_,rfl⟩ (by
   rintro i x ρ hx ⟨v,rfl⟩;obtain⟨hi,rfl⟩:=Tn hx;have hl:(Vp (Em (Tf ns) m.toNat) ns m.toNat i).length=m.toNat:=by rw[CV,QJ]
   have m0:=Af (0+(i:Int)) (show m≠0 by lia);have m1:=Qf (0+(i:Int)) h0;have e:((0+(i:Int))%m).toNat=i%m.toNat:=by
    have:((i%m.toNat:Nat):Int)=(0+(i:Int))%m:=by rw[Int.natCast_emod,Hl (by lia),Er]
    lia
   symm;exact Hh ⟨_,by rw[Vp,e,show (0+(i:Int)).toNat=i by lia]⟩)
  symm;rw[Wn,show (ns.length:Int).toNat=ns.length by lia];rfl
 ·rw[Aa hz] at hst
  rw[Tb (by lia)];symm;have hz2:ns=[]:=ZbM (by lia);subst hz2;generalize hw:Rf _ _ _=W;obtain⟨ρ',rfl,v,rfl⟩:=Ml hw (fun i ρ=>∃v,ρ=[.lst [],.int m,.lst ((Em (Tf []) i).map PV.int),.int (Yn (Tf []) i),v]) ⟨_,by rw[hst];rfl⟩ (by
   rintro i x ρ hx ⟨v,rfl⟩;obtain⟨hi,rfl⟩:=Tn hx;have hb:=ZaD (B5 []) i;have hl:(Em (Tf []) i).length=i:=QJ _ _;symm;exact Hh ⟨_,by rw[NV,L2.Yn]⟩)
  symm;rw[Wn];rfl
theorem ZdG{ns:LI0}{m:Int}(h:ns.length<=1000/\0<m/\m<=1000):Iy.fn [.lst (ns.map PV.int),.int m]=.ok (.lst ((Uv ns m.toNat).map PV.int)):=Pm.fn_eq Iy (ns,m) h fun(a:LI0×Int) e=>by simp only[Iy] at e ⊢;walk_at "in"
noncomputable def Hy:Pm:=⟨LI0×Int,fun a=>[.lst (a.1.map PV.int),.int a.2],fun a=>a.1.length<=1000/\0<a.2/\a.2<=1000,fun a=>.ok (.lst ((Xu a.1 a.2.toNat).map PV.int))⟩
theorem Zgl(T:Nc K mg)(F:Zc K "_law_large" "_law_large" RB f fd):Yb P w K mg base Ic 1 f fd ["script", "many"] (Wb K 2 .F W0 Hy.fn):=by
 have S:=Kv;walk_at "ok";refine⟨_,_,⟨[],[],[],.F⟩,rfl,(Wa (pS 2 Kv.nd (We Ga)) (Wa (pS 3 Kv.nd Ea) (Wa (Zd (Oi Gs (pLe K T.z_len (Qa (pv 0) Ga)) Ea (Kg _)) (Jb (pS 3 Kv.nd (Na Ue Ea (Na Od (pX K (pv 0) Ea) Ea)))) Jd) (Wa (Tk (Jl rfl T.z_range (Qa (pv 1) Ga)) (Xk 4 Kv.nd) (Wa (pS 3 Kv.nd (Na Od (Na Bj (pv 3) Ea) Ea)) (Jb (Ai (Gv PySem.F.plainAttrs_list PySem.F.slot_list_append PySem.F.type_list_append Wx (pv 2) (Qa (Na Bj (pv 3) (pv 3)) Ga)))))) (Wa (Tk (Jl rfl T.z_range (Qa (pLe K T.z_len (Qa (pv 0) Ga)) Ga)) (Xk 4 Kv.nd) (Jb (N4 (Na Od (Na Ue (pX K (pv 2) (Na Od (pv 4) (pv 1))) (pX K (pv 0) (pv 4))) (Na Ue (Na Yx Ea Ea) Ea)) (G4 (pv 2) (Na Od (pv 4) (pv 1)) Qr)))) (Jb (Kb (pv 2)))))))),(Ta (zF 2 (Yf Lf)) (Ta (zP 3 Ak) (Ta (Xc (Pc (qA (Us (qA (Zi (Fa (qS 0) Oa))) qI))) (zP 3 (Ve qI (qA (Nd (qX (qS 0) qI) qI)))) Yc) (Ta (Pk (Γl:=[.S,.S,.O,.P,.U]) (Nk (Fa (qS 1) Oa)) rfl (Vl 4) (DS.out (Y:=⟨[.S,.S,.O,.P,.P],[.S,.S,.O,.P,.U],[.S,.S,.O,.P,.U],.F⟩) (Y':=⟨[.S,.S,.O,.P,.U],[.S,.S,.O,.P,.U],[.S,.S,.O,.P,.U],.F⟩) (Ta (zP 3 (Nd (qA (Jj (qP 3) qI)) qI)) (Qx (i:=2) rfl rfl (qF (Jj (qP 3) (qP 3))))) rfl rfl rfl rfl)) (Ta (Pk (Γl:=[.S,.S,.O,.P,.U]) (Nk (Fa (qA (Zi (Fa (qS 0) Oa))) Oa)) rfl (Vl 4) (DS.out (Y:=⟨[.S,.S,.O,.P,.P],[.S,.S,.O,.P,.U],[.S,.S,.O,.P,.U],.F⟩) (Y':=⟨[.S,.S,.O,.P,.U],[.S,.S,.O,.P,.U],[.S,.S,.O,.P,.U],.F⟩) (E3 (i:=2) rfl (Nd (qA (Ve (qX (qO 2) (qA (Nd (qP 4) (qS 1)))) (qX (qS 0) (qP 4)))) (qA (Ve (qA (Jx qI qI)) qI))) (qA (Nd (qP 4) (qS 1)))) rfl rfl rfl rfl)) (Eg (qM 2))))))), ?_⟩;refine Pm.ref Hy (g:=fun xs=>_) ?_;rintro⟨ns,m⟩ ⟨hn,h0,h1⟩;simp only at hn h0 h1;simp only[Hy];have hst:Tf ns=if 0<ns.length then 1+ns.getD 0 0%2147483646 else 1:=rfl
 symm;by_cases hz:0<ns.length
 ·rw[Ba hz] at hst
  rw[Hb (by lia)];symm;rw[<- hst];clear hst;generalize hw:Rf _ _ _=W;obtain⟨ρ',rfl,v,rfl⟩:=Ml hw (fun i ρ=>∃v,ρ=[.lst (ns.map PV.int),.int m,.lst ((Nl (Tf ns) i).map PV.int),.int (Bl (Tf ns) i),v]) ⟨_,rfl⟩ (by
   rintro i x ρ hx ⟨v,rfl⟩;obtain⟨hi,rfl⟩:=Tn hx;have hb:=EN (B5 ns) i;have hl:(Nl (Tf ns) i).length=i:=AJ _ _;symm;exact Hh ⟨_,by rw[OV,Bl]⟩)
  symm;rw[Wn];generalize hw:Rf _ _ _=W;obtain⟨ρ',rfl,v,rfl⟩:=Ml hw (fun i ρ=>∃v,ρ=[.lst (ns.map PV.int),.int m,.lst ((Gn (Nl (Tf ns) m.toNat) ns m.toNat i).map PV.int),.int (Bl (Tf ns) m.toNat),v]) ⟨_,rfl⟩ (by
   rintro i x ρ hx ⟨v,rfl⟩;obtain⟨hi,rfl⟩:=Tn hx;have hl:(Gn (Nl (Tf ns) m.toNat) ns m.toNat i).length=m.toNat:=by rw[EV,AJ]
   have m0:=Af (0+(i:Int)) (show m≠0 by lia);have m1:=Qf (0+(i:Int)) h0;have e:((0+(i:Int))%m).toNat=i%m.toNat:=by
    have:((i%m.toNat:Nat):Int)=(0+(i:Int))%m:=by rw[Int.natCast_emod,Hl (by lia),Er]
    lia
   symm;exact Hh ⟨_,by rw[Gn,e,show (0+(i:Int)).toNat=i by lia]⟩)
  symm;rw[Wn,show (ns.length:Int).toNat=ns.length by lia];rfl
 ·rw[Aa hz] at hst
  rw[Tb (by lia)];symm;have hz2:ns=[]:=ZbM (by lia);subst hz2;generalize hw:Rf _ _ _=W;obtain⟨ρ',rfl,v,rfl⟩:=Ml hw (fun i ρ=>∃v,ρ=[.lst [],.int m,.lst ((Nl (Tf []) i).map PV.int),.int (Bl (Tf []) i),v]) ⟨_,by rw[hst];rfl⟩ (by
   rintro i x ρ hx ⟨v,rfl⟩;obtain⟨hi,rfl⟩:=Tn hx;have hb:=EN (B5 []) i;have hl:(Nl (Tf []) i).length=i:=AJ _ _;symm;exact Hh ⟨_,by rw[OV,Bl]⟩)
  symm;rw[Wn];rfl
theorem ZdF{ns:LI0}{m:Int}(h:ns.length<=1000/\0<m/\m<=1000):Hy.fn [.lst (ns.map PV.int),.int m]=.ok (.lst ((Xu ns m.toNat).map PV.int)):=Pm.fn_eq Hy (ns,m) h fun(a:LI0×Int) e=>by simp only[Hy] at e ⊢;walk_at "in"
def Mn(n:Nat)(L:LI0):LI0:=L.foldl (fun b a=>b.set a.toNat (b.getD a.toNat 0+1)) (List.replicate n 0)
theorem GX{n:Nat}:∀(L:LI0) (b:LI0) (s:Int),Bs n s b->(∀a∈L,0<=a/\a<n)->Bs n (s+L.length) (L.foldl (fun b a=>b.set a.toNat (b.getD a.toNat 0+1)) b)
 |[],b,s,h,_=>by simpa using h
 |a::L,b,s,h,hL=>by
  obtain⟨l,nn,sm⟩:=h;have ha:=hL a (by simp);have:=GX L (b.set a.toNat (b.getD a.toNat 0+1)) (s+1) ⟨by simp[l],fun x hx=>?_, ?_⟩ fun z hz=>hL z (by simp[hz])
  ·rw[LO,Dh,show s+((L.length+1:Nat):Int)=s+1+L.length by lia]
   exact this
  ·rcases XO hx with z|z
   ·exact nn x z
   ·have:=RV nn a.toNat
    lia
  ·rw[FD (by lia)];lia
theorem UK{n:Nat}{L:LI0}(h:∀a∈L,0<=a/\a<n):Bs n L.length (Mn n L):=by
 have:=GX L (List.replicate n 0) 0 ⟨by simp,fun x hx=>by rw[List.eq_of_mem_replicate hx];lia,by simp⟩ h;rw[Er] at this;exact this
noncomputable def Zb(N:LI0)(k:Int):Int:=N.getD k.toNat 0
noncomputable def Cq(N:LI0)(f:Int):Int:=if Zb N 1/(1+7*f)%8=1 then 6+Zb N 0/(1+4*f)%19 else 2+Zb N 0/(1+4*f)%4
noncomputable def Gh(N:LI0)(f:Int):LI0:=
 if Zb N 1/(1+7*f)%8=1 then Mn (Cq N f).toNat [Zb N (20+f)%Cq N f,Zb N (22+f)%Cq N f]
 else if Zb N 1/(1+7*f)%8=2 then [Zb N (20+f)%40,Zb N (22+f)%40]
 else if Zb N 1/(1+7*f)%8=3 then (List.range 3).map fun(k:Nat)=>Zb N (20+2*f+k)/3%9
 else Mn (Cq N f).toNat ((List.range (Zb N 4/(1+9*f)%9).toNat).map fun(k:Nat)=>Zb N (24+9*f+k)/5%Cq N f)
noncomputable def Ey:Pm:=⟨LI0×Int,fun a=>[.lst (a.1.map PV.int),.int a.2],fun a=>a.1.length=63/\0<=a.2/\a.2<=1,fun a=>.ok (.lst ((Gh a.1 a.2).map PV.int))⟩
theorem Zgh(T:Nc K mg)(F:Zc K "_law_board" "_law_board" KB f fd):Yb P w K mg base Ic 1 f fd ["numbers", "first"] (Wb K 2 .F W0 Ey.fn):=by
 have S:=Yq;walk_at "ok";refine⟨_,_,⟨[],[],[],.F⟩,rfl,(Wa (pS 2 Yq.nd (Na Od (Na Fk (pX K (pv 0) Ea) (Na Ue Ea (Na Bj Ea (pv 1)))) Ea)) (Wa (pS 3 Yq.nd (Na Ue Ea (Na Od (Na Fk (pX K (pv 0) Ea) (Na Ue Ea (Na Bj Ea (pv 1)))) Ea))) (Wa (Zd (pQ K hu (pv 2) Ea) (Wa (pS 3 Yq.nd (Na Ue Ea (Na Od (Na Fk (pX K (pv 0) Ea) (Na Ue Ea (Na Bj Ea (pv 1)))) Ea))) (Wa (pS 4 Yq.nd (Na QA (We (Qa Ea Ga)) (pv 3))) (Wa (UB (pv 4) (Na Od (pX K (pv 0) (Na Ue Ea (pv 1))) (pv 3)) (Y8 (K:=K)) Ea Mx Qr) (Wa (UB (pv 4) (Na Od (pX K (pv 0) (Na Ue Ea (pv 1))) (pv 3)) (Y8 (K:=K)) Ea Mx Qr) (Jb (Kb (pv 4))))))) Jd) (Wa (Zd (pQ K hu (pv 2) Ea) (Jb (Kb (We (Qa (Na Od (pX K (pv 0) (Na Ue Ea (pv 1))) Ea) (Qa (Na Od (pX K (pv 0) (Na Ue Ea (pv 1))) Ea) Ga))))) Jd) (Wa (Zd (pQ K hu (pv 2) Ea) (Jb (Kb (Ay (Jl rfl T.z_range (Qa Ea Ga)) (Ev Yq.nd) (fun _ _ _ _=>WA) (fun _ _ _ _=>(Na Od (Na Fk (pX K (pv 0) (Na Ue (Na Ue Ea (Na Bj Ea (pv 1))) (pv 6))) Ea) Ea)) Wu Yq.nd rfl))) Jd) (Wa (pS 4 Yq.nd (Na QA (We (Qa Ea Ga)) (pv 3))) (Wa (Tk (Jl rfl T.z_range (Qa (Na Od (Na Fk (pX K (pv 0) Ea) (Na Ue Ea (Na Bj Ea (pv 1)))) Ea) Ga)) (Xk 5 Yq.nd) (Jb (UB (pv 4) (Na Od (Na Fk (pX K (pv 0) (Na Ue (Na Ue Ea (Na Bj Ea (pv 1))) (pv 5))) Ea) (pv 3)) (Y8 (K:=K)) Ea Mx Qr))) (Jb (Kb (pv 4)))))))))),(Ta (zP 2 (Nd (qA (Qk (qX (qS 0) qI) (qA (Ve qI (qA (Jj qI (qS 1))))))) qI)) (Ta (zP 3 (Ve qI (qA (Nd (qA (Qk (qX (qS 0) qI) (qA (Ve qI (qA (Jj qI (qS 1))))))) qI)))) (Ta (Xc (Pc (qA (Ke (g:=id) (qP 2) qI))) (Ta (zP 3 (Ve qI (qA (Nd (qA (Qk (qX (qS 0) qI) (qA (Ve qI (qA (Jj qI (qS 1))))))) qI)))) (Ta (zF 4 (E8 (Fa qI Oa) (qP 3))) (Ta (K8 (i:=4) rfl rfl (qA (Nd (qX (qS 0) (qA (Ve qI (qS 1)))) (qP 3))) qI) (Ta (K8 (i:=4) rfl rfl (qA (Nd (qX (qS 0) (qA (Ve qI (qS 1)))) (qP 3))) qI) (Eg (qM 4)))))) Yc) (Ta (Xc (Pc (qA (Ke (g:=id) (qP 2) qI))) (Eg (Yf (Kc (qF (Nd (qX (qS 0) (qA (Ve qI (qS 1)))) qI)) (Kc (qF (Nd (qX (qS 0) (qA (Ve qI (qS 1)))) qI)) Lf)))) Yc) (Ta (Xc (Pc (qA (Ke (g:=id) (qP 2) qI))) (Eg (Lu (k:=1) (DI.c (Nk (Fa qI Oa))) Xw NI (qF (Nd (qA (Qk (qX (qS 0) (qA (Ve (qA (Ve qI (qA (Jj qI (qS 1))))) (qS 6)))) qI)) qI)))) Yc) (Ta (zF 4 (E8 (Fa qI Oa) (qP 3))) (Ta (Pk (Γl:=[.S,.S,.P,.P,.O,.U]) (Nk (Fa (qA (Nd (qA (Qk (qX (qS 0) qI) (qA (Ve qI (qA (Jj qI (qS 1))))))) qI)) Oa)) rfl (Vl 5) (DS.out (Y:=⟨[.S,.S,.P,.P,.O,.P],[.S,.S,.P,.P,.O,.U],[.S,.S,.P,.P,.O,.U],.F⟩) (Y':=⟨[.S,.S,.P,.P,.O,.U],[.S,.S,.P,.P,.O,.U],[.S,.S,.P,.P,.O,.U],.F⟩) (K8 (i:=4) rfl rfl (qA (Nd (qA (Qk (qX (qS 0) (qA (Ve (qA (Ve qI (qA (Jj qI (qS 1))))) (qP 5)))) qI)) (qP 3))) qI) rfl rfl rfl rfl)) (Eg (qM 4))))))))), ?_⟩;refine Pm.ref Ey (g:=fun xs=>_) ?_;rintro⟨N,f⟩ ⟨hN,h0,h1⟩;simp only at hN h0 h1;simp only[Ey];symm;have e1:N.getD 1 0=Zb N 1:=rfl;have e0:N.getD 0 0=Zb N 0:=rfl;have e20:N.getD (20+f).toNat 0=Zb N (20+f):=rfl;have e22:N.getD (22+f).toNat 0=Zb N (22+f):=rfl;have e4:N.getD 4 0=Zb N 4:=rfl;unfold Gh;have hp:Cq N f=if Zb N 1/(1+7*f)%8=1 then 6+Zb N 0/(1+4*f)%19 else 2+Zb N 0/(1+4*f)%4:=rfl
 generalize Cq N f=p at hp;rw[e1,e0,e20];have r0:=Af (Zb N 0/(1+4*f)) (show (19:Int)≠0 by lia);have r1:=Qf (Zb N 0/(1+4*f)) (show (0:Int)<19 by lia);have r2:=Af (Zb N 0/(1+4*f)) (show (4:Int)≠0 by lia);have r3:=Qf (Zb N 0/(1+4*f)) (show (0:Int)<4 by lia);generalize Zb N 1/(1+7*f)%8=way at hp;by_cases c1:way=1
 ·rw[Ba c1] at hp
  rw[<- hp,Hb c1,Ba c1];have q0:=Af (Zb N (20+f)) (show p≠0 by lia);have q1:=Qf (Zb N (20+f)) (show (0:Int)<p by lia);have q2:=Af (Zb N (22+f)) (show p≠0 by lia);have q3:=Qf (Zb N (22+f)) (show (0:Int)<p by lia);unfold Mn;have hl:(List.replicate p.toNat (0:Int)).length=p.toNat:=SO;generalize List.replicate p.toNat (0:Int)=bb at hl;symm;rw[e22];symm;rfl
 ·rw[Aa c1] at hp
  rw[<- hp,Tb c1,Aa c1];symm;by_cases c2:way=2
  ·rw[Hb c2,Ba c2]
   symm;rfl
  ·rw[Tb c2,Aa c2]
   symm;by_cases c3:way=3
   ·rw[Hb c3,Ba c3]
    symm;rw[SI,ZiU (g:=fun(k:Nat)=>Zb N (20+2*f+k)/3%9) (fun i hi=>by
     symm;rw[Er];rfl)]
    symm
   ·rw[Tb c3,Aa c3]
    symm;have q0:=Af (Zb N 4/(1+9*f)) (show (9:Int)≠0 by lia);have q1:=Qf (Zb N 4/(1+9*f)) (show (0:Int)<9 by lia);rw[e4,show List.replicate p.toNat (0:Int)=Mn p.toNat ((List.range 0).map fun(k:Nat)=>Zb N (24+9*f+k)/5%p) from rfl];generalize hm:(Zb N 4/(1+9*f)%9).toNat=m;generalize hw:Rf _ _ _=W;obtain⟨ρ',rfl,v,rfl⟩:=Ml hw (fun i ρ=>∃v,ρ=[.lst (N.map PV.int),.int f,.int way,.int p,.lst ((Mn p.toNat ((List.range i).map fun(k:Nat)=>Zb N (24+9*f+k)/5%p)).map PV.int),v]) ⟨_,rfl⟩ (by
     rintro i x ρ hx ⟨v,rfl⟩;obtain⟨hi,rfl⟩:=Tn hx;rw[Er];have a0:=Af (Zb N (24+9*f+i)/5) (show p≠0 by lia);have a1:=Qf (Zb N (24+9*f+i)/5) (show (0:Int)<p by lia);have hl:=(UK (n:=p.toNat) (L:=(List.range i).map fun(k:Nat)=>Zb N (24+9*f+k)/5%p) fun z hz=>by
      obtain⟨k,hk,rfl⟩:=Ze.mp hz;have:=Af (Zb N (24+9*f+k)/5) (show p≠0 by lia);have:=Qf (Zb N (24+9*f+k)/5) (show (0:Int)<p by lia);lia).1
     have hs:Mn p.toNat ((List.range (i+1)).map fun(k:Nat)=>Zb N (24+9*f+k)/5%p)=(Mn p.toNat ((List.range i).map fun(k:Nat)=>Zb N (24+9*f+k)/5%p)).set (Zb N (24+9*f+i)/5%p).toNat ((Mn p.toNat ((List.range i).map fun(k:Nat)=>Zb N (24+9*f+k)/5%p)).getD (Zb N (24+9*f+i)/5%p).toNat 0+1):=by
      unfold Mn;rw[Yz,Kr,KO];rfl
     rw[hs];generalize Mn p.toNat ((List.range i).map fun(k:Nat)=>Zb N (24+9*f+k)/5%p)=bb at hl;symm;rw[show N.getD (24+9*f+(i:Int)).toNat 0=Zb N (24+9*f+i) from rfl];symm;exact Hh ⟨_,rfl⟩)
    symm;rw[Wn]
theorem ZdD{N:LI0}{f:Int}(h:N.length=63/\0<=f/\f<=1):Ey.fn [.lst (N.map PV.int),.int f]=.ok (.lst ((Gh N f).map PV.int)):=Pm.fn_eq Ey (N,f) h fun(a:LI0×Int) e=>by simp only[Ey] at e ⊢;walk_at "in"
noncomputable def Kp(l:LI0)(f n p:Int):LI0:=if f=1 then [] else if f=2 then Sn 0 1 p.toNat else if f=3 then [p-1,0] else if f=4 then l++l.drop (l.length-1) else if f=5 then l++[if n%2=0 then p else p+n*10^53] else if f=6 then (-1-n/2%2*n)::l else l
noncomputable def Ky:Pm:=⟨LI0×Int×Int×Int,fun a=>[.lst (a.1.map PV.int),.int a.2.1,.int a.2.2.1,.int a.2.2.2],fun a=>a.1.length<=1000/\(0<=a.2.2.1/\a.2.2.1<=1000000)/\0<=a.2.2.2/\a.2.2.2<=1000,fun a=>.ok (.lst ((Kp a.1 a.2.1 a.2.2.1 a.2.2.2).map PV.int))⟩
theorem Ze3{ns:LI0}:Hu (ns.map PV.int) (some (-1)) none=(ns.drop (ns.length-1)).map PV.int:=by
 unfold Hu HT.Lh;simp only[Lb];rw[<- List.map_drop,<- List.map_take];congr 1;rw[Ba (by decide),show (-1+(ns.length:Int)).toNat=ns.length-1 by lia,Ho (by rw[Ao];lia)]
theorem Zj5:Uy (.int 10) (.int 53)=.ok (.int (10^53)):=by rw[LA (by decide)];rfl
theorem Zgn(T:Nc K mg)(F:Zc K "_law_spoilt_barred" "_law_spoilt_barred" WB f fd):Yb P w K mg base Ic 1 f fd ["barred", "fault", "number", "pits"] (Wb K 4 .Z W0 Ky.fn):=by
 have S:=Zlh;walk_at "ok";refine⟨_,_,⟨[],[],[],.Z⟩,rfl,(Wa (Zd (pQ K hu (pv 1) Ea) (Jb (Kb (We Ga))) Jd) (Wa (Zd (pQ K hu (pv 1) Ea) (Jb (Kb (Pl (Zel rfl) rfl T.z_list Zs (Qa (Pl Zen rfl T.z_range ZdB (Qa (pv 3) Ga)) Ga)))) Jd) (Wa (Zd (pQ K hu (pv 1) Ea) (Jb (Kb (We (Qa (Na Av (pv 3) Ea) (Qa Ea Ga))))) Jd) (Wa (Zd (pQ K hu (pv 1) Ea) (Jb (Kb (Na (Qv (K:=K)) (pv 0) (ML (JN (K:=K)) (pv 0) (WL (NL TN Ea)) TL)))) Jd) (Wa (Zd (pQ K hu (pv 1) Ea) (Jb (Kb (Na (Qv (K:=K)) (pv 0) (We (Qa (pX K (We (Qa (pv 3) (Qa (Na Ue (pv 3) (Na Bj (pv 2) (Na Yx Ea Ea))) Ga))) (Na Od (pv 2) Ea)) Ga))))) Jd) (Wa (Zd (pQ K hu (pv 1) Ea) (Jb (Kb (Na (Qv (K:=K)) (We (Qa (Na Av (NL TN Ea) (Na Bj (Na Od (Na Fk (pv 2) Ea) Ea) (pv 2))) Ga)) (pv 0)))) Jd) (Jb (Kb (pv 0))))))))),(Ta (Xc (Pc (qA (Ke (g:=id) (qS 1) qI))) (Qs (DE.FZ (Yf Lf))) Yc) (Ta (Xc (Pc (qA (Ke (g:=id) (qS 1) qI))) (Qs (DE.FZ (Zfw (Fa (qS 3) Oa)))) Yc) (Ta (Xc (Pc (qA (Ke (g:=id) (qS 1) qI))) (Qs (DE.FZ (Yf (Kc (qF (Nu (qS 3) qI)) (Kc (qF Ak) Lf))))) Yc) (Ta (Xc (Pc (qA (Ke (g:=id) (qS 1) qI))) (Qs (DE.FZ (J8 (qS 0) (qA (CI (qS 0) (HI (qA (BI qI))) GI))))) Yc) (Ta (Xc (Pc (qA (Ke (g:=id) (qS 1) qI))) (Qs (DE.FZ (J8 (qS 0) (qA (Yf (Kc (qF (DE.grd (qX (qA (Yf (Kc (qF (DE.grd (qS 3))) (Kc (qF (Ve (qS 3) (qA (Jj (qS 2) (qA (Jx qI qI)))))) Lf)))) (qA (Nd (qS 2) qI))))) Lf)))))) Yc) (Ta (Xc (Pc (qA (Ke (g:=id) (qS 1) qI))) (Qs (DE.FZ (J8 (qA (Yf (Kc (qF (Nu (qA (BI qI)) (qA (Jj (qA (Nd (qA (Qk (qS 2) qI)) qI)) (qS 2))))) Lf))) (qS 0)))) Yc) (Qs (Ji (i:=0) rfl)))))))), ?_⟩;refine Pm.ref Ky (g:=fun xs=>_) ?_;rintro⟨l,f,n,p⟩ ⟨h1,⟨n0,n1⟩,r0,r1⟩;simp only at h1 n0 n1 r0 r1;simp only[Ky];unfold Kp;symm;by_cases c1:f=1
 ·subst c1
  rw[Hb rfl];symm
 rw[Tb c1,Aa c1];symm;by_cases c2:f=2
 ·subst c2
  rw[Hb rfl,Ba rfl];symm;rw[Zkg ⟨Hb ⟨by lia,by lia⟩,by lia⟩];symm
 rw[Tb c2,Aa c2];symm;by_cases c3:f=3
 ·subst c3
  rw[Hb rfl,Ba rfl];symm
 rw[Tb c3,Aa c3];symm;by_cases c4:f=4
 ·subst c4
  rw[Hb rfl,Ba rfl];symm;rw[Ze3];symm
 rw[Tb c4,Aa c4];symm;by_cases c5:f=5
 ·subst c5
  rw[Hb rfl,Ba rfl];symm;rw[Zj5];symm;rw[show pIx (.lst [.int p,.int (p+n*10^53)]) (.int (n%2))=.ok (.int (if n%2=0 then p else p+n*10^53)) by
   have e:n%2=0\/n%2=1:=by lia
   rcases e with e|e
   ·rw[e,Ba rfl];rfl
   ·rw[e,Aa (by decide)];rfl]
  generalize (if n%2=0 then p else p+n*10^53)=q;symm
 rw[Tb c5,Aa c5];symm;by_cases c6:f=6
 ·subst c6
  rw[Hb rfl,Ba rfl];symm
 rw[Tb c6,Aa c6];symm
theorem ZdH{l:LI0}{f n p:Int}(h:l.length<=1000/\(0<=n/\n<=1000000)/\0<=p/\p<=1000):Ky.fn [.lst (l.map PV.int),.int f,.int n,.int p]=.ok (.lst ((Kp l f n p).map PV.int)):=Pm.fn_eq Ky (l,f,n,p) h fun(a:LI0×Int×Int×Int) e=>by simp only[Ky] at e ⊢;walk_at "in"
theorem MU{α β:Type}(f:α->β):∀(l:List α) (n:Nat),(l.map f).eraseIdx n=(l.eraseIdx n).map f
 |[],_=>rfl
 |_::_,0=>rfl
 |a::l,n+1=>by
  show f a::(l.map f).eraseIdx n=f a::(l.eraseIdx n).map f;rw[MU f l n]
noncomputable def Zj(N:LI0)(f:Int)(n:Nat):LI0:=((List.range n).filter fun(p:Nat)=>decide (Zb N (42+(7*f+p)%21)/3%3=0)).map fun(p:Nat)=>(p:Int)
def Qm(N:LI0)(f n:Int):LI0:=if Zj N f n.toNat=[] then [Zb N 5/(1+24*f)%n] else Zj N f n.toNat
def Kj(N:LI0)(f n:Int):LI0:=if (Qm N f n).length=n then (Qm N f n).eraseIdx (Zb N 6/(1+24*f)%n).toNat else Qm N f n
noncomputable def Dy:Pm:=⟨LI0×Int×Int,fun a=>[.lst (a.1.map PV.int),.int a.2.1,.int a.2.2],fun a=>a.1.length=63/\(0<=a.2.1/\a.2.1<=1)/\2<=a.2.2/\a.2.2<=1000,fun a=>.ok (.lst ((Kj a.1 a.2.1 a.2.2).map PV.int))⟩
theorem Zgg(T:Nc K mg)(F:Zc K "_law_barred" "_law_barred" IB f fd):Yb P w K mg base Ic 1 f fd ["numbers", "first", "pits"] (Wb K 3 .F W0 Dy.fn):=by
 have S:=QD;walk_at "ok";refine⟨_,_,⟨[],[],[],.F⟩,rfl,(Wa (pS 3 QD.nd (We Ga)) (Wa (Tk (Jl rfl T.z_range (Qa (pv 2) Ga)) (Xk 4 QD.nd) (Jb (Zd (pQ K hu (Na Od (Na Fk (pX K (pv 0) (Na Ue Ea (Na Od (Na Ue (Na Bj Ea (pv 1)) (pv 4)) Ea))) Ea) Ea) Ea) (Jb (Ai (Gv PySem.F.plainAttrs_list PySem.F.slot_list_append PySem.F.type_list_append Wx (pv 3) (Qa (pv 4) Ga)))) Jd))) (Wa (Zd (pQ K hu (pv 3) (We Ga)) (Jb (pS 3 QD.nd (We (Qa (Na Od (Na Fk (pX K (pv 0) Ea) (Na Ue Ea (Na Bj Ea (pv 1)))) (pv 2)) Ga)))) Jd) (Wa (Zd (pQ K hu (pLe K T.z_len (Qa (pv 3) Ga)) (pv 2)) (Jb (Ai (Gv PySem.F.plainAttrs_list PySem.F.slot_list_pop PySem.F.type_list_pop Zjh (pv 3) (Qa (Na Od (Na Fk (pX K (pv 0) Ea) (Na Ue Ea (Na Bj Ea (pv 1)))) (pv 2)) Ga)))) Jd) (Jb (Kb (pv 3))))))),(Ta (zF 3 (Yf Lf)) (Ta (Pk (Γl:=[.S,.S,.S,.O,.U]) (Nk (Fa (qS 2) Oa)) rfl (Vl 4) (DS.out (Y:=⟨[.S,.S,.S,.O,.P],[.S,.S,.S,.O,.U],[.S,.S,.S,.O,.U],.F⟩) (Y':=⟨[.S,.S,.S,.O,.U],[.S,.S,.S,.O,.U],[.S,.S,.S,.O,.U],.F⟩) (Xc (Pc (qA (Ke (g:=id) (qA (Nd (qA (Qk (qX (qS 0) (qA (Ve qI (qA (Nd (qA (Ve (qA (Jj qI (qS 1))) (qP 4))) qI))))) qI)) qI)) qI))) (Qx (i:=3) rfl rfl (qF (Fn (i:=4) rfl))) Yc) rfl rfl rfl rfl)) (Ta (Xc (Pc (qA (Ke (g:=id) (qO 3) (qA (Yf Lf))))) (zF 3 (Yf (Kc (qF (Nd (qA (Qk (qX (qS 0) qI) (qA (Ve qI (qA (Jj qI (qS 1))))))) (qS 2))) Lf))) Yc) (Ta (Xc (Pc (qA (Ke (g:=id) (qA (Zi (Fa (qO 3) Oa))) (qS 2)))) (ZfG (i:=3) rfl (Nd (qA (Qk (qX (qS 0) qI) (qA (Ve qI (qA (Jj qI (qS 1))))))) (qS 2))) Yc) (Eg (qM 3)))))), ?_⟩;refine Pm.ref Dy (g:=fun xs=>_) ?_;rintro⟨N,f,n⟩ ⟨hN,⟨h0,h1⟩,n2,n1⟩;simp only at hN h0 h1 n2 n1;simp only[Dy];symm;generalize hw:Rf _ _ _=W;obtain⟨ρ',rfl,v,rfl⟩:=Ml hw (fun i ρ=>∃v,ρ=[.lst (N.map PV.int),.int f,.int n,.lst ((Zj N f i).map PV.int),v]) ⟨_,rfl⟩ (by
  rintro i x ρ hx ⟨v,rfl⟩;obtain⟨hi,rfl⟩:=Tn hx;rw[Er];have y0:=Af (7*f+i) (show (21:Int)≠0 by lia);have y1:=Qf (7*f+i) (show (0:Int)<21 by lia);have Ae:(Zj N f i).length<=i:=by
   unfold Zj;rw[Lb];exact Oe (Xv _ _) (by simp)
  have hs:Zj N f (i+1)=Zj N f i++if Zb N (42+(7*f+i)%21)/3%3=0 then [(i:Int)] else []:=by
   unfold Zj;rw[Yz,List.filter_append,Kr];congr 1;by_cases c:Zb N (42+(7*f+i)%21)/3%3=0
   ·rw[Ba c];simp[c]
   ·rw[Aa c];simp[c]
  rw[hs];symm;rw[show N.getD (42+(7*f+i)%21).toNat 0=Zb N (42+(7*f+i)%21) from rfl];by_cases c:Zb N (42+(7*f+i)%21)/3%3=0
  ·rw[Hb c,Ba c]
   symm;exact Hh ⟨_,rfl⟩
  ·rw[Tb c,Aa c,Dt]
   symm;exact Hh ⟨_,rfl⟩)
 rw[Wn];symm;have hJ:(if decide (Zj N f n.toNat=[])=true then RS.next [PV.lst (N.map PV.int),.int f,.int n,.lst [.int (N.getD 5 0/(1+24*f)%n)],v] else RS.next [PV.lst (N.map PV.int),.int f,.int n,.lst ((Zj N f n.toNat).map PV.int),v])=RS.next [PV.lst (N.map PV.int),.int f,.int n,.lst ((Qm N f n).map PV.int),v]:=by
  unfold Qm Zb;by_cases c:Zj N f n.toNat=[]
  ·rw[Hb c,Ba rfl,Ba c];rfl
  ·rw[Tb c,Aa (by simp),Aa c]
 rw[hJ];have y0:=Af (N.getD 6 0/(1+24*f)) (show n≠0 by lia);have y1:=Qf (N.getD 6 0/(1+24*f)) (show (0:Int)<n by lia);unfold Kj;generalize Qm N f n=J;symm;by_cases c:(J.length:Int)=n
 ·rw[Hb c,Ba c]
  symm;have hp:pPopAt (.lst (J.map PV.int)) (.int (N.getD 6 0/(1+24*f)%n))=.ok (.lst ((J.eraseIdx (N.getD 6 0/(1+24*f)%n).toNat).map PV.int)):=by
   unfold pPopAt;simp only;rw[Ba ⟨R8,y0,by rw[Lb];lia,by rw[Lb];lia⟩,MU]
  rw[hp];symm;rfl
 ·rw[Tb c,Aa c]
  symm
theorem FS{N:LI0}{f n:Int}(h:N.length=63/\(0<=f/\f<=1)/\2<=n/\n<=1000):Dy.fn [.lst (N.map PV.int),.int f,.int n]=.ok (.lst ((Kj N f n).map PV.int)):=Pm.fn_eq Dy (N,f,n) h fun(a:LI0×Int×Int) e=>by simp only[Dy] at e ⊢;walk_at "in"
noncomputable def Tu(n far:Int):LI1:=[[far,1000],[1000,0],[0,1000+n],[1,1,1]++List.replicate 21 0]
def Kn(n far:Int):LI0:=(Tu n far).getD (n%4).toNat []
noncomputable def Gy:Pm:=⟨Int×Int,fun a=>[.int a.1,.int a.2],fun a=>0<=a.1/\a.1<=1000000,fun a=>.ok (.lst ((Kn a.1 a.2).map PV.int))⟩
theorem Zgk(T:Nc K mg)(F:Zc K "_law_how_many" "_law_how_many" OB f fd):Yb P w K mg base Ic 1 f fd ["number", "far"] (Wb K 2 .F W0 Gy.fn):=by
 have S:=Zlg;walk_at "ok";refine⟨_,_,⟨[],[],[],.F⟩,rfl,(Jb (Kb (pX K (We (Qa (We (Qa (pv 1) (Qa Ea Ga))) (Qa (We (Qa Ea (Qa Ea Ga))) (Qa (We (Qa Ea (Qa (Na Ue Ea (pv 0)) Ga))) (Qa (Na (Qv (K:=K)) (Na QA (We (Qa Ea Ga)) Ea) (Na QA (We (Qa Ea Ga)) Ea)) Ga))))) (Na Od (pv 0) Ea)))),(Eg (Zft (Yf (Kc (Yf (Kc (qF (DE.grd (qS 1))) (Kc (qF Ak) Lf))) (Kc (Yf (Kc (qF Ak) (Kc (qF Ak) Lf))) (Kc (Yf (Kc (qF Ak) (Kc (qF (Ve qI (qS 0))) Lf))) (Kc (J8 (qA (E8 (Fa qI Oa) qI)) (qA (E8 (Fa qI Oa) qI))) Lf))))) (qA (Nd (qS 0) qI)))), ?_⟩;refine Pm.ref Gy (g:=fun xs=>_) ?_;rintro⟨n,far⟩ ⟨h0,h1⟩;simp only at h0 h1;simp only[Gy];symm;have e:n%4=0\/n%4=1\/n%4=2\/n%4=3:=by lia
 unfold Kn;rcases e with e|e|e|e
 ·rw[e];rfl
 ·rw[e];rfl
 ·rw[e];rfl
 ·rw[e];rfl
theorem ZdE{n far:Int}(h:0<=n/\n<=1000000):Gy.fn [.int n,.int far]=.ok (.lst ((Kn n far).map PV.int)):=Pm.fn_eq Gy (n,far) h fun(a:Int×Int) e=>by simp only[Gy] at e ⊢;walk_at "in"
noncomputable def Xn(b:LI0)(f n far:Int):LI0:=if f=1 then b.take 1 else if f=2 then ((List.replicate 13 b).flatten).take 25 else if f=3 then b.set (n%b.length).toNat (-1-n/24%3*10^58) else if f=4 then b.set (n%b.length).toNat (10^60+1+far) else b
noncomputable def Ly:Pm:=⟨LI0×Int×Int×Int,fun a=>[.lst (a.1.map PV.int),.int a.2.1,.int a.2.2.1,.int a.2.2.2],fun a=>0<a.1.length/\a.1.length<=1000/\(0<=a.2.2.1/\a.2.2.1<=1000000)/\0<=a.2.2.2/\a.2.2.2<=10^60,fun a=>.ok (.lst ((Xn a.1 a.2.1 a.2.2.1 a.2.2.2).map PV.int))⟩
theorem Zj6:Uy (.int 10) (.int 58)=.ok (.int (10^58)):=by rw[LA (by decide)];rfl
theorem Zgo(T:Nc K mg)(F:Zc K "_law_spoilt_board" "_law_spoilt_board" XB f fd):Yb P w K mg base Ic 1 f fd ["board", "fault", "number", "far"] (Wb K 4 .F W0 Ly.fn):=by
 have S:=PM;walk_at "ok";refine⟨_,_,⟨[],[],[],.F⟩,rfl,(Wa (Zd (pQ K hu (pv 1) Ea) (Jb (Kb (ML (JN (K:=K)) (pv 0) TL (WL Ea)))) Jd) (Wa (Zd (pQ K hu (pv 1) Ea) (Jb (Kb (ML (JN (K:=K)) (Na (Zj1 (K:=K)) (pv 0) Ea) TL (WL Ea)))) Jd) (Wa (pS 4 PM.nd (Pl (P7 (K:=K)) rfl T.z_list Zs (Qa (pv 0) Ga))) (Wa (pS 5 PM.nd (Na Od (pv 2) (pLe K T.z_len (Qa (pv 0) Ga)))) (Wa (Zd (pQ K hu (pv 1) Ea) (Jb (N4 (Na Av (NL TN Ea) (Na Bj (Na Od (Na Fk (pv 2) Ea) Ea) (Na Yx Ea Ea))) (G4 (pv 4) (pv 5) Qr))) Jd) (Wa (Zd (pQ K hu (pv 1) Ea) (Jb (N4 (Na Ue (Na Ue (Na Yx Ea Ea) Ea) (pv 3)) (G4 (pv 4) (pv 5) Qr))) Jd) (Jb (Kb (pv 4))))))))),(Ta (Xc (Pc (qA (Ke (g:=id) (qS 1) qI))) (Eg (CI (qS 0) GI (HI qI))) Yc) (Ta (Xc (Pc (qA (Ke (g:=id) (qS 1) qI))) (Eg (CI (qA (Zfy (qS 0) qI)) GI (HI qI))) Yc) (Ta (zF 4 (Q8 (Fa (qS 0) Oa))) (Ta (zP 5 (Nd (qS 2) (qA (Zi (Fa (qS 0) Oa))))) (Ta (Xc (Pc (qA (Ke (g:=id) (qS 1) qI))) (E3 (i:=4) rfl (Nu (qA (BI qI)) (qA (Jj (qA (Nd (qA (Qk (qS 2) qI)) qI)) (qA (Jx qI qI))))) (qP 5)) Yc) (Ta (Xc (Pc (qA (Ke (g:=id) (qS 1) qI))) (E3 (i:=4) rfl (Ve (qA (Ve (qA (Jx qI qI)) qI)) (qS 3)) (qP 5)) Yc) (Eg (qM 4)))))))), ?_⟩;refine Pm.ref Ly (g:=fun xs=>_) ?_;rintro⟨b,f,n,far⟩ ⟨h0,h1,⟨n0,n1⟩,r0,r1⟩;simp only at h0 h1 n0 n1 r0 r1;simp only[Ly];unfold Xn;symm;by_cases c1:f=1
 ·subst c1
  rw[Hb rfl];symm
 rw[Tb c1,Aa c1];symm;by_cases c2:f=2
 ·subst c2
  rw[Hb rfl,Ba rfl];symm;rw[TY (by rw[show (13:Int).toNat=13 from rfl];lia) (by lia) (by lia)];symm
 rw[Tb c2,Aa c2];have q0:=Af n (show (b.length:Int)≠0 by lia);have q1:=Qf n (show (0:Int)<b.length by lia);symm;by_cases c3:f=3
 ·subst c3
  rw[Hb rfl,Ba rfl];symm;rw[Zj6];symm
 rw[Tb c3,Aa c3];symm;by_cases c4:f=4
 ·subst c4
  rw[Hb rfl,Ba rfl];symm
 rw[Tb c4,Aa c4];symm
theorem ZdI{b:LI0}{f n far:Int}(h:0<b.length/\b.length<=1000/\(0<=n/\n<=1000000)/\0<=far/\far<=10^60):Ly.fn [.lst (b.map PV.int),.int f,.int n,.int far]=.ok (.lst ((Xn b f n far).map PV.int)):=Pm.fn_eq Ly (b,f,n,far) h fun(a:LI0×Int×Int×Int) e=>by simp only[Ly] at e ⊢;walk_at "in"
structure L6(n:Nat)(l:LI0):Prop where
 al:∀p∈l,0<=p/\p<n
 up:l.Pairwise (·<·)
 ne:l≠[]
 nn:l.length≠n
theorem ZjP{g:Bool->Bool}{n:Nat}{x:PV}(h:Jk n x)(hn:n<=64:=by decide):Mf g x x=.ok (.bl (g true)):=by
 unfold Mf;rw[h.ok hn,Bool.and_self,Ba rfl,PySem.SeqAt.eqv_refl _ h.can]
theorem Zd5(N:LI0)(f:Int)(n:Nat):(Zj N f n).Pairwise (·<·):=by
 unfold Zj;rw[Rp];exact(List.pairwise_lt_range.filter _).imp fun h=>by lia
theorem Zd4(N:LI0)(f:Int)(n:Nat):∀p∈Zj N f n,0<=p/\p<n:=fun p hp=>by
 unfold Zj at hp;obtain⟨k,hk,rfl⟩:=Ze.mp hp;have:=Qg.mp (Wl.mp hk).1;lia
theorem Fu(N:LI0)(f:Int){n:Nat}(h:2<=n):L6 n (Kj N f n)/\(Kj N f n).length<=n:=by
 have hJ:(∀p∈Qm N f n,0<=p/\p<n)/\(Qm N f n).Pairwise (·<·)/\Qm N f n≠[]/\(Qm N f n).length<=n:=by
  unfold Qm;rw[El];by_cases c:Zj N f n=[]
  ·rw[Ba c]
   have y0:=Af (Zb N 5/(1+24*f)) (show (n:Int)≠0 by lia);have y1:=Qf (Zb N 5/(1+24*f)) (show (0:Int)<n by lia);exact⟨fun p hp=>by rw[Gi.mp hp];exact⟨y0,y1⟩,JP _ _,by simp,by simp;lia⟩
  ·rw[Aa c]
   refine⟨Zd4 N f n,Zd5 N f n,c, ?_⟩;unfold Zj;rw[Lb];exact Oe (Xv _ _) (by simp)
 obtain⟨j1,j2,j3,j4⟩:=hJ;unfold Kj;generalize Qm N f n=J at j1 j2 j3 j4;have y0:=Af (Zb N 6/(1+24*f)) (show (n:Int)≠0 by lia);have y1:=Qf (Zb N 6/(1+24*f)) (show (0:Int)<n by lia);by_cases c:(J.length:Int)=n
 ·rw[Ba c]
  have hl:(J.eraseIdx (Zb N 6/(1+24*f)%(n:Int)).toNat).length=n-1:=by
   rw[List.length_eraseIdx,Ba (by lia)];lia
  exact⟨⟨fun p hp=>j1 p (List.mem_of_mem_eraseIdx hp),j2.sublist (List.eraseIdx_sublist _ _),fun z=>by rw[z] at hl;simp at hl;lia,by lia⟩,by lia⟩
 ·rw[Aa c]
  exact⟨⟨j1,j2,j3,by lia⟩,j4⟩
noncomputable def ZgC:Bool:=(List.range 25).all fun(p:Nat)=>(List.range 79).all fun(s:Nat)=>decide ((p=2\/(p=3/\s<25)\/(p<6/\s<9)\/s<3)->Ie p s<=1000)
theorem ZgD:ZgC=true:=by decide +kernel
structure M6(b:LI0):Prop where
 lo:2<=b.length
 hi:b.length<=24
 nn:∀x∈b,0<=x
 sm:b.sum<=78
 few:Ie b.length b.sum<=1000
theorem X8{n:Nat}{b:LI0}{s:Int}(B:Bs n s b)(h2:2<=n)(h24:n<=24)(hs:s<=78)(hc:n=2\/(n=3/\s<25)\/(n<6/\s<9)\/s<3):M6 b:=by
 have h0:=sum_nn B.2.1;obtain⟨e1,e2,e⟩:=B;subst e1 e;have h:=Hg.mp (Hg.mp ZgD b.length (Qg.mpr (by lia))) b.sum.toNat (Qg.mpr (by lia));have:=Wi h (by lia);rw[Hl (by lia)] at this;exact⟨h2,h24,e2,by lia,this⟩
theorem NR(N:LI0){f:Int}(h0:0<=f)(h1:f<=1):M6 (Gh N f):=by
 unfold Gh;have hp:Cq N f=if Zb N 1/(1+7*f)%8=1 then 6+Zb N 0/(1+4*f)%19 else 2+Zb N 0/(1+4*f)%4:=rfl
 generalize Cq N f=p at hp;have r0:=Af (Zb N 0/(1+4*f)) (show (19:Int)≠0 by lia);have r1:=Qf (Zb N 0/(1+4*f)) (show (0:Int)<19 by lia);have r2:=Af (Zb N 0/(1+4*f)) (show (4:Int)≠0 by lia);have r3:=Qf (Zb N 0/(1+4*f)) (show (0:Int)<4 by lia);generalize Zb N 0/(1+4*f)%19=u at *;generalize Zb N 0/(1+4*f)%4=u' at *;have pos:∀x:Int,0<p->0<=x%p/\x%p<p.toNat:=fun x hp=>by
  have:=Af x (show p≠0 by lia);have:=Qf x hp;lia
 by_cases c1:Zb N 1/(1+7*f)%8=1
 ·rw[Ba c1] at hp ⊢
  have B:=UK (n:=p.toNat) (L:=[Zb N (20+f)%p,Zb N (22+f)%p]) fun a ha=>by
   simp only[Lc,Pt,or_false] at ha;rcases ha with rfl|rfl
   ·exact pos _ (by lia)
   ·exact pos _ (by lia)
  exact X8 (s:=2) B (by lia) (by lia) (by lia) (.inr (.inr (.inr (by lia))))
 ·rw[Aa c1] at hp ⊢
  by_cases c2:Zb N 1/(1+7*f)%8=2
  ·rw[Ba c2]
   have a0:=Af (Zb N (20+f)) (show (40:Int)≠0 by lia);have a1:=Qf (Zb N (20+f)) (show (0:Int)<40 by lia);have a2:=Af (Zb N (22+f)) (show (40:Int)≠0 by lia);have a3:=Qf (Zb N (22+f)) (show (0:Int)<40 by lia);refine X8 (s:=Zb N (20+f)%40+Zb N (22+f)%40) ⟨rfl,fun x hx=>?_,by simp⟩ (by simp) (by simp) (by lia) (.inl rfl);simp only[Lc,Pt,or_false] at hx;rcases hx with rfl|rfl<;>lia
  ·rw[Aa c2]
   by_cases c3:Zb N 1/(1+7*f)%8=3
   ·rw[Ba c3]
    have q:∀k:Nat,0<=Zb N (20+2*f+k)/3%9/\Zb N (20+2*f+k)/3%9<=8:=fun k=>by
     have:=Af (Zb N (20+2*f+k)/3) (show (9:Int)≠0 by lia);have:=Qf (Zb N (20+2*f+k)/3) (show (0:Int)<9 by lia);lia
    generalize hg:(fun(k:Nat)=>Zb N (20+2*f+k)/3%9)=g;have q:∀k:Nat,0<=g k/\g k<=8:=fun k=>by rw[<- hg];exact q k
    have q0:=q 0;have q1:=q 1;have q2:=q 2;refine X8 (s:=g 0+(g 1+g 2)) ⟨rfl,fun x hx=>?_, ?_⟩ (by simp) (by simp) (by lia) (.inr (.inl ⟨by simp,by lia⟩))
    ·obtain⟨k,_,rfl⟩:=Ze.mp hx
     exact(q k).1
    ·show ([g 0,g 1,g 2]:LI0).sum=_
     simp
   ·rw[Aa c3]
    have a0:=Af (Zb N 4/(1+9*f)) (show (9:Int)≠0 by lia);have a1:=Qf (Zb N 4/(1+9*f)) (show (0:Int)<9 by lia);generalize Zb N 4/(1+9*f)%9=m at a0 a1;have B:=UK (n:=p.toNat) (L:=(List.range m.toNat).map fun(k:Nat)=>Zb N (24+9*f+k)/5%p) fun a ha=>by
     obtain⟨k,_,rfl⟩:=Ze.mp ha;exact pos _ (by lia)
    rw[Lb,A6] at B;exact X8 B (by lia) (by lia) (by lia) (.inr (.inr (.inl ⟨by lia,by lia⟩)))
def Qj(x:List Bool):PV:=.lst (x.map PV.bl)
theorem FJ(n far:Int):2<=(Kn n far).length/\(Kn n far).length<=24:=by
 have e:n%4=0\/n%4=1\/n%4=2\/n%4=3:=by lia
 unfold Kn;rcases e with e|e|e|e<;>(rw[e];exact⟨by simp[Tu],by simp[Tu]⟩)
theorem Y9{N:LI0}{k:Int}(h0:0<=k)(h1:k<N.length):Zb N k∈N:=by
 unfold Zb;rw[Bb,Rc (by lia)];exact Mt _
noncomputable def Yi(N:LI0)(k:Int):Int:=Zb N (60+k)
noncomputable def Ij(N:LI0)(k:Int):Int:=if Zb N (54+k)%10-5>0 then Zb N (54+k)%10-5 else 0
noncomputable def Mk(N:LI0)(k:Int):Int:=if Zb N (56+k)%12-5>0 then Zb N (56+k)%12-5 else 0
noncomputable def Xr(N:LI0)(k:Int):Int:=Zb N (58+k)%3
def Ii(N G:LI0)(k:Int):LI0:=if Xr N k=1 then Kn (Yi N k) (Zb G k%10^59) else Gh N k
def Um(N:LI0)(k:Int):LI1:=[Gh N k,Kj N k (Gh N k).length]
noncomputable def Ll(N G:LI0)(k:Int):LI1:=[Xn (Ii N G k) (Ij N k) (Yi N k) (Zb G (2+k)),Kp (Kj N k (Ii N G k).length) (Mk N k) (Yi N k) (Ii N G k).length]
noncomputable def Zh(N:LI0)(k:Int):List Bool:=[decide (Ij N k>0),decide (Mk N k>0),decide (Xr N k=1)]
structure Aw(N G:LI0)(k:Int):Prop where
 n63:N.length=63
 nb:∀x∈N,0<=x/\x<1000000
 g55:G.length=55
 gb:∀x∈G,0<=x/\x<=10^60
 k0:0<=k
 k1:k<=1
 b2:2<=(Gh N k).length
 b24:(Gh N k).length<=24
noncomputable def Fy:Pm:=⟨LI0×LI0×Int,fun a=>[.lst (a.1.map PV.int),.lst (a.2.1.map PV.int),.int a.2.2],fun a=>Aw a.1 a.2.1 a.2.2,fun a=>.ok (.tup [.lst ((Um a.1 a.2.2).map Fc),.lst ((Ll a.1 a.2.1 a.2.2).map Fc),Qj (Zh a.1 a.2.2)])⟩
theorem Zgi(T:Nc K mg)(F:Zc K "_law_built" "_law_built" LB f fd):Yb P w K mg base Ic 2 f fd ["numbers", "large", "k"] (Wb K 3 .Z W0 Fy.fn):=by
 have ZbT:=Wd P w base T.Ze7 ZcY (fun F=>Zgh T F);have ZbX:=Wd P w base T.ZeD Zde (fun F=>Zgn T F);have JQ:=Wd P w base T.Ze6 ZcX (fun F=>Zgg T F);have ZbU:=Wd P w base T.ZeA Zdb (fun F=>Zgk T F);have ZbY:=Wd P w base T.ZeE Zdf (fun F=>Zgo T F);have S:=Zr;walk_at "ok";refine⟨_,_,⟨[],[],[],.Z⟩,rfl,(Wa (pS 3 Zr.nd (pO ZbT hr (Qa (pv 0) (Qa (pv 2) Ga)))) (Wa (pS 4 Zr.nd (We (Qa (pv 3) (Qa (pO JQ hr (Qa (pv 0) (Qa (pv 2) (Qa (pLe K T.z_len (Qa (pv 3) Ga)) Ga)))) Ga)))) (Wa (pS 5 Zr.nd (We (Qa (Lg (OS rfl) rfl T.z_max LR (Qa Ea (Qa (Na Av (Na Od (pX K (pv 0) (Na Ue Ea (pv 2))) Ea) Ea) Ga))) (Qa (Lg (OS rfl) rfl T.z_max LR (Qa Ea (Qa (Na Av (Na Od (pX K (pv 0) (Na Ue Ea (pv 2))) Ea) Ea) Ga))) Ga)))) (Wa (Ai (Gv PySem.F.plainAttrs_list PySem.F.slot_list_append PySem.F.type_list_append Wx (pv 5) (Qa (Na Od (pX K (pv 0) (Na Ue Ea (pv 2))) Ea) Ga))) (Wa (Zd (pQ K hu (pX K (pv 5) Ea) Ea) (Jb (pS 3 Zr.nd (pO ZbU hr (Qa (pX K (pv 0) (Na Ue Ea (pv 2))) (Qa (Na Od (pX K (pv 1) (pv 2)) (Na Yx Ea Ea)) Ga))))) Jd) (Wa (pS 6 Zr.nd (pLe K T.z_len (Qa (pv 3) Ga))) (Wa (pS 7 Zr.nd (pX K (pv 0) (Na Ue Ea (pv 2)))) (Wa (pS 8 Zr.nd (pO ZbX hr (Qa (pO JQ hr (Qa (pv 0) (Qa (pv 2) (Qa (pv 6) Ga)))) (Qa (pX K (pv 5) Ea) (Qa (pv 7) (Qa (pv 6) Ga)))))) (Wa (pS 9 Zr.nd (We (Qa (pO ZbY hr (Qa (pv 3) (Qa (pX K (pv 5) Ea) (Qa (pv 7) (Qa (pX K (pv 1) (Na Ue Ea (pv 2))) Ga))))) (Qa (pv 8) Ga)))) (Jb (Kb (Hm (Qa (pv 4) (Qa (pv 9) (Qa (We (Qa (Ms Gs (pX K (pv 5) Ea) Ea (Kg _)) (Qa (Ms Gs (pX K (pv 5) Ea) Ea (Kg _)) (Qa (Ms (PK (K:=K) hu) (pX K (pv 5) Ea) Ea (Kg _)) Ga)))) Ga))))))))))))))),(Ta (zF 3 (Dj (Fa (qS 0) (Fa (qS 2) Oa)))) (Ta (GU (i:=4) (QU (Li (C3 (i:=3) (m:=.O) rfl (by decide)) (Li (DE.FZ (Dj (Fa (qS 0) (Fa (qS 2) (Fa (qA (Zi (Fa (qS 3) Oa))) Oa))))) Iu))) (by decide)) (Ta (zF 5 (Yf (Kc (qF (AU (Fa qI (Fa (qA (Nu (qA (Nd (qX (qS 0) (qA (Ve qI (qS 2)))) qI)) qI)) Oa)))) (Kc (qF (AU (Fa qI (Fa (qA (Nu (qA (Nd (qX (qS 0) (qA (Ve qI (qS 2)))) qI)) qI)) Oa)))) Lf)))) (Ta (Qx (i:=5) rfl rfl (qF (Nd (qX (qS 0) (qA (Ve qI (qS 2)))) qI))) (Ta (Xc (Pc (qA (Ke (g:=id) (qX (qO 5) qI) qI))) (DS.out (Y:=⟨[.S,.S,.S,.O,.T,.O,.U,.U,.U,.U],[],[],.Z⟩) (Y':=⟨[.S,.S,.S,.S,.T,.O,.U,.U,.U,.U],[],[],.Z⟩) (zF 3 (Dj (Fa (qX (qS 0) (qA (Ve qI (qS 2)))) (Fa (qA (Nd (qX (qS 1) (qS 2)) (qA (Jx qI qI)))) Oa)))) rfl rfl rfl rfl) Yc) (Ta (zP 6 (Zi (Fa (qS 3) Oa))) (Ta (zP 7 (DE.grd (qX (qS 0) (qA (Ve qI (qS 2)))))) (Ta (KI (i:=8) (VI (Sc (Sc (Sc (Sc Tg)))) (Li (DE.FZ (Dj (Fa (qS 0) (Fa (qS 2) (Fa (qP 6) Oa))))) (Li (DE.PZ (DE.grd (qX (qO 5) qI))) (Li (DE.PZ (Fn (i:=7) rfl)) (Li (DE.PZ (Fn (i:=6) rfl)) Iu))))) (by decide)) (Ta (GU (i:=9) (QU (Li (DE.FZ (Dj (Fa (qS 3) (Fa (qX (qO 5) qI) (Fa (qP 7) (Fa (qX (qS 1) (qA (Ve qI (qS 2)))) Oa)))))) (Li (Ji (i:=8) rfl) Iu))) (by decide)) (Qs (Zf2 (Li (C3 (i:=4) (m:=.T) rfl (by decide)) (Li (C3 (i:=9) (m:=.T) rfl (by decide)) (Li (DE.FZ (Yf (Kc (qF (Us (qX (qO 5) qI) qI)) (Kc (qF (Us (qX (qO 5) qI) qI)) (Kc (qF (Ke (g:=id) (qX (qO 5) qI) qI)) Lf))))) Iu)))))))))))))), ?_⟩;refine Pm.ref Fy (g:=fun xs=>_) ?_;rintro⟨N,G,k⟩ (h:Aw N G k);simp only[Fy];obtain⟨n63,nb,g55,gb,k0,k1,b2,b24⟩:=h;symm;rw[ZdD ⟨n63,k0,k1⟩];symm;rw[FS ⟨n63,⟨k0,k1⟩,by lia,by lia⟩];symm;rw[show (if N.getD (54+k).toNat 0%10-5>0 then N.getD (54+k).toNat 0%10-5 else 0)=Ij N k from rfl,show (if N.getD (56+k).toNat 0%12-5>0 then N.getD (56+k).toNat 0%12-5 else 0)=Mk N k from rfl,show N.getD (58+k).toNat 0%3=Xr N k from rfl];rw[show ∀a b c:Int,pApp (PV.lst [.int a,.int b]) (.int c)=.ok (.lst [.int a,.int b,.int c]) from fun _ _ _=>rfl];have hj0:∀x y z:PV,pIx (.lst [x,y,z]) (.int 0)=.ok x:=fun _ _ _=>rfl;have hj1:∀x y z:PV,pIx (.lst [x,y,z]) (.int 1)=.ok y:=fun _ _ _=>rfl;have hj2:∀x y z:PV,pIx (.lst [x,y,z]) (.int 2)=.ok z:=fun _ _ _=>rfl;have hn:0<=Yi N k/\Yi N k<1000000:=nb _ (Y9 (N:=N) (k:=60+k) (by lia) (by lia));have hg:=gb _ (Y9 (N:=G) (k:=2+k) (by lia) (by lia));symm;rw[hj2];symm;generalize hT:(fun(ρ:LI5)=>RS.seq (Rr.thenS (Pq _) _) _)=TAIL;have tail:∀c:LI0,2<=c.length/\c.length<=24->TAIL [.lst (N.map PV.int),.lst (G.map PV.int),.int k,.lst (c.map PV.int),.lst [.lst ((Gh N k).map PV.int),.lst ((Kj N k (Gh N k).length).map PV.int)],.lst [.int (Ij N k),.int (Mk N k),.int (Xr N k)],.non,.non,.non,.non]=.ret (.tup [.lst ((Um N k).map Fc),.lst ([Xn c (Ij N k) (Yi N k) (Zb G (2+k)),Kp (Kj N k c.length) (Mk N k) (Yi N k) c.length].map Fc),Qj (Zh N k)]):=by
  rintro c ⟨c2,c24⟩;rw[<- hT];clear hT TAIL;symm;rw[FS ⟨n63,⟨k0,k1⟩,by lia,by lia⟩];symm;rw[hj1];symm;rw[show N.getD (60+k).toNat 0=Yi N k from rfl];have hb:=(Fu N k (n:=c.length) c2).2;rw[ZdH ⟨by lia,⟨hn.1,by lia⟩,by lia,by lia⟩];symm;rw[hj0];symm;rw[show G.getD (2+k).toNat 0=Zb G (2+k) from rfl];rw[ZdI ⟨by lia,by lia,⟨hn.1,by lia⟩,hg.1,hg.2⟩];symm;rw[hj0,hj1,hj2];symm;rfl
 by_cases cM:Xr N k=1
 ·rw[Hb cM]
  symm;rw[show N.getD (60+k).toNat 0=Yi N k from rfl,show G.getD k.toNat 0=Zb G k from rfl];rw[ZdE ⟨hn.1,by lia⟩];symm;rw[tail _ (FJ _ _)];unfold Ll Ii;rw[Ba cM];rfl
 ·rw[Tb cM]
  symm;rw[tail _ ⟨b2,b24⟩];unfold Ll Ii;rw[Aa cM];rfl
theorem GS{N G:LI0}{k:Int}(h:Aw N G k):Fy.fn [.lst (N.map PV.int),.lst (G.map PV.int),.int k]=.ok (.tup [.lst ((Um N k).map Fc),.lst ((Ll N G k).map Fc),Qj (Zh N k)]):=Pm.fn_eq Fy (N,G,k) h (fun(a:LI0×LI0×Int) e=>by
 obtain⟨N',G',k'⟩:=a;simp only[Fy,List.cons.injEq,PV.lst.injEq,PV.int.injEq,and_true] at e ⊢;rw[Sg e.1,Sg e.2.1,e.2.2])
noncomputable def K4:Pm:=⟨Int,fun i=>[.int i],fun _=>True,fun _=>.ok (.bl true)⟩
theorem Zgx(T:Nc K mg)(F:Zc K "is_whole" "is_whole" HC f fd):Yb P w K mg base Ic 1 f fd ["value"] (Wb K 1 .P W0 K4.fn):=by
 have S:=Zln;walk_at "ok";refine⟨_,_,⟨[],[],[],.P⟩,rfl,(Jb (Kb (ZB (Lg (O7 (K:=K) (n := "int") rfl) rfl T.z_isinstance Xo (Qa (pv 0) (Qa (D4 (v:=.ty "int") rfl T.z_int ZdA rfl) Ga))) (JB (Zk9 (Lg (O7 (K:=K) (n := "bool") rfl) rfl T.z_isinstance Xo (Qa (pv 0) (Qa (D4 (v:=.ty "bool") rfl T.z_bool Zd8 rfl) Ga)))))))),(Ce (Y7 (qA (U8 (qS 0))) (Zfx (qA (U8 (qS 0)))))), ?_⟩;refine Pm.ref K4 (g:=fun xs=>_) ?_;intro (i:Int) _;simp only[K4];symm
theorem ZdR{i:Int}:K4.fn [.int i]=.ok (.bl true):=Pm.fn_eq K4 i trivial fun _ _=>rfl
noncomputable def Yy:Pm:=⟨Int×Int,fun a=>[.int a.1,.int a.2],fun _=>True,fun a=>.ok (.bl (decide (a.2<=a.1)))⟩
theorem AV(T:Nc K mg)(F:Zc K "is_whole_from" "is_whole_from" IC f fd):Yb P w K mg base Ic 2 f fd ["value", "least"] (Wb K 2 .P W0 Yy.fn):=by
 have Zcg:=Wd P w base T.ZeO Zdo (fun F=>Zgx T F);have S:=Zlo;walk_at "ok";refine⟨_,_,⟨[],[],[],.P⟩,rfl,(Jb (Kb (ZB (pO Zcg hr (Qa (pv 0) Ga)) (JB (Ms Zjx (pv 0) (pv 1) (Kg _)))))),(Ce (Y7 (qA (Ul (Fa (qS 0) Oa))) (Zfq (qS 0) (qS 1)))), ?_⟩;refine Pm.ref Yy (g:=fun xs=>_) ?_;rintro⟨i,j⟩ _;simp only[Yy];symm;rw[ZdR];symm
theorem KS{i j:Int}:Yy.fn [.int i,.int j]=.ok (.bl (decide (j<=i))):=Pm.fn_eq Yy (i,j) trivial fun(a:Int×Int) e=>by simp only[Yy] at e ⊢;walk_at "in"
noncomputable def Xy:Pm:=⟨LI0,fun ns=>[.lst (ns.map PV.int)],fun ns=>ns.length<=1000000,fun ns=>.ok (.bl (decide (∀x∈ns,0<=x)))⟩
theorem Zgu(T:Nc K mg)(F:Zc K "is_list_from_nought" "is_list_from_nought" EC f fd):Yb P w K mg base Ic 3 f fd ["values"] (Wb K 1 .P W0 Xy.fn):=by
 have RF:=Wd P w base T.MT WR (fun F=>AV T F);have S:=Zay;walk_at "ok";refine⟨_,_,⟨[],[],[],.P⟩,rfl,(Jb (Kb (ZB (Lg (O7 (K:=K) (n := "list") rfl) rfl T.z_isinstance Xo (Qa (pv 0) (Qa (D4 (v:=.ty "list") rfl T.z_list Zs rfl) Ga))) (JB (Lg (GH (K:=K) rfl) rfl T.z_all XG (Qa (Ep (Zl (K:=K) (pv 0)) (fun _ _ _ _=>(pO RF hr (Qa (pv 1) (Qa Ea Ga)))) Zay.nd rfl) Ga)))))),(Ce (Y7 (qA (U8 (qS 0))) (UI (Fa (qA (Am (DI.c (Bk (Ji (i:=0) rfl))) (qF (Ul (Fa (qS 1) (Fa qI Oa)))))) Oa)))), ?_⟩;refine Pm.ref Xy (g:=fun xs=>_) ?_;intro (ns:LI0) (hn:ns.length<=1000000);simp only[Xy];symm;rw[HX (g:=fun z=>decide (0<=z)) (fun z _=>KS)];symm;rw[BR]
theorem ZdO{ns:LI0}(h:ns.length<=1000000):Xy.fn [.lst (ns.map PV.int)]=.ok (.bl (decide (∀x∈ns,0<=x))):=Pm.fn_eq Xy ns h fun(a:LI0) e=>by simp only[Xy] at e ⊢;walk_at "in"
noncomputable def M4:Pm:=⟨Unit,fun _=>[],fun _=>True,fun _=>.ok (.int (10^60))⟩
theorem Zg0(T:Nc K mg)(F:Zc K "most_seeds" "most_seeds" MC f fd):Yb P w K mg base Ic 1 f fd [] (Wb K 0 .P W0 M4.fn):=by
 have S:=Zlp;walk_at "ok";refine⟨_,_,⟨[],[],[],.P⟩,rfl,(Jb (Kb (Na Yx Ea Ea))),(Ce (Jx qI qI)), ?_⟩;refine Pm.ref M4 (g:=fun xs=>_) ?_;rintro _ _;simp only[M4];symm
theorem ZdT:M4.fn []=.ok (.int (10^60)):=Pm.fn_eq M4 () trivial fun _ _=>rfl
noncomputable def Ss:Pm:=⟨LI0,fun ns=>[.lst (ns.map PV.int)],fun ns=>ns.length<=1000,fun ns=>.ok (.bl (Xh ns))⟩
theorem Zgt(T:Nc K mg)(F:Zc K "is_board" "is_board" DC f fd):Yb P w K mg base Ic 4 f fd ["board"] (Wb K 1 .P W0 Ss.fn):=by
 have Zcd:=Wd P w base T.ZeL Zdl (fun F=>Zgu T F);have Zci:=Wd P w base T.ZeR Zdr (fun F=>Zg0 T F);have S:=Zll;walk_at "ok";refine⟨_,_,⟨[],[],[],.P⟩,rfl,(Wa (Zd (Dz (Wq (pO Zcd hr (Qa (pv 0) Ga)))) (Jb (Kb Fv)) Jd) (Wa (Zd (PW.pt (QB (Oi UA (pLe K T.z_len (Qa (pv 0) Ga)) (LL T.c_FEWEST_PITS rfl) (Kg _)) (AB (Oi Gs (pLe K T.z_len (Qa (pv 0) Ga)) (LL T.c_MOST_PITS rfl) (Kg _))))) (Jb (Kb Fv)) Jd) (Jb (Kb (Ms Zj0 (Lg (R7 (K:=K) rfl) rfl T.z_sum F7 (Qa (pv 0) Ga)) (Zk3 Zci (hr.mono (by decide)) rfl) (Kg _)))))),(Ta (Xc (Ax (Zp (qA (Ul (Fa (qS 0) Oa))))) (Ce Ku) Yc) (Ta (Xc (L8 (Pc (qA (A8 (qA (Zi (Fa (qS 0) Oa))) qI))) (Pc (qA (Us (qA (Zi (Fa (qS 0) Oa))) qI)))) (Ce Ku) Yc) (Ce (Zfu (qA (F8 (Fa (qS 0) Oa))) (qA (Ul Oa)))))), ?_⟩;refine Pm.ref Ss (g:=fun xs=>_) ?_;intro (ns:LI0) (hn:ns.length<=1000);simp only[Ss];symm;rw[ZdO (by lia)];symm;by_cases h3:∀x∈ns,0<=x
 ·rw[Hb h3]
  symm;by_cases h1:(ns.length:Int)<2
  ·rw[Hb h1]
   symm;rw[show Xh ns=false from Tb (by lia)]
  rw[Tb h1];symm;by_cases h2:(24:Int)<ns.length
  ·rw[Hb h2]
   symm;rw[show Xh ns=false from Tb (by lia)]
  rw[Tb h2];symm;rw[ZdT];symm;by_cases h4:ns.sum<=10^60
  ·rw[Hb h4,Fq.mpr ⟨by lia,by lia,h3,h4⟩]
  ·rw[Tb h4,show Xh ns=false from Tb (fun z=>h4 z.2.2.2)]
 ·rw[Tb h3]
  symm;rw[show Xh ns=false from Tb (fun z=>h3 z.2.2.1)]
theorem ZdN{ns:LI0}(h:ns.length<=1000):Ss.fn [.lst (ns.map PV.int)]=.ok (.bl (Xh ns)):=Pm.fn_eq Ss ns h fun(a:LI0) e=>by simp only[Ss] at e ⊢;walk_at "in"
theorem Zkx:Ss.calm:=fun a q h=>by (simp only[Ss] at h;cases h)
noncomputable def Oy:Pm:=⟨LI0,fun ns=>[.lst (ns.map PV.int)],fun ns=>ns.length<=1000,fun ns=>Le (if Xh ns=true then none else some "BadBoard") .non⟩
theorem JV(T:Nc K mg)(F:Zc K "check_board" "check_board" JC f fd):Yb P w K mg base (Rg P w) 5 f fd ["board"] (Wb K 1 .P (W1 K) Oy.fn):=by
 have Zcc:=Wd P w base T.ZeK Zdk (fun F=>Zgt T F);obtain⟨Zm8,XV,Zhe⟩:=QE T.x_exc (n := "BadBoard") (by decide);refine F.okX Zli rfl rfl (fun Ib A outer s H E hr=>?_);have hu:=hr.units;refine⟨_,_,⟨[.S],[],[],.P⟩,rfl,(Jb (Zd (Dz (Wq (pO Zcc hr (Qa (pv 0) Ga)))) (Jb (O4 X3 Zhe rfl (T.x_mg _ _ XV) rfl (Qa Jg Ga))) Jd)),(Xc (Ax (Zp (qA (Pu (Sc Tg) (Pm.calm_fn Zkx) (Fa (qS 0) Oa))))) (D3 XV (Sc Tg) (by decide) (Fa (qA Zg) Oa)) Yc), ?_⟩;refine Pm.ref Oy (g:=fun xs=>_) ?_;intro (ns:LI0) (hn:ns.length<=1000);simp only[Oy];symm;rw[ZdN hn];symm;by_cases h:Xh ns=true
 ·rw[h];symm
 ·rw[Bool.not_eq_true] at h
  rw[h];symm
theorem DH{ns:LI0}(h:ns.length<=1000):Oy.fn [.lst (ns.map PV.int)]=Le (if Xh ns=true then none else some "BadBoard") .non:=Pm.fn_eq Oy ns h fun a e=>by
 simp only[Oy,List.cons.injEq,PV.lst.injEq,and_true] at e ⊢;rw[Sg e]
noncomputable def Vt(l:LI0):Bool:=(List.range (l.length-1)).all fun i=>decide (l.getD i 0<l.getD (i+1) 0)
noncomputable def Ws:Pm:=⟨LI0,fun a=>[.lst (a.map PV.int)],fun a=>a.length<=100000,fun a=>.ok (.bl (Vt a))⟩
theorem Zgw(T:Nc K mg)(F:Zc K "is_rising" "is_rising" GC f fd):Yb P w K mg base Ic 1 f fd ["numbers"] (Wb K 1 .P W0 Ws.fn):=by
 have S:=Zaz;walk_at "ok";refine⟨_,_,⟨[],[],[],.P⟩,rfl,(Jb (Kb (Lg (GH (K:=K) rfl) rfl T.z_all XG (Qa (Ep (Jl rfl T.z_range (Qa (Na Av (pLe K T.z_len (Qa (pv 0) Ga)) Ea) Ga)) (fun _ _ _ _=>(Ms UA (pX K (pv 0) (pv 1)) (pX K (pv 0) (Na Ue (pv 1) Ea)) (Kg _))) Zaz.nd rfl) Ga)))),(Ce (UI (Fa (qA (Am (DI.c (Nk (Fa (qA (Nu (qA (Zi (Fa (qS 0) Oa))) qI)) Oa))) (qF (A8 (qX (qS 0) (qS 1)) (qX (qS 0) (qA (Ve (qS 1) qI))))))) Oa))), ?_⟩;refine Pm.ref Ws (g:=fun xs=>_) ?_;rintro(l:LI0) (hl:l.length<=100000);simp only[Ws];symm;rw[ZiV (g:=fun(i:Nat)=>PV.bl (decide (l.getD i 0<l.getD (i+1) 0))) (fun i hi=>by
  rw[Er];symm;rw[El,show ((i:Int)+1).toNat=i+1 by lia])]
 rw[show (List.range ((l.length:Int)-1).toNat).map (fun(i:Nat)=>PV.bl (decide (l.getD i 0<l.getD (i+1) 0)))=((List.range (l.length-1)).map fun(i:Nat)=>decide (l.getD i 0<l.getD (i+1) 0)).map PV.bl by rw[Me,show ((l.length:Int)-1).toNat=l.length-1 by lia];rfl];symm;unfold Vt;rw[List.all_map];rfl
theorem ZdQ{l:LI0}(h:l.length<=100000):Ws.fn [.lst (l.map PV.int)]=.ok (.bl (Vt l)):=Pm.fn_eq Ws l h fun(a:LI0) e=>by simp only[Ws] at e ⊢;walk_at "in"
theorem Zkz:Ws.calm:=fun a q h=>by (simp only[Ws] at h;cases h)
noncomputable def Ts:Pm:=⟨LI0×Int,fun a=>[.lst (a.1.map PV.int),.int a.2],fun _=>True,fun a=>.ok (.bl (decide (0<=a.2/\a.2<a.1.length)))⟩
theorem Zgv(T:Nc K mg)(F:Zc K "is_pit" "is_pit" FC f fd):Yb P w K mg base Ic 3 f fd ["board", "pit"] (Wb K 2 .P W0 Ts.fn):=by
 have RF:=Wd P w base T.MT WR (fun F=>AV T F);have S:=Zlm;walk_at "ok";refine⟨_,_,⟨[],[],[],.P⟩,rfl,(Jb (Kb (ZB (pO RF hr (Qa (pv 1) (Qa Ea Ga))) (JB (Ms UA (pv 1) (pLe K T.z_len (Qa (pv 0) Ga)) (Kg _)))))),(Ce (Y7 (qA (Ul (Fa (qS 1) (Fa qI Oa)))) (A8 (qS 1) (qA (Zi (Fa (qS 0) Oa)))))), ?_⟩;refine Pm.ref Ts (g:=fun xs=>_) ?_;rintro⟨ns,p⟩ -;simp only[Ts];symm;rw[KS];symm;by_cases h0:0<=p
 ·rw[Hb h0]
  symm;by_cases h1:p<ns.length
  ·rw[Hb h1,show decide (0<=p/\p<(ns.length:Int))=true from Hb ⟨h0,h1⟩]
  ·rw[Tb h1,show decide (0<=p/\p<(ns.length:Int))=false from Tb (fun z=>h1 z.2)]
 ·rw[Tb h0,show decide (0<=p/\p<(ns.length:Int))=false from Tb (fun z=>h0 z.1)]
  symm
theorem ZdP{ns:LI0}{p:Int}:Ts.fn [.lst (ns.map PV.int),.int p]=.ok (.bl (decide (0<=p/\p<ns.length))):=Pm.fn_eq Ts (ns,p) trivial fun(a:LI0×Int) e=>by simp only[Ts] at e ⊢;walk_at "in"
theorem Zky:Ts.calm:=fun a q h=>by (simp only[Ts] at h;cases h)
def Kl(n:Nat)(l:LI0):Prop:=(∀p∈l,0<=p/\p<n)/\Vt l=true/\l.length≠0/\l.length≠n
noncomputable instance (n:Nat) (l:LI0):Decidable (Kl n l):=by unfold Kl;infer_instance
def Bq(n:Nat)(l:LI0):Option Str:=if Kl n l then none else some "BadPits"
theorem Wr{n:Nat}{l:LI0}(h:Kl n l):Bq n l=none:=Ba h
theorem Cn{n:Nat}{l:LI0}(h:¬Kl n l):Bq n l=(some "BadPits":Option Str):=Aa h
noncomputable def Ny:Pm:=⟨LI0×LI0,fun a=>[.lst (a.1.map PV.int),.lst (a.2.map PV.int)],fun a=>a.1.length<=1000/\a.2.length<=1000,fun a=>Le (Bq a.1.length a.2) .non⟩
theorem ZV(T:Nc K mg)(F:Zc K "check_barred" "check_barred" ZC f fd):Yb P w K mg base (Rg P w) 4 f fd ["board", "barred"] (Wb K 2 .P (W1 K) Ny.fn):=by
 have Zcf:=Wd P w base T.ZeN Zdn (fun F=>Zgw T F);have Zce:=Wd P w base T.ZeM Zdm (fun F=>Zgv T F);obtain⟨Zm9,Ix,BJ⟩:=QE T.x_exc (n := "BadPits") (by decide);refine F.okX Zaw rfl rfl (fun Ib A outer s H E hr=>?_);have hu:=hr.units;refine⟨_,_,⟨[.S,.S],[],[],.P⟩,rfl,(Wa (Zd (PW.pt (QB (Dz (Wq (Lg (O7 (K:=K) (n := "list") rfl) rfl T.z_isinstance Xo (Qa (pv 1) (Qa (D4 (v:=.ty "list") rfl T.z_list Zs rfl) Ga))))) (AB (Dz (Wq (Lg (GH (K:=K) rfl) rfl T.z_all XG (Qa (Ep (Zl (K:=K) (pv 1)) (fun _ _ _ _=>(pO Zce hr (Qa (pv 0) (Qa (pv 2) Ga)))) Zaw.nd rfl) Ga))))))) (Jb (O4 X3 BJ rfl (T.x_mg _ _ Ix) rfl (Qa Jg Ga))) Jd) (Wa (Zd (Dz (Wq (pO Zcf hr (Qa (pv 1) Ga)))) (Jb (O4 X3 BJ rfl (T.x_mg _ _ Ix) rfl (Qa Jg Ga))) Jd) (Jb (Zd (PW.pt (QB (pQ K hu (pLe K T.z_len (Qa (pv 1) Ga)) Ea) (AB (pQ K hu (pLe K T.z_len (Qa (pv 1) Ga)) (pLe K T.z_len (Qa (pv 0) Ga)))))) (Jb (O4 X3 BJ rfl (T.x_mg _ _ Ix) rfl (Qa Jg Ga))) Jd)))),(Ta (Xc (L8 (Ax (Zp (qA (U8 (qS 1))))) (Ax (Zp (qA (UI (Fa (qA (Am (DI.c (Bk (Ji (i:=1) rfl))) (qF (Pu (Sc (Sc Tg)) (Pm.calm_fn Zky) (Fa (qS 0) (Fa (qS 2) Oa)))))) Oa)))))) (D3 Ix (Sc Tg) (by decide) (Fa (qA Zg) Oa)) Yc) (Ta (Xc (Ax (Zp (qA (Pu (Sc Tg) (Pm.calm_fn Zkz) (Fa (qS 1) Oa))))) (D3 Ix (Sc Tg) (by decide) (Fa (qA Zg) Oa)) Yc) (Xc (L8 (Pc (qA (Ke (g:=id) (qA (Zi (Fa (qS 1) Oa))) qI))) (Pc (qA (Ke (g:=id) (qA (Zi (Fa (qS 1) Oa))) (qA (Zi (Fa (qS 0) Oa))))))) (D3 Ix (Sc Tg) (by decide) (Fa (qA Zg) Oa)) Yc))), ?_⟩;refine Pm.ref Ny (g:=fun xs=>_) ?_;rintro⟨b,l⟩ ⟨hb,hl⟩;simp only at hb hl;simp only[Ny];symm;rw[HX (g:=fun z=>decide (0<=z/\z<(b.length:Int))) (fun z _=>ZdP)];symm;rw[BR];by_cases h1:∀x∈l,0<=x/\x<(b.length:Int)
 ·rw[Hb h1]
  symm;rw[ZdQ (by lia)];symm;by_cases h2:Vt l=true
  ·rw[h2]
   symm;by_cases h3:l.length=0
   ·rw[Hb (show (l.length:Int)=0 by lia),Cn (fun z=>z.2.2.1 h3)]
    symm
   ·rw[Tb (show ¬(l.length:Int)=0 by lia)]
    symm;by_cases h4:l.length=b.length
    ·rw[Hb (show (l.length:Int)=b.length by lia),Cn (fun z=>z.2.2.2 h4)]
     symm
    ·rw[Tb (show ¬(l.length:Int)=b.length by lia),Wr ⟨h1,h2,h3,h4⟩]
     symm
  ·rw[eq_false_of_ne_true h2,Cn (fun z=>h2 z.2.1)]
   symm
 ·rw[Tb h1,Cn (fun z=>h1 z.1)]
  symm
theorem CH{b l:LI0}(h:b.length<=1000/\l.length<=1000):Ny.fn [.lst (b.map PV.int),.lst (l.map PV.int)]=Le (Bq b.length l) .non:=Pm.fn_eq Ny (b,l) h fun(a:LI0×LI0) e=>by simp only[Ny] at e ⊢;walk_at "in"
theorem Zd1:(10:Nat)^61<2^60000:=by
 calc (10:Nat)^61<=(2^4)^61:=QP (by decide) _
  _=2^244:=by rw[<- Nat.pow_mul]
  _<2^60000:=CP (by decide) (by decide)
def Ps:Pm:=⟨Int×Int,fun a=>[.int a.1,.int a.2],fun a=>(1<=a.1/\a.1<=24)/\a.2<=10^60,fun a=>.ok (.int (Ie a.1 a.2))⟩
theorem Zgq(T:Nc K mg)(F:Zc K "count_boards" "count_boards" QC f fd):Yb P w K mg base Ic 1 f fd ["pits", "seeds"] (Wb K 2 .P W0 Ps.fn):=by
 have S:=AD;walk_at "ok";refine⟨_,_,⟨[],[],[],.P⟩,rfl,(Wa (Zd (Oi UA (pv 1) Ea (Kg _)) (Jb (Kb Ea)) Jd) (Wa (pS 2 AD.nd Ea) (Wa (Tk (ZkI rfl T.z_range (Qa Ea (Qa (pv 0) Ga))) (Xk 3 AD.nd) (Jb (pS 2 AD.nd (Na Fk (Na Bj (pv 2) (Na Ue (pv 1) (pv 3))) (pv 3))))) (Jb (Kb (pv 2)))))),(Ta (Xc (Pc (qA (A8 (qS 1) qI))) (Ce Ak) Yc) (Ta (zP 2 Ak) (Ta (Pk (Γl:=[.S,.S,.P,.U]) (Zf8 (Fa qI (Fa (qS 0) Oa))) rfl (Vl 3) (DS.out (Y:=⟨[.S,.S,.P,.P],[.S,.S,.P,.U],[.S,.S,.P,.U],.P⟩) (Y':=⟨[.S,.S,.P,.U],[.S,.S,.P,.U],[.S,.S,.P,.U],.P⟩) (zP 2 (Qk (qA (Jj (qP 2) (qA (Ve (qS 1) (qP 3))))) (qP 3))) rfl rfl rfl rfl)) (Ce (Fn (i:=2) rfl))))), ?_⟩;refine Pm.ref Ps (g:=fun xs=>_) ?_;rintro⟨p,s⟩ ⟨⟨hp0,hp⟩,hs⟩;simp only at hp0 hp hs;simp only[Ps];unfold Ie;symm;by_cases h:s<0
 ·rw[Hb h,Ba h]
  symm
 ·rw[Tb h,Aa h]
  symm;generalize hw:Rf _ _ _=W;obtain⟨ρ',rfl,v,rfl⟩:=Ml hw (fun i ρ=>∃v,ρ=[.int p,.int s,.int (Dg s i),v]) ⟨_,rfl⟩ (by
   rintro i x ρ hx ⟨v,rfl⟩;obtain⟨hi,rfl⟩:=Tn hx;symm;rw[CL ⟨Zev (by lia) hs (by lia),Xt (show (s+(1+(i:Int))).natAbs<=10^61 by lia) Zd1⟩];symm;exact Hh ⟨.int (1+(i:Int)),by rw[Dg,Int.add_comm 1 (i:Int)]⟩)
  symm;rw[Wn]
theorem ZdJ{p s:Int}(h:(1<=p/\p<=24)/\s<=10^60):Ps.fn [.int p,.int s]=.ok (.int (Ie p s)):=Pm.fn_eq Ps (p,s) h fun(a:Int×Int) e=>by simp only[Ps] at e ⊢;walk_at "in"
theorem Zkv:Ps.calm:=fun a q h=>by (simp only[Ps] at h;cases h)
def Uj(b:LI0):Option Str:=if 1000<Ie b.length b.sum then some "TooMany" else none
def Py:Pm:=⟨LI0,fun a=>[.lst (a.map PV.int)],fun a=>(1<=a.length/\a.length<=24)/\a.sum<=10^60,fun a=>Le (Uj a) .non⟩
theorem UV(T:Nc K mg)(F:Zc K "check_few_boards" "check_few_boards" VC f fd):Yb P w K mg base (Rg P w) 2 f fd ["board"] (Wb K 1 .P (W1 K) Py.fn):=by
 have ZbZ:=Wd P w base T.ZeG Zdh (fun F=>Zgq T F);obtain⟨ZmB,ZW,Zhf⟩:=QE T.x_exc (n := "TooMany") (by decide);refine F.okX Zlj rfl rfl (fun Ib A outer s H E hr=>?_);have hu:=hr.units;refine⟨_,_,⟨[.S],[],[],.P⟩,rfl,(Jb (Zd (Oi Gs (pO ZbZ hr (Qa (pLe K T.z_len (Qa (pv 0) Ga)) (Qa (Lg (R7 (K:=K) rfl) rfl T.z_sum F7 (Qa (pv 0) Ga)) Ga))) (LL T.c_MOST_BOARDS rfl) (Kg _)) (Jb (O4 X3 Zhf rfl (T.x_mg _ _ ZW) rfl (Qa Jg Ga))) Jd)),(Xc (Pc (qA (Us (qA (Pu (Sc (Sc Tg)) (Pm.calm_fn Zkv) (Fa (qA (Zi (Fa (qS 0) Oa))) (Fa (qA (F8 (Fa (qS 0) Oa))) Oa)))) qI))) (D3 ZW (Sc Tg) (by decide) (Fa (qA Zg) Oa)) Yc), ?_⟩;refine Pm.ref Py (g:=fun xs=>_) ?_;rintro(b:LI0) ⟨⟨h0,h1⟩,h2⟩;simp only[Py];symm;rw[ZdJ ⟨⟨by lia,by lia⟩,h2⟩];symm;by_cases c:1000<Ie b.length b.sum
 ·rw[Hb c,show Uj b=(some "TooMany":Option Str) from Ba c]
  symm
 ·rw[Tb c,show Uj b=none from Aa c]
  symm
theorem EH{b:LI0}(h:(1<=b.length/\b.length<=24)/\b.sum<=10^60):Py.fn [.lst (b.map PV.int)]=Le (Uj b) .non:=Pm.fn_eq Py b h fun(a:LI0) e=>by simp only[Py] at e ⊢;walk_at "in"
noncomputable def Wy:Pm:=⟨LI0×LI0,fun a=>[.lst (a.1.map PV.int),.lst (a.2.map PV.int)],fun a=>a.1.length<=1000,fun a=>.ok (.lst ((Pa a.1.length a.2).map PV.int))⟩
theorem S8(T:Nc K mg)(F:Zc K "free_pits" "free_pits" BC f fd):Yb P w K mg base Ic 1 f fd ["board", "barred"] (Wb K 2 .F W0 Wy.fn):=by
 have S:=RM;walk_at "ok";refine⟨_,_,⟨[],[],[],.F⟩,rfl,(Jb (Kb (Ay (Jl rfl T.z_range (Qa (pLe K T.z_len (Qa (pv 0) Ga)) Ga)) (Ev RM.nd) (fun _ _ _ _=>(XA (fun _ _ h=>h) (Oi (FY (K:=K) hu) (pv 2) (pv 1) rfl))) (fun _ _ _ _=>(pv 2)) Wu RM.nd rfl))),(Eg (Lu (k:=1) (DI.c (Nk (Fa (qA (Zi (Fa (qS 0) Oa))) Oa))) Xw (Pc (qA (AI (g:=(!·)) (qS 2) (qS 1)))) (qF (DE.grd (qS 2))))), ?_⟩;refine Pm.ref Wy (g:=fun xs=>_) ?_;rintro⟨b,l⟩ (hb:b.length<=1000);simp only[Wy];symm;rw[ZfX (p:=fun i=>decide ((i:Int) ∉ l)) (g:=fun(i:Nat)=>.int (i:Int)) (fun i hi=>by
  rw[Er];symm;rw[C4];symm;by_cases e:(i:Int)∈l
  ·rw[Hb e,Tb (fun z=>z e)]
   symm
  ·rw[Tb e,Hb e]
   symm)]
 symm;unfold Pa;rw[Me,El];rfl
theorem L7{b l:LI0}(h:b.length<=1000):Wy.fn [.lst (b.map PV.int),.lst (l.map PV.int)]=.ok (.lst ((Pa b.length l).map PV.int)):=Pm.fn_eq Wy (b,l) h fun(a:LI0×LI0) e=>by simp only[Wy] at e ⊢;walk_at "in"
noncomputable def Qz:Pm:=⟨LI0×LI0×Int,fun a=>[.lst (a.1.map PV.int),.lst (a.2.1.map PV.int),.int a.2.2],fun a=>a.1.length<=24/\(0<=a.2.2/\a.2.2<a.1.length)/\a.2.2 ∉ a.2.1/\∃q∈a.2.1,0<=q/\q<a.1.length,fun a=>.ok (.int (Vh a.1.length a.2.1 a.2.2))⟩
theorem Zg6(T:Nc K mg)(F:Zc K "steps_to_bar" "steps_to_bar" YC f fd):Yb P w K mg base Ic 1 f fd ["board", "barred", "pit"] (Wb K 3 .P W0 Qz.fn):=by
 have S:=YM;walk_at "ok";refine⟨_,_,⟨[],[],[],.P⟩,rfl,(Wa (pS 3 YM.nd Ea) (Wa (YL PassesOwn.never (Oi (FY (K:=K) hu) (Na Od (Na Ue (pv 2) (pv 3)) (pLe K T.z_len (Qa (pv 0) Ga))) (pv 1) rfl) (Jb (CZ (i:=3) YM.nd rfl (by walk_at "lo") Ea Mx))) (Jb (Kb (pv 3))))),(Ta (zP 3 Ak) (Ta (LI (Γ:=[.S,.S,.S,.P]) (Pc (qA (AI (g:=(!·)) (qA (Nd (qA (Ve (qS 2) (qP 3))) (qA (Zi (Fa (qS 0) Oa))))) (qS 1)))) (DU (i:=3) rfl qI)) (Ce (Fn (i:=3) rfl)))), ?_⟩;refine Pm.ref Qz (g:=fun xs=>_) ?_;rintro⟨b,l,p⟩ ⟨hl,⟨p0,p1⟩,hp,hq⟩;simp only at hl p0 p1 hp hq;simp only[Qz];have D:=P8 p0 p1 hp hq;generalize Vh b.length l p=d at D;have d1:=D.d1;have dn:=D.dn;symm;generalize hw:Op _ _ _=W;obtain⟨ρ',rfl,rfl⟩:=JO hw (d-1) (fun i ρ=>ρ=[.lst (b.map PV.int),.lst (l.map PV.int),.int p,.int ((i:Int)+1)]) rfl (by
  rintro i ρ hi rfl;have m:=D.min (i+1) (by lia) (by lia);constructor
  ·symm
   rw[C4];symm;rw[show p+((i:Int)+1)=p+((i+1:Nat):Int) by lia,Tb m];symm
  ·symm
   exact Hh (by simp)) (by
  rintro ρ rfl;symm;rw[C4];symm;rw[show p+(((d-1:Nat):Int)+1)=p+(d:Int) by lia,Hb D.at_];symm)
 symm;rw[show ((d-1:Nat):Int)+1=(d:Int) by lia]
theorem ZdZ{b l:LI0}{p:Int}(h:b.length<=24/\(0<=p/\p<b.length)/\p ∉ l/\∃q∈l,0<=q/\q<b.length):Qz.fn [.lst (b.map PV.int),.lst (l.map PV.int),.int p]=.ok (.int (Vh b.length l p)):=Pm.fn_eq Qz (b,l,p) h fun(a:LI0×LI0×Int) e=>by simp only[Qz] at e ⊢;walk_at "in"
noncomputable def bQ(t:Bool)(ns:LI0):PV:=if t=true then .tup (ns.map PV.int) else .lst (ns.map PV.int)
theorem Zkd{t:Bool}{ns:LI0}:Pq [bQ t ns]=.ok (.int ns.length):=by
 cases t
 ·exact OY ns
 ·exact Zke
theorem ZL{t:Bool}{ns:LI0}{k:Int}(h0:0<=k)(h1:k<ns.length):pIx (bQ t ns) (.int k)=.ok (.int (ns.getD k.toNat 0)):=by
 cases t
 ·exact GA h0 h1
 ·exact JL h0 h1
theorem ZcO{t:Bool}{ns:LI0}:ER (bQ t ns)=.ok (ns.map PV.int):=by
 cases t<;>rfl
theorem KR{t t':Bool}{ns ns':LI0}(h:bQ t ns=bQ t' ns'):ns=ns':=by
 cases t<;>cases t'<;>simp only[bQ,Bool.false_eq_true,if_true,if_false,PV.tup.injEq,PV.lst.injEq,reduceCtorEq] at h
 ·exact Sg h
 ·exact Sg h
noncomputable def Uz:Pm:=⟨Bool×LI0×Int,fun a=>[bQ a.1 a.2.1,.int a.2.2],fun a=>0<=a.2.2/\a.2.2<a.2.1.length/\a.2.1.length<=1000,fun a=>.ok (FL (Fz a.2))⟩
theorem Zg5(T:Nc K mg)(F:Zc K "sow_pit" "sow_pit" WC f fd):Yb P w K mg base Ic 1 f fd ["board", "pit"] (Wb K 2 .F W0 Uz.fn):=by
 have S:=Ut;walk_at "ok";refine⟨_,_,⟨[],[],[],.F⟩,rfl,(Wa (pS 2 Ut.nd (pLe K T.z_len (Qa (pv 0) Ga))) (Wa (pS 3 Ut.nd (Na Fk (pX K (pv 0) (pv 1)) (pv 2))) (Wa (pS 4 Ut.nd (Na Od (pX K (pv 0) (pv 1)) (pv 2))) (Wa (GZ (i:=5) Ut.nd rfl (ZkJ (K:=K) (pv 0)) (fun _ _ _ _=>(Na Ue (pv 8) (pv 3))) rfl) (Wa (N4 (pv 3) (G4 (pv 5) (pv 1) Qr)) (Wa (pS 6 Ut.nd (pv 1)) (Wa (Tk (Jl rfl T.z_range (Qa (pv 4) Ga)) (Xk 7 Ut.nd) (Wa (pS 6 Ut.nd (Na Od (Na Ue (pv 6) Ea) (pv 2))) (Jb (UB (pv 5) (pv 6) (Y8 (K:=K)) Ea Mx Qr)))) (Jb (Kb (Hm (Qa (pv 5) (Qa (pv 6) Ga)))))))))))),(Ta (zP 2 (Zi (Fa (qS 0) Oa))) (Ta (zP 3 (Qk (qX (qS 0) (qS 1)) (qP 2))) (Ta (zP 4 (Nd (qX (qS 0) (qS 1)) (qP 2))) (Ta (II (i:=5) (Am (DI.c (Zf9 (Ji (i:=0) rfl))) (qF (Ve (qS 8) (qP 3)))) (by decide)) (Ta (E3 (i:=5) rfl (Fn (i:=3) rfl) (qS 1)) (Ta (zP 6 (DE.grd (qS 1))) (Ta (Pk (Γl:=[.S,.S,.P,.P,.P,.O,.P,.U]) (Nk (Fa (qP 4) Oa)) rfl (Vl 7) (DS.out (Y:=⟨[.S,.S,.P,.P,.P,.O,.P,.P],[.S,.S,.P,.P,.P,.O,.P,.U],[.S,.S,.P,.P,.P,.O,.P,.U],.F⟩) (Y':=⟨[.S,.S,.P,.P,.P,.O,.P,.U],[.S,.S,.P,.P,.P,.O,.P,.U],[.S,.S,.P,.P,.P,.O,.P,.U],.F⟩) (Ta (zP 6 (Nd (qA (Ve (qP 6) qI)) (qP 2))) (K8 (i:=5) rfl rfl (qP 6) qI)) rfl rfl rfl rfl)) (Eg (G8 (Kc (qM 5) (Kc (qF (Fn (i:=6) rfl)) Lf))))))))))), ?_⟩;refine Pm.ref Uz (g:=fun xs=>_) ?_;rintro⟨t,ns,p⟩ ⟨h0,h1,h2⟩;simp only at h0 h1 h2;simp only[Uz];symm
 try rw[Zkd]
 symm
 try rw[ZL h0 h1]
 symm
 try rw[HY (VT 3 (by lia) (by lia))]
 symm
 try rw[ZL h0 h1]
 symm
 try rw[UL (show (0:Int)<ns.length by lia)]
 symm
 try rw[TV]
 symm
 try rw[ZcO]
 symm
 try rw[Sx (by simp;lia)]
 symm;have hc:Fg (fun x=>RK x (.int (ns.getD p.toNat 0/ns.length))) (ns.map PV.int)=.ok ((ns.map fun z=>z+ns.getD p.toNat 0/ns.length).map PV.int):=by
  rw[QK (g:=fun x=>match x with|.int z=>PV.int (z+ns.getD p.toNat 0/ns.length)|_=>.non)]
  ·simp[Function.comp_def]
  ·intro x hx
   obtain⟨z,_,rfl⟩:=Ze.mp hx;rfl
 rw[hc];symm
 first|rw[DL h0 (by simp;lia),QN h0 h1]|rw[QN h0 h1]
 symm;have o0:=Af (ns.getD p.toNat 0) (show (ns.length:Int)≠0 by lia);have o1:=Qf (ns.getD p.toNat 0) (show (0:Int)<ns.length by lia)
 try rw[WY (by lia)]
 symm;generalize hs:ns.getD p.toNat 0/ns.length=rounds;generalize ho:ns.getD p.toNat 0%ns.length=over at o0 o1;generalize hb:(fun(x:PV) (ρ:LI5)=>_)=body;obtain⟨ρ',e1,e2⟩:=GV (b:=body) (xs:=Kh 0 over.toNat) (ρ:=[bQ t ns,.int p,.int ns.length,.int rounds,.int over,.lst ((tab ns.length (Ej ns p 0)).map PV.int),.int p,.non])
  (fun i ρ=>∃v,ρ=[bQ t ns,.int p,.int ns.length,.int rounds,.int over,.lst ((tab ns.length (Ej ns p i)).map PV.int),.int ((p+i)%ns.length),v]) ⟨_,by rw[HE,Int.add_zero,Sl h0 h1]⟩ (by
  rintro i x ρ hx ⟨v,rfl⟩;obtain⟨hi,rfl⟩:=Tn hx;subst hb;have m1:=V4 h0 h1 (show (0:Int)<=i by lia) (by lia);have m2:=V4 h0 h1 (show (0:Int)<=(i:Int)+1 by lia) (by lia);have e:((p+(i:Int))%ns.length+1)%ns.length=(p+((i:Int)+1))%ns.length:=by
   rw[m1,m2]
   split
   ·rw[show p+(i:Int)+1=p+((i:Int)+1) by lia,m2]
   ·rw[Sl (by lia) (by lia)];split<;>lia
  have b:0<=(p+((i:Int)+1))%ns.length/\(p+((i:Int)+1))%ns.length<ns.length:=by rw[m2];split<;>lia
  symm
  try rw[UL (by lia)]
  symm
  first|rw[e,GA b.1 (by rw[Qt];exact b.2)]|rw[e]
  symm;rw[OD (by lia)];have hst:=ZaA h0 h1 (i:=i) (by lia);have hset:=DL (ns:=tab ns.length (Ej ns p i)) (k:=(p+((i:Int)+1))%ns.length) (y:=Ej ns p i ((p+((i:Int)+1))%ns.length).toNat+1) b.1 (by rw[Qt];exact b.2);rw[hst] at hset;rw[hset];symm;exact Hh ⟨_,by rw[show ((i+1:Nat):Int)=(i:Int)+1 by lia]⟩)
 obtain⟨v,rfl⟩:=e2;rw[e1];symm;rw[Wn,Hl o0];show Rr.ok (PV.tup _)=Rr.ok (PV.tup _);unfold Fz Uf Za8;rw[ho]
theorem ZdY{t:Bool}{ns:LI0}{p:Int}(h:0<=p/\p<ns.length/\ns.length<=1000):Uz.fn [bQ t ns,.int p]=.ok (FL (Fz (ns,p))):=
 Pm.fn_eq Uz (t,ns,p) h fun⟨t',ns',k'⟩ e=>by
  simp only[Uz,List.cons.injEq,PV.int.injEq,and_true] at e ⊢;rw[KR e.1,e.2]
noncomputable def Iv:Pm:=⟨Bool×LI0×LI0,fun a=>[bQ a.1 a.2.1,.lst (a.2.2.map PV.int)],fun a=>(∀p∈a.2.2,0<=p/\p<a.2.1.length)/\a.2.1.length<=1000/\a.2.2.length<=1000,fun a=>.ok (.lst ((Yd a.2.2 a.2.1).map Cr))⟩
theorem WV{i:Int}{b:LI0}:grd (.tup [.int i,Qb b])=.ok (.tup [.int i,Qb b]):=by
 unfold grd;simp only[PV.flat,PV.flats,Ru,Bool.and_self,if_true]
theorem YI(T:Nc K mg)(F:Zc K "sowings_of" "sowings_of" XC f fd):Yb P w K mg base Ic 2 f fd ["board", "pits"] (Wb K 2 .F W0 Iv.fn):=by
 have Zcn:=Wd P w base T.ZeY Zdw (fun F=>Zg5 T F);have S:=XM;walk_at "ok";refine⟨_,_,⟨[],[],[],.F⟩,rfl,(Jb (Kb (Ay (Zl (K:=K) (pv 1)) (Ev XM.nd) (fun _ _ _ _=>(XA (fun _ _ h=>h) (Oi Gs (pX K (pv 0) (pv 2)) Ea (Kg _)))) (fun _ _ _ _=>(Hm (Qa (pv 2) (Qa (Pl (Sw (K:=K)) rfl T.z_tuple Rw (Qa (pX K (pO Zcn hr (Qa (pv 0) (Qa (pv 2) Ga))) Ea) Ga)) Ga)))) Wu XM.nd rfl))),(Eg (Lu (k:=1) (DI.c (Bk (Ji (i:=1) rfl))) Xw (Pc (qA (Us (qX (qS 0) (qS 2)) qI))) (qF (DE.grd (B3 (Fa (qS 2) (Fa (Vx (Fa (qX (qA (Dj (Fa (qS 0) (Fa (qS 2) Oa)))) qI) Oa)) Oa))))))), ?_⟩;refine Pm.ref Iv (g:=fun xs=>_) ?_;rintro⟨t,b,Q⟩ ⟨h0,h1,h2⟩;simp only at h0 h1 h2;simp only[Iv];symm;rw[RI (q:=PV.int) (p:=fun p=>decide (0<b.getD p.toNat 0)) (g:=fun p=>Cr (p,Uf b p)) (fun p hp=>by
  have hp':=h0 p hp;symm;rw[ZL (by lia) (by lia)];symm;by_cases c:0<b.getD p.toNat 0
  ·rw[Hb c]
   symm;rw[ZdY ⟨by lia,by lia,h1⟩];simp only[FL,Fz];symm;rw[show Dv [PV.lst ((Uf b p).map PV.int)]=.ok (Qb (Uf b p)) from rfl];symm;rw[WV];symm;rfl
  ·rw[Tb c]
   symm)]
 symm;unfold Yd;rw[Me];rfl
theorem MS{t:Bool}{b Q:LI0}(h:(∀p∈Q,0<=p/\p<b.length)/\b.length<=1000/\Q.length<=1000):Iv.fn [bQ t b,.lst (Q.map PV.int)]=.ok (.lst ((Yd Q b).map Cr)):=Pm.fn_eq Iv (t,b,Q) h (fun⟨t',b',Q'⟩ e=>by
 simp only[Iv,List.cons.injEq,PV.lst.injEq,and_true] at e ⊢;rw[KR e.1,Sg e.2])
theorem LS{b Q:LI0}(h:(∀p∈Q,0<=p/\p<b.length)/\b.length<=1000/\Q.length<=1000):Iv.fn [Qb b,.lst (Q.map PV.int)]=.ok (.lst ((Yd Q b).map Cr)):=MS (t:=true) h
theorem ZgK{b:LI0}{i:Int}:grd (.tup [Qb b,.int i])=.ok (.tup [Qb b,.int i]):=by
 unfold grd;simp only[PV.flat,PV.flats,Ru,Bool.and_self,if_true]
theorem N3{t:LI0}:grd (Qb t)=.ok (Qb t):=TV
theorem ZaX:∀{a b:LI1},a.map tI=b.map tI->a=b
 |[],[],_=>rfl
 |[],y::b,h=>by simp at h
 |x::a,[],h=>by simp at h
 |x::a,y::b,h=>by
  simp only[Dd,List.cons.injEq] at h;rw[ID h.1,ZaX h.2]
theorem LD{x:LI0}{bs:LI1}:tI x∈bs.map tI ↔ x∈bs:=by
 constructor
 ·intro h
  obtain⟨y,hy,e⟩:=Ze.mp h;rw[<- ID e];exact hy
 ·exact fun h=>WE h
structure QG(lv:LI1)(Q:LI0)(bs:LI1)(vs:LI5):Prop where
 hl:∀x∈lv,(∀p∈Q,0<=p/\p<x.length)/\x.length<=1000
 hq:Q.length<=1000
 ln:vs.length=bs.length
 sz:bs.length+lv.length*Q.length<=900000
 fl:PV.flats vs=true
theorem Za9(Q x:LI0):(Yd Q x).length<=Q.length:=by
 unfold Yd;rw[Lb];exact Xv _ _
structure Rh(n:Nat)(st:NB):Prop where
 ln:st.2.2.length=st.2.1.length
 sz:st.2.1.length<=n
 fz:st.1.length<=n
theorem Rh.step{n:Nat}{st:NB}(h:Rh n st)(x:LI0)(y:Int×LI0):Rh (n+1) (Mh x st y):=by
 have h1:=h.ln;have h2:=h.sz;have h3:=h.fz;unfold Mh
 split
 ·exact⟨h1,by lia,by lia⟩
 ·exact⟨by simp[h1],by simp;lia,by simp;lia⟩
theorem Rh.fold{x:LI0}:∀{L:List (Int×LI0)}{n:Nat}{st:NB},Rh n st->Rh (n+L.length) (L.foldl (Mh x) st)
 |[],n,st,h=>h
 |y::L,n,st,h=>by
  have:=Rh.fold (x:=x) (L:=L) (h.step x y);rw[Dh,show n+(L.length+1)=n+1+L.length by lia];exact this
theorem Rh.up{n m:Nat}{st:NB}(h:Rh n st)(hm:n<=m):Rh m st:=⟨h.ln,Oe h.sz hm,Oe h.fz hm⟩
theorem Rh.lv{Q:LI0}:∀{lv:LI1}{n:Nat}{st:NB},Rh n st->Rh (n+lv.length*Q.length) (Uh Q lv st)
 |[],n,st,h=>by simpa[Uh] using h
 |x::lv,n,st,h=>by
  have h1:Rh (n+Q.length) (MR Q x st):=(Rh.fold (x:=x) (L:=Yd Q x) h).up (by have:=Za9 Q x;lia);have:=Rh.lv (Q:=Q) (lv:=lv) h1;rw[Dh,Nat.add_mul,show n+(lv.length*Q.length+1*Q.length)=n+Q.length+lv.length*Q.length by lia];exact this
noncomputable def Jz:Pm:=⟨LI1×LI0×LI1×LI5,fun a=>[.box none (.dt (a.2.2.1.map tI)) a.2.2.2,.lst (a.1.map Qb),.lst (a.2.1.map PV.int)],fun a=>QG a.1 a.2.1 a.2.2.1 a.2.2.2,fun a=>.ok (.tup [.lst ((Uh a.2.1 a.1 ([],a.2.2)).1.map Qb),.box none (.dt ((Uh a.2.1 a.1 ([],a.2.2)).2.1.map tI)) (Uh a.2.1 a.1 ([],a.2.2)).2.2])⟩
theorem Zg1(T:Nc K mg)(F:Zc K "next_level" "next_level" NC f fd):Yb P w K mg base Ic 3 f fd ["level", "pits", "came_from"] (BN K 2 2 Jz.fnM):=by
 have K1:=Wd P w base T.WH ZH (fun F=>YI T F);refine F.okM (n:=2) (j:=2) CD rfl rfl (by decide) (fun Ib A outer s H E hr=>?_);have hu:=hr.units;refine⟨_,_,⟨[.S,.S,.O,.U,.U,.U],[],[],.N⟩,rfl,rfl,(Wa (pS 3 CD.nd (We Ga)) (Wa (Tk (Zl (K:=K) (pv 0)) (Xk 4 CD.nd) (Jb (Tk (Zl (K:=K) (pO K1 hr (Qa (pv 4) (Qa (pv 1) Ga)))) (Xk 5 CD.nd) (Jb (Zd (ZkR (Zkw (Ln hu) (pX K (pv 5) Ea) (pv 2))) (Wa (DZ (Ln hu) (pv 2) (pX K (pv 5) Ea) (Hm (Qa (pv 4) (Qa (pX K (pv 5) Ea) Ga))) rfl) (Jb (Ai (Gv PySem.F.plainAttrs_list PySem.F.slot_list_append PySem.F.type_list_append Wx (pv 3) (Qa (pX K (pv 5) Ea) Ga))))) Jd))))) (Jb (Kb (pv 3))))),(Ta (zF 3 (Yf Lf)) (Ta (Pk (Γl:=[.S,.S,.O,.O,.U,.U]) (Bk (Ji (i:=0) rfl)) rfl (Vl 4) (DS.out (Y:=⟨[.S,.S,.O,.O,.P,.U],[.S,.S,.O,.O,.U,.U],[.S,.S,.O,.O,.U,.U],.N⟩) (Y':=⟨[.S,.S,.O,.O,.U,.U],[.S,.S,.O,.O,.U,.U],[.S,.S,.O,.O,.U,.U],.N⟩) (Pk (Γl:=[.S,.S,.O,.O,.P,.U]) (Bk (DE.FZ (Dj (Fa (qP 4) (Fa (qS 1) Oa))))) rfl (Vl 5) (DS.out (Y:=⟨[.S,.S,.O,.O,.P,.P],[.S,.S,.O,.O,.P,.U],[.S,.S,.O,.O,.P,.U],.N⟩) (Y':=⟨[.S,.S,.O,.O,.P,.U],[.S,.S,.O,.O,.P,.U],[.S,.S,.O,.O,.P,.U],.N⟩) (Xc (Zp (qA (Zfo (qX (qP 5) qI) (qO 2)))) (Ta (EU (i:=2) rfl (qF (DE.grd (B3 (Fa (qP 4) (Fa (qX (qP 5) qI) Oa))))) (qX (qP 5) qI)) (Qx (i:=3) rfl rfl (qF (DE.grd (qX (qP 5) qI))))) Yc) rfl rfl rfl rfl)) rfl rfl rfl rfl)) (ZfH (j:=2) (qM 3) rfl))), ?_⟩;refine Pm.refM2 Jz ?_;rintro⟨lv,Q,bs,vs⟩ (hp:QG lv Q bs vs) a b' xs e;cases e;simp only[Jz];have hq:=hp.hq;have hz:=hp.sz;symm;simp only[ins,PL];symm;generalize hw:Rf _ _ _=W;obtain⟨ρ',rfl,v,w,rfl⟩:=Ml hw (fun i ρ=>∃v w,ρ=[.lst (lv.map Qb),.lst (Q.map PV.int),.box (some a) (.dt ((Uh Q (lv.take i) ([],bs,vs)).2.1.map tI)) (Uh Q (lv.take i) ([],bs,vs)).2.2,.lst ((Uh Q (lv.take i) ([],bs,vs)).1.map Qb),v,w]) ⟨_,_,rfl⟩ (by
  rintro i x ρ hx ⟨v,w,rfl⟩;rw[Cd] at hx;obtain⟨b,hb,rfl⟩:=BF.mp hx;have hi:i<lv.length:=(Pd.mp hb).1;obtain⟨b1,b2⟩:=hp.hl b (Tc hb);have hs:Uh Q (lv.take (i+1)) ([],bs,vs)=(Yd Q b).foldl (Mh b) (Uh Q (lv.take i) ([],bs,vs)):=by
   unfold Uh;rw[List.take_succ,hb,KO];rfl
  rw[hs];have I0:Rh (bs.length+(lv.take i).length*Q.length) (Uh Q (lv.take i) ([],bs,vs)):=Rh.lv ⟨hp.ln,Cb _,Og _⟩;have hsz:bs.length+(lv.take i).length*Q.length+Q.length<=900000:=by
   have h1:(lv.take i).length=i:=by rw[Ug];lia
   rw[h1];have h2:(i+1)*Q.length<=lv.length*Q.length:=Nat.mul_le_mul_right _ hi;rw[Nat.add_mul] at h2;lia
  generalize Uh Q (lv.take i) ([],bs,vs)=st0 at I0;symm;rw[N3];symm;rw[LS ⟨b1,b2,hq⟩];symm;have hsl:=Za9 Q b;generalize Yd Q b=SL at hsl;generalize hw2:Rf _ _ _=W2;obtain⟨ρ2,rfl,v2,rfl⟩:=Ml hw2 (fun n ρ=>∃v,ρ=[.lst (lv.map Qb),.lst (Q.map PV.int),.box (some a) (.dt (((SL.take n).foldl (Mh b) st0).2.1.map tI)) ((SL.take n).foldl (Mh b) st0).2.2,.lst (((SL.take n).foldl (Mh b) st0).1.map Qb),Qb b,v]) ⟨_,rfl⟩ (by
   rintro n x ρ hx ⟨v,rfl⟩;rw[Cd] at hx;obtain⟨y,hy,rfl⟩:=BF.mp hx;have hn:n<SL.length:=(Pd.mp hy).1;have hs2:(SL.take (n+1)).foldl (Mh b) st0=Mh b ((SL.take n).foldl (Mh b) st0) y:=by
    rw[List.take_succ,hy,KO];rfl
   rw[hs2];have I:=Rh.fold (x:=b) (L:=SL.take n) I0;have htl:(SL.take n).length<=Q.length:=by rw[Ug];lia
   generalize (SL.take n).foldl (Mh b) st0=st at I;obtain⟨i1,i2,i3⟩:=I;unfold Cr;rw[WV];symm;rw[ZjE];symm;unfold Mh;by_cases c:y.2∈st.2.1
   ·obtain⟨z,hz⟩:=GR (ks:=st.2.1.map tI) (xs:=st.2.2) (by rw[Lb];lia) (LD.mpr c)
    rw[hz,Ba c];symm;exact Hh ⟨_,rfl⟩
   ·rw[HR (fun z=>c (LD.mp z)),Aa c]
    symm;rw[ZgK];symm;rw[GY (by simp only[PV.flat,PV.flats,Ru,Bool.and_self]) (by lia),IZ (fun z=>c (LD.mp z)),KZ (fun z=>c (LD.mp z))];symm;rw[N3];symm;rw[ZjC (by rw[Lb];lia)];symm;refine Hh ⟨.tup [.int y.1,Qb y.2], ?_⟩;rw[Kr,Kr];rfl)
  symm;refine Hh ⟨Qb b,v2, ?_⟩;rw[Lb,YE])
 symm;rw[Lb,YE];rw[Zlb];rfl
theorem ZdU{lv:LI1}{Q:LI0}{bs:LI1}{vs:LI5}(h:QG lv Q bs vs):Jz.fnM (.box none (.dt (bs.map tI)) vs) [.lst (lv.map Qb),.lst (Q.map PV.int)]=.ok (.tup [.lst ((Uh Q lv ([],bs,vs)).1.map Qb),.box none (.dt ((Uh Q lv ([],bs,vs)).2.1.map tI)) (Uh Q lv ([],bs,vs)).2.2]):=Pm.fn_eq Jz (lv,Q,bs,vs) h (fun(a:LI1×LI0×LI1×LI5) e=>by
 have e':a=(lv,Q,bs,vs):=by
  simp only[Jz,List.cons.injEq,PV.lst.injEq,PV.box.injEq,and_true] at e;obtain⟨e1,e2,e3⟩:=e;refine Prod.ext (R5 e2) (Prod.ext (Sg e3) (Prod.ext (ZaX ?_) e1.2.2));have:=e1.2.1;injection this
 rw[e'])
theorem ZjF{b:LI0}:EA (Qb b) .non=.ok (.box none (.dt [tI b]) [.non]):=by
 rw[WD];unfold EA;simp only[E9]
noncomputable def Az:Pm:=⟨LI0×LI0,fun a=>[.lst (a.1.map PV.int),.lst (a.2.map PV.int)],fun a=>a.1.length<=24/\∃s,Hj a.1.length s (Pa a.1.length a.2) a.1,fun a=>.ok (.box none (.dt ((Ih (Pa a.1.length a.2) a.1).map tI)) (wk (Pa a.1.length a.2) a.1 (Vo (Pa a.1.length a.2) a.1)).2.2)⟩
theorem Zg7(T:Nc K mg)(F:Zc K "walk_from" "walk_from" ZD f fd):Yb P w K mg base Ic 4 f fd ["board", "barred"] (Wb K 2 .F W0 Az.fn):=by
 have Uu:=Wd P w base T.W7 G7 (fun F=>S8 T F);have Zcj:=Wd P w base T.ZeS Zds (fun F=>Zg1 T F);have S:=Y4;walk_at "ok";refine⟨_,_,⟨[],[],[],.F⟩,rfl,(Wa (pS 2 Y4.nd (pO Uu hr (Qa (pv 0) (Qa (pv 1) Ga)))) (Wa (pS 3 Y4.nd (Zk5 (Ln hu) (Pl (Sw (K:=K)) rfl T.z_tuple Rw (Qa (pv 0) Ga)) E4)) (Wa (pS 4 Y4.nd (We (Qa (Pl (Sw (K:=K)) rfl T.z_tuple Rw (Qa (pv 0) Ga)) Ga))) (Wa (YL PassesOwn.never (ZkS (K:=K) (pv 4)) (Jb (pS 4 Y4.nd (pO Zcj hr (Qa (pv 4) (Qa (pv 2) (Qa (pv 3) Ga))))))) (Jb (Kb (pv 3))))))),(Ta (zF 2 (Dj (Fa (qS 0) (Fa (qS 1) Oa)))) (Ta (zF 3 (Zfm (Vx (Fa (qS 0) Oa)) B8)) (Ta (zF 4 (Yf (Kc (qF (DE.grd (Vx (Fa (qS 0) Oa)))) Lf))) (Ta (LI (Γ:=[.S,.S,.O,.O,.O]) (ZfM (qO 4)) (ZfI (l:=4) (ZfF (i:=3) rfl (Sc (Sc Tg)) (OT (BU (l:=4) (md:=.O) rfl (by decide)) (OT (BU (l:=2) (md:=.O) rfl (by decide)) (Zfd Zfe)))) (by decide))) (Eg (qM 3)))))), ?_⟩;refine Pm.ref Az (g:=fun xs=>_) ?_;rintro⟨b,l⟩ ⟨hl,s,F⟩;simp only at hl F;simp only[Az];symm;rw[L7 (by lia)];have hpl:=T8 b.length l;unfold Ih;generalize Pa b.length l=Q at F hpl;symm;obtain⟨w1,w2,w3⟩:=F.end;have hT:Dv [PV.lst (b.map PV.int)]=.ok (Qb b):=rfl;rw[hT];symm;rw[ZjF];symm;rw[hT];symm;rw[N3];symm;generalize hw:Op _ _ _=W;obtain⟨ρ',rfl,rfl⟩:=JO hw (Vo Q b) (fun i ρ=>ρ=[.lst (b.map PV.int),.lst (l.map PV.int),.lst (Q.map PV.int),.box none (.dt ((wk Q b i).2.1.map tI)) (wk Q b i).2.2,.lst ((wk Q b i).1.map Qb)]) rfl (by
  rintro i ρ hi rfl;have W:=Bt Q b i;have hle:=F.le i;have hsub:(wk Q b i).1.length<=1000:=by
   cases i with
   |zero=>simp[wk]
   |succ i =>
    have:=Zb2 Q b i;rw[this,Nh] at hle;lia
  constructor
  ·symm
   obtain⟨y,ys,e⟩:=KE (w3 i hi);rw[e];rfl
  ·symm
   rw[Zed (ZdU (lv:=(wk Q b i).1) (Q:=Q) (bs:=(wk Q b i).2.1) (vs:=(wk Q b i).2.2) ⟨fun x hx=>by
    have B:=(W.re x (W.sub x hx)).bs F.hP F.hb;exact⟨fun p hp=>by have:=F.hP p hp;have:=B.1;lia,by have:=B.1;lia⟩,by lia,W.ln,by
    have:(wk Q b i).1.length*Q.length<=1000*24:=Nat.mul_le_mul hsub (by lia);lia,W.fl⟩)]
   symm;exact Hh rfl) (by
  rintro ρ rfl;rw[w2];symm;rfl)
 symm
theorem Zea{b l:LI0}(h:b.length<=24/\∃s,Hj b.length s (Pa b.length l) b):Az.fn [.lst (b.map PV.int),.lst (l.map PV.int)]=.ok (.box none (.dt ((Ih (Pa b.length l) b).map tI)) (wk (Pa b.length l) b (Vo (Pa b.length l) b)).2.2):=Pm.fn_eq Az (b,l) h fun(a:LI0×LI0) e=>by simp only[Az] at e ⊢;walk_at "in"
noncomputable def Rs:Pm:=⟨Bool×LI0×LI0,fun a=>[if a.1=true then Qb a.2.1 else .lst (a.2.1.map PV.int),.lst (a.2.2.map PV.int)],fun a=>(∀p∈a.2.2,0<=p/\p<a.2.1.length)/\a.2.2.length<=1000,fun a=>.ok (.int ((a.2.2.map fun p=>a.2.1.getD p.toNat 0).sum))⟩
theorem Zgs(T:Nc K mg)(F:Zc K "free_seeds" "free_seeds" CC f fd):Yb P w K mg base Ic 1 f fd ["board", "pits"] (Wb K 2 .P W0 Rs.fn):=by
 have S:=Zax;walk_at "ok";refine⟨_,_,⟨[],[],[],.P⟩,rfl,(Jb (Kb (Lg (R7 (K:=K) rfl) rfl T.z_sum F7 (Qa (Ep (Zl (K:=K) (pv 1)) (fun _ _ _ _=>(pX K (pv 0) (pv 2))) Zax.nd rfl) Ga)))),(Ce (F8 (Fa (qA (Am (DI.c (Bk (Ji (i:=1) rfl))) (qF (DE.grd (qX (qS 0) (qS 2)))))) Oa))), ?_⟩;refine Pm.ref Rs (g:=fun xs=>_) ?_;rintro⟨t,b,Q⟩ ⟨h0,h1⟩;simp only at h0 h1;simp only[Rs];cases t with
 |false =>
  rw[Aa (by simp)];symm;rw[BK (g:=fun p=>b.getD p.toNat 0) (fun p hp=>by
   have:=h0 p hp;symm)]
  symm
 |true =>
  rw[Ba rfl];symm;rw[BK (g:=fun p=>b.getD p.toNat 0) (fun p hp=>by
   have:=h0 p hp;unfold Qb;symm;rw[JL (by lia) (by lia)];symm)]
  symm
theorem ZdM{t:Bool}{b Q:LI0}(h:(∀p∈Q,0<=p/\p<b.length)/\Q.length<=1000):Rs.fn (Rs.enc (t,b,Q))=.ok (.int ((Q.map fun p=>b.getD p.toNat 0).sum)):=Pm.fn_eq Rs (t,b,Q) h (fun(a:Bool×LI0×LI0) e=>by
 obtain⟨t',b',Q'⟩:=a;simp only[Rs,List.cons.injEq,PV.lst.injEq,and_true] at e;have e2:=Sg e.2;have e1:b'=b:=by
  have e1:=e.1;unfold Qb at e1;cases t<;>cases t'<;>simp at e1<;>exact Sg e1
 show Rr.ok (PV.int ((Q'.map fun p=>b'.getD p.toNat 0).sum))=_;rw[e1,e2];rfl)
theorem ZdL{b Q:LI0}(h:(∀p∈Q,0<=p/\p<b.length)/\Q.length<=1000):Rs.fn [Qb b,.lst (Q.map PV.int)]=.ok (.int ((Q.map fun p=>b.getD p.toNat 0).sum)):=ZdM (t:=true) h
noncomputable def Tq:Pm:=⟨LI0×LI0×LI0,fun a=>[Qb a.1,.lst (a.2.1.map PV.int),.lst (a.2.2.map PV.int)],fun a=>(∀p∈a.2.1,0<=p/\p<a.1.length)/\a.2.1.length<=1000/\a.2.2.length=a.2.1.length/\(∀x∈a.1,0<=x/\x<=10^60)/\(∀x∈a.2.2,0<=x/\x<=100),
 fun a=>.ok (Qb [(a.2.1.map fun p=>a.1.getD p.toNat 0).sum,((List.range a.2.1.length).map fun i=>a.1.getD (a.2.1.getD i 0).toNat 0*a.2.2.getD i 0).sum])⟩
theorem Zg3(T:Nc K mg)(F:Zc K "seeds_and_steps" "seeds_and_steps" SC f fd):Yb P w K mg base Ic 2 f fd ["board", "pits", "steps"] (Wb K 3 .P W0 Tq.fn):=by
 have Zcb:=Wd P w base T.ZeI Zdj (fun F=>Zgs T F);have S:=WM;walk_at "ok";refine⟨_,_,⟨[],[],[],.P⟩,rfl,(Jb (Kb (Hm (Qa (pO Zcb hr (Qa (pv 0) (Qa (pv 1) Ga))) (Qa (Lg (R7 (K:=K) rfl) rfl T.z_sum F7 (Qa (Ay (ZkH (K:=K) rfl T.z_enumerate (Qa (pv 1) Ga)) (Zku (K:=K) WM.nd rfl) (fun _ _ _ _=>WA) (fun _ _ _ _=>(Na Bj (pX K (pv 0) (pv 4)) (pX K (pv 2) (pv 3)))) hv2 WM.nd rfl) Ga)) Ga))))),(Ce (DE.grd (B3 (Fa (qA (Ul (Fa (qS 0) (Fa (qS 1) Oa)))) (Fa (qA (F8 (Fa (qA (Lu (k:=2) (DI.c (Zf6 (Li (Ji (i:=1) rfl) Iu))) Zfg NI (qF (Jj (qX (qS 0) (qS 4)) (qX (qS 2) (qS 3)))))) Oa))) Oa))))), ?_⟩;refine Pm.ref Tq (g:=fun xs=>_) ?_;rintro⟨b,Q,S⟩ ⟨h0,h1,h2,h3,h4⟩;simp only at h0 h1 h2 h3 h4;simp only[Tq];symm;rw[ZdL ⟨h0,by lia⟩];symm;rw[Sx (by rw[ZfS];simp;lia)];symm;rw[ZfW (g:=fun(i:Nat)=>PV.int (b.getD (Q.getD i 0).toNat 0*S.getD i 0)) (fun i hi=>by
  have hq:=h0 (Q.getD i 0) (M3 hi);have e1:=h3 _ (M3 (x:=(Q.getD i 0).toNat) (by lia:(Q.getD i 0).toNat<b.length));have e2:=h4 _ (M3 (by lia:i<S.length));unfold Qb;symm;rw[JL (by lia) (by lia)];symm;rw[CL ⟨Xt (show (b.getD (Q.getD i 0).toNat 0).natAbs<=10^61 by lia) JS,Xt (show (S.getD (i:Int).toNat 0).natAbs<=10^61 by rw[El];lia) JS⟩,El];symm)]
 symm;rw[show (List.range Q.length).map (fun(i:Nat)=>PV.int (b.getD (Q.getD i 0).toNat 0*S.getD i 0))=((List.range Q.length).map fun(i:Nat)=>b.getD (Q.getD i 0).toNat 0*S.getD i 0).map PV.int by rw[Me];rfl];symm;rfl
theorem ZdW{b Q S:LI0}(h:(∀p∈Q,0<=p/\p<b.length)/\Q.length<=1000/\S.length=Q.length/\(∀x∈b,0<=x/\x<=10^60)/\(∀x∈S,0<=x/\x<=100)):Tq.fn [Qb b,.lst (Q.map PV.int),.lst (S.map PV.int)]=.ok (Qb [(Q.map fun p=>b.getD p.toNat 0).sum,((List.range Q.length).map fun i=>b.getD (Q.getD i 0).toNat 0*S.getD i 0).sum]):=Pm.fn_eq Tq (b,Q,S) h (fun(a:LI0×LI0×LI0) e=>by
 have e':a=(b,Q,S):=by
  simp only[Tq,Qb,List.cons.injEq,PV.tup.injEq,PV.lst.injEq,and_true] at e;exact Prod.ext (Sg e.1) (Prod.ext (Sg e.2.1) (Sg e.2.2))
 rw[e'])
noncomputable def Sy:Pm:=⟨LI0×LI0,fun a=>[.lst (a.1.map PV.int),.lst (a.2.map PV.int)],fun a=>a.1.length<=24/\∃s,s<=10^60/\Bg a.1.length s a.2 a.1,fun a=>.ok (.lst ((De a.1.length a.2 a.1).map Qb))⟩
theorem Zgr(T:Nc K mg)(F:Zc K "ends_first" "ends_first" W4 f fd):Yb P w K mg base Ic 6 f fd ["board", "barred"] (Wb K 2 .F W0 Sy.fn):=by
 have Uu:=Wd P w base T.W7 G7 (fun F=>S8 T F);have Zco:=Wd P w base T.ZeZ Zdx (fun F=>Zg6 T F);have Zcp:=Wd P w base T.Zfa Zdy (fun F=>Zg7 T F);have Zcl:=Wd P w base T.ZeV Zdu (fun F=>Zg3 T F);refine F.okL BD rfl rfl (fun Ib A outer s H E hcd hr=>?_);obtain⟨c0,P0,hT0,rfl⟩:=Zih T.l_lam hcd;have hu:=hr.units;refine⟨_,_,⟨[],[],[],.F⟩,rfl,(Wa (pS 2 BD.nd (pO Uu hr (Qa (pv 0) (Qa (pv 1) Ga)))) (Wa (pS 3 BD.nd (Ep (Zl (K:=K) (pv 2)) (fun _ _ _ _=>(pO Zco hr (Qa (pv 0) (Qa (pv 1) (Qa (pv 4) Ga))))) BD.nd rfl)) (Jb (Kb (ZkA (K:=K) (x := "found") (FN:=["pits", "steps"]) (js:=[2,3]) (k:=3) rfl T.z_sorted YG (Qa (Pl (Zek rfl) rfl T.z_list Zs (Qa (pO Zcp hr (Qa (pv 0) (Qa (pv 1) Ga))) Ga)) Ga) hT0 rfl rfl (Bu.of (N:=["board", "barred", "pits", "steps"]) (sc:=Ob W4) (by decide +kernel)) (hr.mono (by decide)) (fun f c s H=>VZ Zcl (hr.lam (by decide)) rfl (Qa (pv 0) (Qa (pv 1) (Qa (pv 2) Ga))))))))),(Ta (zF 2 (Dj (Fa (qS 0) (Fa (qS 1) Oa)))) (Ta (zF 3 (Am (Zf7 (qO 2)) (qF (Ul (Fa (qS 0) (Fa (qS 1) (Fa (qS 4) Oa))))))) (Eg (Zf0 (m:=Tq.fn) (ja:=2) (jb:=3) (Fa (qA (Zfv (Fa (qA (Dj (Fa (qS 0) (Fa (qS 1) Oa)))) Oa))) Oa) rfl (by decide) rfl (by decide))))), ?_⟩;refine Pm.ref Sy (g:=fun xs=>_) ?_;rintro⟨b,l⟩ ⟨hl,s,hs,F⟩;simp only at hl F;simp only[Sy];symm;rw[L7 (by lia)];have hpl:=T8 b.length l;symm;rw[BK (g:=fun p=>(Vh b.length l p:Int)) (fun p hp=>by
  obtain⟨q1,q2⟩:=K3.mp hp;symm;rw[ZdZ ⟨hl,q1,q2,F.bar⟩];symm)]
 symm;rw[Zea ⟨hl,_,F.f⟩];have W:=Bt (Pa b.length l) b (Vo (Pa b.length l) b);have hle:=F.f.le (Vo (Pa b.length l) b);symm;rw[show List.map tI (Ih (Pa b.length l) b)=(Ih (Pa b.length l) b).map (fun b=>b.map Sum.inl) from rfl,Zkf (bs:=Ih (Pa b.length l) b) W.ln (by unfold Ih;lia)];symm;have hk:∀x∈Ih (Pa b.length l) b,Tq.fn [Qb x,.lst ((Pa b.length l).map PV.int),.lst (((Pa b.length l).map fun p=>(Vh b.length l p:Int)).map PV.int)]=.ok (Qb (Bp b.length l x)):=fun x hx=>by
  have B:=(F.f.mem.mp hx).bs F.f.hP F.f.hb;rw[ZdW ⟨fun p hp=>by have:=F.f.hP p hp;have:=B.1;lia,by lia,by simp,fun y hy=>⟨B.2.1 y hy,by have:=RJ B.2.1 hy;have:=B.2.2;lia⟩,fun y hy=>by
   obtain⟨p,hp,rfl⟩:=Ze.mp hy;obtain⟨q1,q2⟩:=K3.mp hp;have:=(P8 q1.1 q1.2 q2 F.bar).dn;lia⟩]
  have hB:((List.range (Pa b.length l).length).map fun i=>x.getD ((Pa b.length l).getD i 0).toNat 0*((Pa b.length l).map fun p=>(Vh b.length l p:Int)).getD i 0)=((Pa b.length l).map fun p=>x.getD p.toNat 0*(Vh b.length l p:Int)):=by
   have:=Wf (List.map fun p=>x.getD p.toNat 0*(Vh b.length l p:Int)) (AK (Pa b.length l) 0);rw[<- this,Me];refine Om fun i hi=>?_;have hi:=Qg.mp hi;simp only[Function.comp];congr 1;rw[Bb,Cd,Rc hi,Bb,Rc hi];rfl
  rw[hB];rfl
 rw[Zko ⟨Zai _ _,by unfold Ih;lia,fun x hx=>⟨_,_,hk x hx⟩⟩];have hkz:(Ih (Pa b.length l) b).map (Cp Tq.fn (.lst ((Pa b.length l).map PV.int)) (.lst (((Pa b.length l).map fun p=>(Vh b.length l p:Int)).map PV.int)))=(Ih (Pa b.length l) b).map (Bp b.length l):=Om fun x hx=>by
  unfold Cp;rw[hk x hx];rfl
 rw[hkz];have hfin:((Qh ((Ih (Pa b.length l) b).map (Bp b.length l))).map fun i=>Qb ((Ih (Pa b.length l) b).getD i []))=(De b.length l b).map Qb:=by unfold De;rw[Me];rfl
 rw[hfin,MK Ru (by have:=F.len;lia)];symm
theorem ZdK{b l:LI0}(h:b.length<=24/\∃s,s<=10^60/\Bg b.length s l b):Sy.fn [.lst (b.map PV.int),.lst (l.map PV.int)]=.ok (.lst ((De b.length l b).map Qb)):=Pm.fn_eq Sy (b,l) h fun(a:LI0×LI0) e=>by simp only[Sy] at e ⊢;walk_at "in"
noncomputable def Zz:Pm:=⟨LI0,fun L=>[.lst (L.map PV.int)],fun L=>L.length<=1000,fun L=>.ok (.int (Dp L:Nat))⟩
theorem Zgz(T:Nc K mg)(F:Zc K "least_missing" "least_missing" LC f fd):Yb P w K mg base Ic 1 f fd ["numbers"] (Wb K 1 .P W0 Zz.fn):=by
 have S:=SM;walk_at "ok";refine⟨_,_,⟨[],[],[],.P⟩,rfl,(Wa (pS 1 SM.nd Ea) (Wa (YL PassesOwn.never (Oi (Zjy (K:=K) hu) (pv 1) (pv 0) rfl) (Jb (CZ (i:=1) SM.nd rfl (by walk_at "lo") Ea Mx))) (Jb (Kb (pv 1))))),(Ta (zP 1 Ak) (Ta (LI (Γ:=[.S,.P]) (Pc (qA (AI (g:=id) (qP 1) (qS 0)))) (DU (i:=1) rfl qI)) (Ce (Fn (i:=1) rfl)))), ?_⟩;refine Pm.ref Zz (g:=fun xs=>_) ?_;intro (L:LI0) (hL:L.length<=1000);simp only[Zz];obtain⟨m1,m2,m3⟩:=SX L;generalize Dp L=m at m1 m2 m3;symm;generalize hw:Op _ _ _=W;obtain⟨ρ',rfl,rfl⟩:=JO hw m (fun i ρ=>ρ=[.lst (L.map PV.int),.int (i:Nat)]) rfl (by
  rintro i ρ hi rfl;constructor
  ·symm
   rw[C4,Hb (m3 i hi)];symm
  ·symm
   exact Hh rfl) (by
  rintro ρ rfl;symm;rw[C4,Tb m1];symm)
 symm
theorem ZdS{L:LI0}(h:L.length<=1000):Zz.fn [.lst (L.map PV.int)]=.ok (.int (Dp L:Nat)):=Pm.fn_eq Zz L h fun(a:LI0) e=>by simp only[Zz] at e ⊢;walk_at "in"
noncomputable def Zt:Pm:=⟨LI0×LI0,fun a=>[.lst (a.1.map PV.int),.lst (a.2.map PV.int)],fun a=>a.1.length<=24/\∃s,s<=10^60/\Bg a.1.length s a.2 a.1,fun a=>.ok (.box none (.dt ((De a.1.length a.2 a.1).map tI)) ((De a.1.length a.2 a.1).map fun x=>.int (Vc (Pa a.1.length a.2) x)))⟩
theorem ZJ(T:Nc K mg)(F:Zc K "worths_from" "worths_from" UD f fd):Yb P w K mg base Ic 7 f fd ["board", "barred"] (Wb K 2 .F W0 Zt.fn):=by
 have Uu:=Wd P w base T.W7 G7 (fun F=>S8 T F);have Zca:=Wd P w base T.ZeH Zdi (fun F=>Zgr T F);have Zch:=Wd P w base T.ZeQ Zdq (fun F=>Zgz T F);have K1:=Wd P w base T.WH ZH (fun F=>YI T F);have S:=J5;walk_at "ok";refine⟨_,_,⟨[],[],[],.F⟩,rfl,(Wa (pS 2 J5.nd (pO Uu hr (Qa (pv 0) (Qa (pv 1) Ga)))) (Wa (pS 3 J5.nd Zk6) (Wa (Tk (Zl (K:=K) (pO Zca hr (Qa (pv 0) (Qa (pv 1) Ga)))) (Xk 4 J5.nd) (Jb (DZ (Ln hu) (pv 3) (pv 4) (pO Zch hr (Qa (Ep (Zl (K:=K) (pO K1 hr (Qa (pv 4) (Qa (pv 2) Ga)))) (fun _ _ _ _=>(Hv (Ln hu) (pv 3) (pX K (pv 5) Ea) (fun _ _=>rfl))) J5.nd rfl) Ga)) rfl))) (Jb (Kb (pv 3)))))),(Ta (zF 2 (Dj (Fa (qS 0) (Fa (qS 1) Oa)))) (Ta (zF 3 Zfn) (Ta (Pk (Γl:=[.S,.S,.O,.O,.U]) (Bk (DE.FZ (Dj (Fa (qS 0) (Fa (qS 1) Oa))))) rfl (Vl 4) (DS.out (Y:=⟨[.S,.S,.O,.O,.P],[.S,.S,.O,.O,.U],[.S,.S,.O,.O,.U],.F⟩) (Y':=⟨[.S,.S,.O,.O,.U],[.S,.S,.O,.O,.U],[.S,.S,.O,.O,.U],.F⟩) (EU (i:=3) rfl (qF (Ul (Fa (qA (Am (DI.c (Bk (DE.FZ (Dj (Fa (qP 4) (Fa (qO 2) Oa)))))) (qF (DE.grd (Mu (qO 3) (qX (qS 5) qI)))))) Oa))) (qP 4)) rfl rfl rfl rfl)) (Eg (qM 3))))), ?_⟩;refine Pm.ref Zt (g:=fun xs=>_) ?_;rintro⟨b,l⟩ ⟨hl,s,hs,F⟩;simp only at hl F;simp only[Zt];symm;rw[L7 (by lia)];symm;rw[ZdK ⟨hl,s,hs,F⟩];symm;have Ae:=F.len;have nd:=Bx b.length l b;have hpl:=T8 b.length l;generalize hw:Rf _ _ _=W;obtain⟨ρ',rfl,v,rfl⟩:=Ml hw (fun i ρ=>∃v,ρ=[.lst (b.map PV.int),.lst (l.map PV.int),.lst ((Pa b.length l).map PV.int),.box none (.dt (((De b.length l b).take i).map tI)) (((De b.length l b).take i).map fun x=>.int (Vc (Pa b.length l) x)),v]) ⟨_,rfl⟩ (by
  rintro i x ρ hx ⟨v,rfl⟩;rw[Cd] at hx;cases hy:(De b.length l b)[i]? with
  |none=>rw[hy] at hx;cases hx
  |some y =>
   rw[hy] at hx;have hx:x=Qb y:=by simpa using hx.symm
   subst hx;have hi:=(Pd.mp hy).1;have ry:=F.mem.mp (Tc hy);have B:=ry.bs F.f.hP F.f.hb;rw[N3];symm;rw[LS ⟨fun p hp=>by have:=F.f.hP p hp;have:=B.1;lia,by have:=B.1;lia,by lia⟩];symm;have hsl:(Yd (Pa b.length l) y).length<=24:=by
    unfold Yd;rw[Lb];exact Oe (Xv _ _) (by lia)
   rw[Sx (by rw[Lb];lia)];symm;rw[Y3 (q:=Cr) (g:=fun z=>.int (Vc (Pa b.length l) z.2)) (fun z hz=>by
    obtain⟨z1,z2,z3⟩:=Ez.mp hz;obtain⟨j,hj,ej⟩:=F.ahead hy z1 z2;rw[<- z3] at ej;unfold Cr;symm;rw[Bv (IR (f:=fun x=>PV.int (Vc (Pa b.length l) x)) nd hj ej)];symm)]
   symm;rw[show ((Yd (Pa b.length l) y).map fun z=>PV.int (Vc (Pa b.length l) z.2))=((Yd (Pa b.length l) y).map fun z=>Vc (Pa b.length l) z.2).map PV.int by rw[Me];rfl,ZdS (by rw[Lb];lia)];symm;have hv:((Dp ((Yd (Pa b.length l) y).map fun z=>Vc (Pa b.length l) z.2):Nat):Int)=Vc (Pa b.length l) y:=(F.go ry).wt.symm;rw[hv,GY rfl (by rw[Lb,Ug];lia),IZ (ZaV nd hy),KZ (ZaV nd hy)];symm;exact Hh ⟨_,by rw[Zbm (f:=tI) hy,Zbm (f:=fun x=>PV.int (Vc (Pa b.length l) x)) hy]⟩)
 symm;rw[Lb,YE]
theorem M7{b l:LI0}(h:b.length<=24/\∃s,s<=10^60/\Bg b.length s l b):Zt.fn [.lst (b.map PV.int),.lst (l.map PV.int)]=.ok (.box none (.dt ((De b.length l b).map tI)) ((De b.length l b).map fun x=>.int (Vc (Pa b.length l) x))):=Pm.fn_eq Zt (b,l) h fun(a:LI0×LI0) e=>by simp only[Zt] at e ⊢;walk_at "in"
theorem YA:Zt.calm:=fun a q h=>by (simp only[Zt] at h;cases h)
def Lp(P x:LI0)(w:Int):Int×LI0:=((Yd P x).filter fun y=>decide (Vc P y.2=w)).headD (0,[])
theorem ZlG{P x:LI0}{w:Int}(h:∃y∈Yd P x,Vc P y.2=w):Lp P x w∈Yd P x/\Vc P (Lp P x w).2=w/\∃ys,((Yd P x).filter fun y=>decide (Vc P y.2=w))=Lp P x w::ys:=by
 obtain⟨y,hy,e⟩:=h;unfold Lp;have hm:y∈(Yd P x).filter fun y=>decide (Vc P y.2=w):=Wl.mpr ⟨hy,Hb e⟩;cases hf:(Yd P x).filter fun y=>decide (Vc P y.2=w) with
 |nil=>rw[hf] at hm;simp at hm
 |cons z zs =>
  have hz:z∈(Yd P x).filter fun y=>decide (Vc P y.2=w):=by rw[hf];simp
  obtain⟨z1,z2⟩:=Wl.mp hz;exact⟨z1,Wi z2,zs,rfl⟩
theorem QO{n:Nat}{s:Int}{l b:LI0}(F:Bg n s l b){k:Nat}(h:(k:Int)<Vc (Pa n l) b):∃y∈Yd (Pa n l) b,Vc (Pa n l) y.2=k:=by
 have e:Vc (Pa n l) b=(Dp ((Yd (Pa n l) b).map fun y=>Vc (Pa n l) y.2):Nat):=F.wt;obtain⟨_,_,m3⟩:=SX ((Yd (Pa n l) b).map fun y=>Vc (Pa n l) y.2);obtain⟨y,hy,e2⟩:=Ze.mp (m3 k (by lia));exact⟨y,hy,e2⟩
theorem Pw{E:LI1}{f:LI0->PV}{y:LI0}(nd:E.Nodup)(hy:y∈E):Ye (E.map tI) (E.map f) (tI y)=some (f y):=by
 obtain⟨j,hj⟩:=Wj hy;have:=IR (f:=f) nd (Pd.mp hj).1 hj;rwa [YE] at this
noncomputable def Xs:Pm:=⟨LI0×LI0×Int,fun a=>[.lst (a.1.map PV.int),.lst (a.2.1.map PV.int),.box none (.dt ((De a.1.length a.2.1 a.1).map tI)) ((De a.1.length a.2.1 a.1).map fun x=>.int (Vc (Pa a.1.length a.2.1) x)),.int a.2.2],fun a=>a.1.length<=24/\(∃s,Bg a.1.length s a.2.1 a.1)/\∃y∈Yd (Pa a.1.length a.2.1) a.1,Vc (Pa a.1.length a.2.1) y.2=a.2.2,fun a=>.ok (.int (Lp (Pa a.1.length a.2.1) a.1 a.2.2).1)⟩
theorem BV(T:Nc K mg)(F:Zc K "pit_to_worth" "pit_to_worth" OC f fd):Yb P w K mg base Ic 3 f fd ["board", "barred", "found", "worth"] (Wb K 4 .P W0 Xs.fn):=by
 have K1:=Wd P w base T.WH ZH (fun F=>YI T F);have Uu:=Wd P w base T.W7 G7 (fun F=>S8 T F);have S:=TM;walk_at "ok";refine⟨_,_,⟨[],[],[],.P⟩,rfl,(Wa (EZ (i:=4) TM.nd rfl (Zl (K:=K) (pO K1 hr (Qa (pv 0) (Qa (pO Uu hr (Qa (pv 0) (Qa (pv 1) Ga))) Ga)))) (Ev TM.nd) (fun _ _ _ _=>(XA (fun _ _ h=>h) (pQ K hu (Hv (Ln hu) (pv 2) (pX K (pv 5) Ea) (fun _ _=>rfl)) (pv 3)))) (fun _ _ _ _=>(pX K (pv 5) Ea)) Wu rfl) (Jb (Kb (pX K (pv 4) Ea)))),(Ta (II (i:=4) (Lu (k:=1) (DI.c (Bk (DE.FZ (Dj (Fa (qS 0) (Fa (qA (Dj (Fa (qS 0) (Fa (qS 1) Oa)))) Oa)))))) Xw (Pc (qA (Ke (g:=id) (Mu (qS 2) (qX (qS 5) qI)) (qS 3)))) (qF (DE.grd (qX (qS 5) qI)))) (by decide)) (Ce (DE.grd (qX (qO 4) qI)))), ?_⟩;refine Pm.ref Xs (g:=fun xs=>_) ?_;rintro⟨b,l,w⟩ ⟨hl,⟨s,F⟩,hex⟩;simp only at hl F hex;simp only[Xs];have hpl:=T8 b.length l;have nd:=Bx b.length l b;symm;rw[L7 (by lia)];symm;rw[show PV.lst (b.map PV.int)=bQ false b from rfl,MS ⟨fun p hp=>by have:=F.f.hP p hp;lia,by lia,by lia⟩,show bQ false b=PV.lst (b.map PV.int) from rfl];symm;have hsl:(Yd (Pa b.length l) b).length<=24:=by
  unfold Yd;rw[Lb];exact Oe (Xv _ _) (by lia)
 rw[Sx (by rw[Lb];lia)];symm;rw[RI (q:=Cr) (p:=fun y=>decide (Vc (Pa b.length l) y.2=w)) (g:=fun y=>.int y.1) (fun z hz=>by
  obtain⟨z1,z2,z3⟩:=Ez.mp hz;have rz:z.2∈De b.length l b:=F.mem.mpr (by rw[z3];exact .step .refl z1 z2);unfold Cr;symm;rw[Bv (Pw (f:=fun x=>PV.int (Vc (Pa b.length l) x)) nd rz)];symm;by_cases c:Vc (Pa b.length l) z.2=w
  ·rw[Hb c]
   symm
  ·rw[Tb c]
   symm)]
 symm;obtain⟨_,_,ys,hf⟩:=ZlG hex;rw[hf];rw[Dd,show ∀(x:PV) (xs:LI5),pIx (PV.lst (x::xs)) (.int 0)=.ok x from fun x xs=>by simp[pIx,Ef,Lj]];symm
theorem FH{b l:LI0}{w:Int}(h:b.length<=24/\(∃s,Bg b.length s l b)/\∃y∈Yd (Pa b.length l) b,Vc (Pa b.length l) y.2=w):Xs.fn [.lst (b.map PV.int),.lst (l.map PV.int),.box none (.dt ((De b.length l b).map tI)) ((De b.length l b).map fun x=>.int (Vc (Pa b.length l) x)),.int w]=.ok (.int (Lp (Pa b.length l) b w).1):=Pm.fn_eq Xs (b,l,w) h (fun(a:LI0×LI0×Int) e=>by
 obtain⟨b',l',w'⟩:=a;simp only[Xs,List.cons.injEq,PV.lst.injEq,PV.int.injEq,and_true] at e;have e1:=Sg e.1;have e2:=Sg e.2.1;show Rr.ok (PV.int (Lp (Pa b'.length l') b' w').1)=_;rw[e1,e2,e.2.2.2];rfl)
theorem IL:Xs.calm:=fun a q h=>by (simp only[Xs] at h;cases h)
noncomputable def U5(b l o m:LI0):PV:=if Vc (Pa b.length l) b=Vc (Pa o.length m) o then .non else if Vc (Pa o.length m) o<Vc (Pa b.length l) b then .tup [.int 0,.int (Lp (Pa b.length l) b (Vc (Pa o.length m) o)).1] else .tup [.int 1,.int (Lp (Pa o.length m) o (Vc (Pa b.length l) b)).1]
noncomputable def Ar(b l o m:LI0):Option Str:=if Xh b=true then if Xh o=true then match Bq b.length l with
 |none=>match Bq o.length m with
  |none=>match Uj b with
   |none=>Uj o
   |some q=>some q
  |some q=>some q
 |some q=>some q
 else some "BadBoard"
 else some "BadBoard"
theorem AZ{b l:LI0}(B:Bw b)(h2:Kl b.length l)(h3:¬1000<Ie b.length b.sum):b.length<=24/\2<=b.length/\(b.sum<=10^60/\Bg b.length b.sum l b):=by
 have l1:=B.lo;obtain⟨q,hq⟩:=List.exists_mem_of_ne_nil l (fun z=>h2.2.2.1 (by rw[z];rfl));exact⟨B.hi,B.lo,B.sm,⟨by lia,fun p hp=>(K3.mp hp).1,⟨rfl,B.nn,rfl⟩,by lia⟩,q,hq,h2.1 q hq⟩
noncomputable def Vz:Pm:=⟨LI0×LI0×LI0×LI0,fun a=>[.lst (a.1.map PV.int),.lst (a.2.1.map PV.int),.lst (a.2.2.1.map PV.int),.lst (a.2.2.2.map PV.int)],fun a=>(a.1.length<=1000/\a.2.1.length<=1000)/\a.2.2.1.length<=1000/\a.2.2.2.length<=1000,fun a=>Le (Ar a.1 a.2.1 a.2.2.1 a.2.2.2) (U5 a.1 a.2.1 a.2.2.1 a.2.2.2)⟩
theorem Zg4(T:Nc K mg)(F:Zc K "side_by_side" "side_by_side" TC f fd):Yb P w K mg base (Rg P w) 8 f fd ["board", "barred", "other", "other_barred"] (Wb K 4 .P (W1 K) Vz.fn):=by
 have S6:=Fm (P:=P) (w:=w) (base:=base) T.FT PR (fun F=>JV T F);have R6:=Fm (P:=P) (w:=w) (base:=base) T.ET OR (fun F=>ZV T F);have T6:=Fm (P:=P) (w:=w) (base:=base) T.GT SR (fun F=>UV T F);have Hw:=Wd P w base T.XH JH (fun F=>ZJ T F);have W6:=Wd P w base T.NT YR (fun F=>BV T F);refine F.okX X4 rfl rfl (fun Ib A outer s H E hr=>?_);have hu:=hr.units;refine⟨_,_,⟨[],[],[],.P⟩,rfl,(Wa (Ai (Gk S6 (hr.mono (by decide)) rfl Yk (Qa (pv 0) Ga))) (Wa (Ai (Gk S6 (hr.mono (by decide)) rfl Yk (Qa (pv 2) Ga))) (Wa (Ai (Gk R6 (hr.mono (by decide)) rfl Yk (Qa (pv 0) (Qa (pv 1) Ga)))) (Wa (Ai (Gk R6 (hr.mono (by decide)) rfl Yk (Qa (pv 2) (Qa (pv 3) Ga)))) (Wa (Ai (Gk T6 (hr.mono (by decide)) rfl Yk (Qa (pv 0) Ga))) (Wa (Ai (Gk T6 (hr.mono (by decide)) rfl Yk (Qa (pv 2) Ga))) (Wa (pS 4 X4.nd (pO Hw hr (Qa (pv 0) (Qa (pv 1) Ga)))) (Wa (pS 5 X4.nd (Hv (Ln hu) (pv 4) (Pl (Sw (K:=K)) rfl T.z_tuple Rw (Qa (pv 0) Ga)) (fun _ _=>rfl))) (Wa (pS 6 X4.nd (pO Hw hr (Qa (pv 2) (Qa (pv 3) Ga)))) (Wa (pS 7 X4.nd (Hv (Ln hu) (pv 6) (Pl (Sw (K:=K)) rfl T.z_tuple Rw (Qa (pv 2) Ga)) (fun _ _=>rfl))) (Wa (Zd (pQ K hu (pv 5) (pv 7)) (Jb (Kb E4)) Jd) (Wa (Zd (Oi Gs (pv 5) (pv 7) (Kg _)) (Jb (Kb (Hm (Qa Ea (Qa (pO W6 hr (Qa (pv 0) (Qa (pv 1) (Qa (pv 4) (Qa (pv 7) Ga))))) Ga))))) Jd) (Jb (Kb (Hm (Qa Ea (Qa (pO W6 hr (Qa (pv 2) (Qa (pv 3) (Qa (pv 6) (Qa (pv 5) Ga))))) Ga))))))))))))))))),(Ta (Cm (qA (Lm (Fa (qS 0) Oa)))) (Ta (Cm (qA (Lm (Fa (qS 2) Oa)))) (Ta (Cm (qA (Lm (Fa (qS 0) (Fa (qS 1) Oa))))) (Ta (Cm (qA (Lm (Fa (qS 2) (Fa (qS 3) Oa))))) (Ta (Cm (qA (Lm (Fa (qS 0) Oa)))) (Ta (Cm (qA (Lm (Fa (qS 2) Oa)))) (Ta (zF 4 (G3 (Sc (Sc Tg)) (Pm.calm_fn YA) (Fa (qS 0) (Fa (qS 1) Oa)))) (Ta (zP 5 (DE.grd (Mu (qO 4) (Vx (Fa (qS 0) Oa))))) (Ta (zF 6 (G3 (Sc (Sc Tg)) (Pm.calm_fn YA) (Fa (qS 2) (Fa (qS 3) Oa)))) (Ta (zP 7 (DE.grd (Mu (qO 6) (Vx (Fa (qS 2) Oa))))) (Ta (Xc (Pc (qA (Ke (g:=id) (qP 5) (qP 7)))) (Ce B8) Yc) (Ta (Xc (Pc (qA (Us (qP 5) (qP 7)))) (Ce (DE.grd (B3 (Fa qI (Fa (qA (Pu (Sc (Sc (Sc (Sc Tg)))) (Pm.calm_fn IL) (Fa (qS 0) (Fa (qS 1) (Fa (qO 4) (Fa (qP 7) Oa)))))) Oa))))) Yc) (Ce (DE.grd (B3 (Fa qI (Fa (qA (Pu (Sc (Sc (Sc (Sc Tg)))) (Pm.calm_fn IL) (Fa (qS 2) (Fa (qS 3) (Fa (qO 6) (Fa (qP 5) Oa)))))) Oa))))))))))))))))), ?_⟩;refine Pm.ref Vz (g:=fun xs=>_) ?_;rintro⟨b,l,o,m⟩ ⟨⟨hb,hl⟩,ho,hm⟩;simp only at hb hl ho hm;simp only[Vz];symm;rw[DH hb];unfold Ar;by_cases h1:Xh b=true
 case neg =>
  rw[Aa h1,Aa h1];symm
 rw[Ba h1,Ba h1];simp only[Le];symm;rw[DH ho];by_cases h2:Xh o=true
 case neg =>
  rw[Aa h2,Aa h2];simp only[Le];symm
 rw[Ba h2,Ba h2];simp only[Le];symm;rw[CH ⟨hb,hl⟩];by_cases h3:Kl b.length l
 case neg =>
  rw[Cn h3];simp only[Le];symm
 rw[Wr h3];simp only[Le];symm;rw[CH ⟨ho,hm⟩];by_cases h4:Kl o.length m
 case neg =>
  rw[Cn h4];simp only[Le];symm
 rw[Wr h4];simp only[Le];symm;have B:=Fq.mp h1;have D:=Fq.mp h2;have l1:=B.lo;have l2:=B.hi;have l3:=B.sm;have k1:=D.lo;have k2:=D.hi;have k3:=D.sm;rw[EH ⟨⟨by lia,by lia⟩,l3⟩];by_cases h5:1000<Ie b.length b.sum
 case pos =>
  rw[show Uj b=(some "TooMany":Option Str) from Ba h5];simp only[Le];symm
 rw[show Uj b=none from Aa h5];simp only[Le];symm;rw[EH ⟨⟨by lia,by lia⟩,k3⟩];by_cases h6:1000<Ie o.length o.sum
 case pos =>
  rw[show Uj o=(some "TooMany":Option Str) from Ba h6];simp only[Le];symm
 rw[show Uj o=none from Aa h6];simp only[Le];symm;obtain⟨p1,p2,hs,F⟩:=AZ B h3 h5;obtain⟨q1,q2,ht,G⟩:=AZ D h4 h6;have nd:=Bx b.length l b;have ne:=Bx o.length m o;rw[M7 ⟨p1,_,hs,F⟩];symm;rw[show Dv [PV.lst (b.map PV.int)]=.ok (Qb b) from rfl];symm;rw[Bv (Pw (f:=fun x=>PV.int (Vc (Pa b.length l) x)) nd (F.mem.mpr .refl))];symm;rw[M7 ⟨q1,_,ht,G⟩];symm;rw[show Dv [PV.lst (o.map PV.int)]=.ok (Qb o) from rfl];symm;rw[Bv (Pw (f:=fun x=>PV.int (Vc (Pa o.length m) x)) ne (G.mem.mpr .refl))];symm;have w0:=UO (Pa b.length l) b;have w1:=UO (Pa o.length m) o;unfold U5;by_cases c:Vc (Pa b.length l) b=Vc (Pa o.length m) o
 ·rw[Hb c,Ba c]
  symm
 ·rw[Tb c,Aa c]
  symm;by_cases d:Vc (Pa o.length m) o<Vc (Pa b.length l) b
  ·rw[Hb d,Ba d]
   obtain⟨y,hy,ey⟩:=QO F (k:=(Vc (Pa o.length m) o).toNat) (by lia);symm;rw[FH ⟨p1,⟨_,F⟩,y,hy,by lia⟩];symm
  ·rw[Tb d,Aa d]
   obtain⟨y,hy,ey⟩:=QO G (k:=(Vc (Pa b.length l) b).toNat) (by lia);symm;rw[FH ⟨q1,⟨_,G⟩,y,hy,by lia⟩];symm
theorem ZdX{b l o m:LI0}(h:(b.length<=1000/\l.length<=1000)/\o.length<=1000/\m.length<=1000):Vz.fn [.lst (b.map PV.int),.lst (l.map PV.int),.lst (o.map PV.int),.lst (m.map PV.int)]=Le (Ar b l o m) (U5 b l o m):=Pm.fn_eq Vz (b,l,o,m) h (fun(a:LI0×LI0×LI0×LI0) e=>by
 obtain⟨b',l',o',m'⟩:=a;simp only[Vz,List.cons.injEq,PV.lst.injEq,and_true] at e ⊢;rw[Sg e.1,Sg e.2.1,Sg e.2.2.1,Sg e.2.2.2])
noncomputable def Qi(b l:LI0):Option Str:=if Xh b=true then match Bq b.length l with
 |none=>Uj b
 |some q=>some q
 else some "BadBoard"
noncomputable def Ry:Pm:=⟨LI0×LI0,fun a=>[.lst (a.1.map PV.int),.lst (a.2.map PV.int)],fun a=>a.1.length<=1000/\a.2.length<=1000,fun a=>Le (Qi a.1 a.2) .non⟩
theorem QV(T:Nc K mg)(F:Zc K "check_play" "check_play" UC f fd):Yb P w K mg base (Rg P w) 6 f fd ["board", "barred"] (Wb K 2 .P (W1 K) Ry.fn):=by
 have S6:=Fm (P:=P) (w:=w) (base:=base) T.FT PR (fun F=>JV T F);have R6:=Fm (P:=P) (w:=w) (base:=base) T.ET OR (fun F=>ZV T F);have T6:=Fm (P:=P) (w:=w) (base:=base) T.GT SR (fun F=>UV T F);refine F.okX Zlk rfl rfl (fun Ib A outer s H E hr=>?_);have hu:=hr.units;refine⟨_,_,⟨[.S,.S],[],[],.P⟩,rfl,(Wa (Ai (Gk S6 (hr.mono (by decide)) rfl Yk (Qa (pv 0) Ga))) (Wa (Ai (Gk R6 (hr.mono (by decide)) rfl Yk (Qa (pv 0) (Qa (pv 1) Ga)))) (Jb (Ai (Gk T6 (hr.mono (by decide)) rfl Yk (Qa (pv 0) Ga)))))),(Ta (Cm (qA (Lm (Fa (qS 0) Oa)))) (Ta (Cm (qA (Lm (Fa (qS 0) (Fa (qS 1) Oa))))) (Cm (qA (Lm (Fa (qS 0) Oa)))))), ?_⟩;refine Pm.ref Ry (g:=fun xs=>_) ?_;rintro⟨b,l⟩ ⟨hb,hl⟩;simp only at hb hl;simp only[Ry];symm;rw[DH (by lia)];unfold Qi;by_cases h1:Xh b=true
 ·rw[Ba h1,Ba h1]
  simp only[Le];symm;rw[CH ⟨by lia,by lia⟩];by_cases h2:Kl b.length l
  ·rw[Wr h2]
   simp only[Le];have B:=Fq.mp h1;have l1:=B.lo;have l2:=B.hi;have l3:=B.sm;symm;rw[EH ⟨⟨by lia,by lia⟩,l3⟩];unfold Uj
   split<;>symm
  ·rw[Cn h2]
   symm
 ·rw[Aa h1,Aa h1]
  symm
theorem IS{b l:LI0}(h:b.length<=1000/\l.length<=1000):Ry.fn [.lst (b.map PV.int),.lst (l.map PV.int)]=Le (Qi b l) .non:=Pm.fn_eq Ry (b,l) h fun(a:LI0×LI0) e=>by simp only[Ry] at e ⊢;walk_at "in"
noncomputable def Ys:Pm:=⟨LI1,fun ts=>[.lst (ts.map Qb)],fun ts=>(∀t∈ts,t≠[]/\t.length<=1000)/\ts.length<=100000,fun ts=>.ok (.lst ((Bi ts).map Fc))⟩
theorem Zg2(T:Nc K mg)(F:Zc K "rising_boards" "rising_boards" RC f fd):Yb P w K mg base Ic 1 f fd ["boards"] (Wb K 1 .F W0 Ys.fn):=by
 have S:=Za0;walk_at "ok";refine⟨_,_,⟨[],[],[],.F⟩,rfl,(Jb (Kb (Ep (Zl (K:=K) (Lg (Zeq (K:=K)) rfl T.z_sorted YG (Qa (pv 0) Ga))) (fun _ _ _ _=>(Pl (P7 (K:=K)) rfl T.z_list Zs (Qa (pv 1) Ga))) Za0.nd rfl))),(Eg (Am (DI.c (Bk (DE.FZ (Zf1 (Fa (qS 0) Oa))))) (Q8 (Fa (qS 1) Oa)))), ?_⟩;refine Pm.ref Ys (g:=fun xs=>_) ?_;rintro(ts:LI1) ⟨h1,h2⟩;simp only[Ys];symm;have hl:(Bi ts).length=ts.length:=(Ql ts).length_eq;rw[Zkp ⟨fun t ht=>(h1 t ht).1,by lia⟩,MK Ru (by lia)];symm;rw[QK (g:=fun x=>match x with|.tup ys=>.lst ys|_=>.non) (fun x hx=>by
  obtain⟨t,ht,rfl⟩:=Ze.mp hx;have:=(h1 t ((Ql ts).mem_iff.mp ht)).2;unfold Qb;show Rq [.tup (t.map PV.int)]=_;simp only[Rq];rw[Xx (by lia)])]
 symm;rw[Me];rfl
theorem ZdV{ts:LI1}(h:(∀t∈ts,t≠[]/\t.length<=1000)/\ts.length<=100000):Ys.fn [.lst (ts.map Qb)]=.ok (.lst ((Bi ts).map Fc)):=Pm.fn_eq Ys ts h (fun(a:LI1) e=>by
 have e':a=ts:=by
  simp only[Ys,List.cons.injEq,PV.lst.injEq,and_true] at e;exact R5 e
 rw[e'])
theorem Zk0:Ys.calm:=fun a q h=>by (simp only[Ys] at h;cases h)
def ZK(P:LI0)(E:LI1):LI1:=Bi (E.filter fun x=>decide (Vc P x=0))
noncomputable def W5(b l:LI0):PV:=if Vc (Pa b.length l) b=0 then .tup [.str "second",.non,.lst ((ZK (Pa b.length l) (De b.length l b)).map Fc)] else .tup [.str "first",.int (Lp (Pa b.length l) b 0).1,.lst ((ZK (Pa b.length l) (De b.length l b)).map Fc)]
noncomputable def Bz:Pm:=⟨LI0×LI0,fun a=>[.lst (a.1.map PV.int),.lst (a.2.map PV.int)],fun a=>a.1.length<=1000/\a.2.length<=1000,fun a=>Le (Qi a.1 a.2) (W5 a.1 a.2)⟩
theorem ZcK{p:Option Ja}{E:LI1}{ys:LI5}(h:E.length=ys.length):Tr (.box p (.dt (E.map tI)) ys)=.ok (E.map Qb):=by
 unfold Tr;simp only;rw[Ba (by rw[Lb];exact h),Me];congr 1;exact Om fun x _=>(WD x).symm
theorem BZ{b l:LI0}(h:Qi b l=none):b.length<=24/\2<=b.length/\(b.sum<=10^60/\Bg b.length b.sum l b):=by
 unfold Qi at h
 split at h
 ·rename_i h1
  have B:=Fq.mp h1;by_cases h2:Kl b.length l
  ·rw[Wr h2] at h
   simp only[Uj] at h
   split at h
   ·cases h
   ·rename_i h3
    have l1:=B.lo;obtain⟨q,hq⟩:=List.exists_mem_of_ne_nil l (fun z=>h2.2.2.1 (by rw[z];rfl));exact⟨B.hi,B.lo,B.sm,⟨by lia,fun p hp=>(K3.mp hp).1,⟨rfl,B.nn,rfl⟩,by lia⟩,q,hq,h2.1 q hq⟩
  ·rw[Cn h2] at h
   cases h
 ·cases h
theorem Zg8(T:Nc K mg)(F:Zc K "who_wins" "who_wins" JD f fd):Yb P w K mg base (Rg P w) 8 f fd ["board", "barred"] (Wb K 2 .F (W1 K) Bz.fn):=by
 have OF:=Fm (P:=P) (w:=w) (base:=base) T.IT TR (fun F=>QV T F);have Hw:=Wd P w base T.XH JH (fun F=>ZJ T F);have Zck:=Wd P w base T.ZeU Zdt (fun F=>Zg2 T F);have W6:=Wd P w base T.NT YR (fun F=>BV T F);refine F.okX Z5 rfl rfl (fun Ib A outer s H E hr=>?_);have hu:=hr.units;refine⟨_,_,⟨[],[],[],.F⟩,rfl,(Wa (Ai (Gk OF (hr.mono (by decide)) rfl Yk (Qa (pv 0) (Qa (pv 1) Ga)))) (Wa (pS 2 Z5.nd (pO Hw hr (Qa (pv 0) (Qa (pv 1) Ga)))) (Wa (pS 3 Z5.nd (pO Zck hr (Qa (Zk7 (i:=2) (Ay (ZkF (pv 2)) (Ev Z5.nd) (fun _ _ _ _=>(XA (fun _ _ h=>h) (pQ K hu (Hv (Ln hu) (pv 2) (pv 4) (fun _ _=>rfl)) Ea))) (fun _ _ _ _=>(pv 4)) Wu Z5.nd rfl)) Ga))) (Wa (Zd (pQ K hu (Hv (Ln hu) (pv 2) (Pl (Sw (K:=K)) rfl T.z_tuple Rw (Qa (pv 0) Ga)) (fun _ _=>rfl)) Ea) (Jb (Kb (Hm (Qa Jg (Qa E4 (Qa (pv 3) Ga)))))) Jd) (Jb (Kb (Hm (Qa Jg (Qa (pO W6 hr (Qa (pv 0) (Qa (pv 1) (Qa (pv 2) (Qa Ea Ga))))) (Qa (pv 3) Ga)))))))))),(Ta (Cm (qA (Lm (Fa (qS 0) (Fa (qS 1) Oa))))) (Ta (zF 2 (G3 (Sc (Sc Tg)) (Pm.calm_fn YA) (Fa (qS 0) (Fa (qS 1) Oa)))) (Ta (zF 3 (G3 (Sc Tg) (Pm.calm_fn Zk0) (Fa (qA (Zfp (i:=2) rfl rfl (fun a o Ra=>Lu (k:=1) (ZfB (i:=2) rfl) Xw (Pc (DE.toA (Ke (g:=id) (Mu (EI (i:=2) rfl) (EI (i:=4) rfl)) (DE.toA Ak)))) (DE.PF (DE.grd (EI (i:=4) rfl)))) (fun a o Ra σ H Q h1 h2 h=>⟨.ref a,h1,a,o,Ra,rfl,h2,h h1 h2⟩))) Oa))) (Ta (Xc (Pc (qA (Ke (g:=id) (Mu (qO 2) (Vx (Fa (qS 0) Oa))) qI))) (Eg (G8 (Kc (qF Zg) (Kc (qF B8) (Kc (qM 3) Lf))))) Yc) (Eg (G8 (Kc (qF Zg) (Kc (qF (Pu (Sc (Sc (Sc (Sc Tg)))) (Pm.calm_fn IL) (Fa (qS 0) (Fa (qS 1) (Fa (qO 2) (Fa qI Oa)))))) (Kc (qM 3) Lf))))))))), ?_⟩;refine Pm.ref Bz (g:=fun xs=>_) ?_;rintro⟨b,l⟩ ⟨hb,hl⟩;simp only at hb hl;simp only[Bz];symm;rw[IS ⟨hb,hl⟩];cases hX:Qi b l with
 |some q =>
  simp only[Le];symm
 |none =>
  obtain⟨p1,p2,hs,F⟩:=BZ hX;simp only[Le];have nd:=Bx b.length l b;have Ae:=F.len;symm;rw[M7 ⟨p1,_,hs,F⟩];symm;rw[ZcK (by simp)];symm;rw[RI (q:=Qb) (p:=fun x=>decide (Vc (Pa b.length l) x=0)) (g:=Qb) (fun z hz=>by
   rw[Bv (Pw (f:=fun x=>PV.int (Vc (Pa b.length l) x)) nd hz)];symm;by_cases c:Vc (Pa b.length l) z=0
   ·rw[Hb c]
    symm;rw[N3];symm
   ·rw[Tb c]
    symm)]
  symm;have hfl:((De b.length l b).filter fun x=>decide (Vc (Pa b.length l) x=0)).length<=(De b.length l b).length:=Xv _ _;rw[ZdV ⟨fun t ht=>by
   have B:=(F.mem.mp (Wl.mp ht).1).bs F.f.hP F.f.hb;have:=B.1;exact⟨fun z=>by rw[z] at this;simp at this;lia,by lia⟩,by lia⟩]
  symm;rw[show Dv [PV.lst (b.map PV.int)]=.ok (Qb b) from rfl];symm;rw[Bv (Pw (f:=fun x=>PV.int (Vc (Pa b.length l) x)) nd (F.mem.mpr .refl))];symm;unfold W5 ZK;by_cases c:Vc (Pa b.length l) b=0
  ·rw[Hb c,Ba c]
   symm
  ·rw[Tb c,Aa c]
   symm;have:=UO (Pa b.length l) b;rw[FH (w:=0) ⟨p1,⟨_,F⟩,QO F (k:=0) (by lia)⟩];symm
theorem Zeb{b l:LI0}(h:b.length<=1000/\l.length<=1000):Bz.fn [.lst (b.map PV.int),.lst (l.map PV.int)]=Le (Qi b l) (W5 b l):=Pm.fn_eq Bz (b,l) h fun(a:LI0×LI0) e=>by simp only[Bz] at e ⊢;walk_at "in"
noncomputable def Cz:Pm:=⟨LI0×LI0,fun a=>[.lst (a.1.map PV.int),.lst (a.2.map PV.int)],fun a=>a.1.length<=1000/\a.2.length<=1000,fun a=>Le (Qi a.1 a.2) (.lst ((Js (Pa a.1.length a.2) a.1).map (JE (Pa a.1.length a.2))))⟩
theorem Zg9(T:Nc K mg)(F:Zc K "worths" "worths" VD f fd):Yb P w K mg base (Rg P w) 8 f fd ["board", "barred"] (Wb K 2 .F (W1 K) Cz.fn):=by
 have OF:=Fm (P:=P) (w:=w) (base:=base) T.IT TR (fun F=>QV T F);have Hw:=Wd P w base T.XH JH (fun F=>ZJ T F);refine F.okX ZN rfl rfl (fun Ib A outer s H E hr=>?_);have hu:=hr.units;refine⟨_,_,⟨[],[],[],.F⟩,rfl,(Wa (Ai (Gk OF (hr.mono (by decide)) rfl Yk (Qa (pv 0) (Qa (pv 1) Ga)))) (Wa (pS 2 ZN.nd (pO Hw hr (Qa (pv 0) (Qa (pv 1) Ga)))) (Jb (Kb (Ep (Zl (K:=K) (Lg (Zeo rfl) rfl T.z_sorted YG (Qa (pv 2) Ga))) (fun _ _ _ _=>(Hm (Qa (Pl (P7 (K:=K)) rfl T.z_list Zs (Qa (pv 3) Ga)) (Qa (Hv (Ln hu) (pv 2) (pv 3) (fun _ _=>rfl)) Ga)))) ZN.nd rfl))))),(Ta (Cm (qA (Lm (Fa (qS 0) (Fa (qS 1) Oa))))) (Ta (zF 2 (G3 (Sc (Sc Tg)) (Pm.calm_fn YA) (Fa (qS 0) (Fa (qS 1) Oa)))) (Eg (Am (DI.c (Bk (DE.FZ (Zfz (Fa (qO 2) Oa))))) (G8 (Kc (Q8 (Fa (qS 3) Oa)) (Kc (qF (DE.grd (Mu (qO 2) (qS 3)))) Lf))))))), ?_⟩;refine Pm.ref Cz (g:=fun xs=>_) ?_;rintro⟨b,l⟩ ⟨hb,hl⟩;simp only at hb hl;simp only[Cz];symm;rw[IS ⟨hb,hl⟩];cases hX:Qi b l with
 |some q =>
  simp only[Le];symm
 |none =>
  obtain⟨p1,p2,hs,F⟩:=BZ hX;simp only[Le];have nd:=Bx b.length l b;have Ae:=F.len;symm;rw[M7 ⟨p1,_,hs,F⟩];symm;have hle:(Js (Pa b.length l) b).length<=1000:=by
   unfold Js;rw[(Ql _).length_eq];exact F.f.le _
  have hcm:Bi (De b.length l b)=Js (Pa b.length l) b:=ZlD (O8 _ _ _);rw[show List.map tI (De b.length l b)=(De b.length l b).map (fun t=>t.map Sum.inl) from rfl,Zkn (by simp) ⟨fun t ht=>by
   have B:=(F.mem.mp ht).bs F.f.hP F.f.hb;intro z;have:=B.1;rw[z] at this;simp at this;lia,by lia⟩,hcm,MK Ru (by lia)]
  symm;rw[Y3 (q:=Qb) (g:=JE (Pa b.length l)) (fun x hx=>by
   have rx:=F.f.com.mp hx;have B:=rx.bs F.f.hP F.f.hb;have hL:Rq [Qb x]=.ok (Fc x):=by
    unfold Qb;show Rq [.tup (x.map PV.int)]=_;simp only[Rq];rw[Xx (by have:=B.1;lia)];rfl
   rw[hL];symm;rw[show (De b.length l b).map (fun t=>t.map (Sum.inl:Int->Sb))=(De b.length l b).map tI from rfl,Bv (Pw (f:=fun x=>PV.int (Vc (Pa b.length l) x)) nd (F.mem.mpr rx))];symm;rfl)]
  symm
theorem Zec{b l:LI0}(h:b.length<=1000/\l.length<=1000):Cz.fn [.lst (b.map PV.int),.lst (l.map PV.int)]=Le (Qi b l) (.lst ((Js (Pa b.length l) b).map (JE (Pa b.length l)))):=Pm.fn_eq Cz (b,l) h fun(a:LI0×LI0) e=>by simp only[Cz] at e ⊢;walk_at "in"
noncomputable def Bn(way:Int)(L:LI1):Option Str:=if way=2 then Ar (L.getD 0 []) (L.getD 1 []) (L.getD 2 []) (L.getD 3 []) else Qi (L.getD 0 []) (L.getD 1 [])
noncomputable def J3(way:Int)(L:LI1):PV:=if way=2 then U5 (L.getD 0 []) (L.getD 1 []) (L.getD 2 []) (L.getD 3 []) else if way=0 then W5 (L.getD 0 []) (L.getD 1 []) else .lst ((Js (Pa (L.getD 0 []).length (L.getD 1 [])) (L.getD 0 [])).map (JE (Pa (L.getD 0 []).length (L.getD 1 []))))
structure Jq(way:Int)(L:LI1):Prop where
 w0:0<=way
 w2:way<=2
 l2:2<=L.length
 l4:way=2->4<=L.length
 ll:L.length<=1000
 al:∀x∈L,x.length<=1000
theorem Jq.at{way:Int}{L:LI1}(h:Jq way L)(i:Nat):(L.getD i []).length<=1000:=by
 by_cases c:i<L.length
 ·exact h.al _ (by rw[Bb,Rc c];exact Mt _)
 ·rw[Bb,Ch (by lia)];simp
noncomputable def Cy:Pm:=⟨Int×LI1,fun a=>[.int a.1,.lst (a.2.map Fc)],fun a=>Jq a.1 a.2,fun a=>Le (Bn a.1 a.2) (J3 a.1 a.2)⟩
theorem Zgf(T:Nc K mg)(F:Zc K "_law_asked" "_law_asked" HB f fd):Yb P w K mg base (Rg P w) 9 f fd ["way", "things"] (Wb K 2 .F (W1 K) Cy.fn):=by
 have Zcm:=Fm (P:=P) (w:=w) (base:=base) T.ZeX Zdv (fun F=>Zg4 T F);have Zcq:=Fm (P:=P) (w:=w) (base:=base) T.Zfb Zdz (fun F=>Zg8 T F);have Zcr:=Fm (P:=P) (w:=w) (base:=base) T.Zfc Zd0 (fun F=>Zg9 T F);refine F.okX Zlf rfl rfl (fun Ib A outer s H E hr=>?_);have hu:=hr.units;refine⟨_,_,⟨[],[],[],.F⟩,rfl,(Wa (Zd (pQ K hu (pv 0) Ea) (Jb (Kb (Gk Zcq (hr.mono (by decide)) rfl Yk (Qa (pX K (pv 1) Ea) (Qa (pX K (pv 1) Ea) Ga))))) Jd) (Wa (Zd (pQ K hu (pv 0) Ea) (Jb (Kb (Gk Zcr (hr.mono (by decide)) rfl Yk (Qa (pX K (pv 1) Ea) (Qa (pX K (pv 1) Ea) Ga))))) Jd) (Jb (Kb (Gk Zcm (hr.mono (by decide)) rfl Yk (Qa (pX K (pv 1) Ea) (Qa (pX K (pv 1) Ea) (Qa (pX K (pv 1) Ea) (Qa (pX K (pv 1) Ea) Ga))))))))),(Ta (Xc (Pc (qA (Ke (g:=id) (qS 0) qI))) (Eg (ZM (Fa (qX (qS 1) qI) (Fa (qX (qS 1) qI) Oa)))) Yc) (Ta (Xc (Pc (qA (Ke (g:=id) (qS 0) qI))) (Eg (ZM (Fa (qX (qS 1) qI) (Fa (qX (qS 1) qI) Oa)))) Yc) (Eg (qF (Lm (Fa (qX (qS 1) qI) (Fa (qX (qS 1) qI) (Fa (qX (qS 1) qI) (Fa (qX (qS 1) qI) Oa))))))))), ?_⟩;refine Pm.ref Cy (g:=fun xs=>_) ?_;rintro⟨way,L⟩ (h:Jq way L);simp only[Cy];have hw0:=h.w0;have hw2:=h.w2;have hl2:=h.l2;have hl4:=h.l4;have h0:=h.at 0;have h1:=h.at 1;have h2:=h.at 2;have h3:=h.at 3;have hi:∀k:Nat,k<L.length->pIx (.lst (L.map Fc)) (.int k)=.ok (.lst ((L.getD k []).map PV.int)):=fun k hk=>by
  rw[NY (q:=Fc) (d:=[]) (by lia) (by lia),El];rfl
 have i0:=hi 0 (by lia);have i1:=hi 1 (by lia);simp only[HE,Int.natCast_one] at i0 i1;symm;by_cases c0:way=0
 ·subst c0
  rw[Hb rfl,show Bn 0 L=Qi (L.getD 0 []) (L.getD 1 []) from Aa (by decide),show J3 0 L=W5 (L.getD 0 []) (L.getD 1 []) from (Aa (by decide)).trans (Ba rfl)];symm;rw[i0,i1];symm;rw[Zeb ⟨h0,h1⟩];cases Qi (L.getD 0 []) (L.getD 1 []) with
  |none=>symm
  |some q=>symm
 rw[Tb c0];symm;by_cases c1:way=1
 ·subst c1
  rw[Hb rfl,show Bn 1 L=Qi (L.getD 0 []) (L.getD 1 []) from Aa (by decide),show J3 1 L=_ from (Aa (by decide)).trans (Aa (by decide))];symm;rw[i0,i1];symm;rw[Zec ⟨h0,h1⟩];cases Qi (L.getD 0 []) (L.getD 1 []) with
  |none=>symm
  |some q=>symm
 obtain rfl:way=2:=by lia
 rw[Tb c1,show Bn 2 L=Ar (L.getD 0 []) (L.getD 1 []) (L.getD 2 []) (L.getD 3 []) from Ba rfl,show J3 2 L=U5 (L.getD 0 []) (L.getD 1 []) (L.getD 2 []) (L.getD 3 []) from Ba rfl];have i2:=hi 2 (by lia);have i3:=hi 3 (by lia);symm;rw[i0,i1,show pIx (.lst (L.map Fc)) (.int 2)=_ from i2,show pIx (.lst (L.map Fc)) (.int 3)=_ from i3];symm;rw[ZdX ⟨⟨h0,h1⟩,h2,h3⟩];cases Ar (L.getD 0 []) (L.getD 1 []) (L.getD 2 []) (L.getD 3 []) with
 |none=>symm
 |some q=>symm
theorem lstsQ_inj:∀{a b:LI1},a.map Fc=b.map Fc->a=b
 |[],[],_=>rfl
 |[],y::b,e=>by simp at e
 |x::a,[],e=>by simp at e
 |x::a,y::b,e=>by
  simp only[Dd,List.cons.injEq,Fc,PV.lst.injEq] at e;rw[Sg e.1,lstsQ_inj e.2]
theorem ZdC{way:Int}{L:LI1}(h:Jq way L):Cy.fn [.int way,.lst (L.map Fc)]=Le (Bn way L) (J3 way L):=Pm.fn_eq Cy (way,L) h (fun(a:Int×LI1) e=>by
 obtain⟨w',L'⟩:=a;simp only[Cy,List.cons.injEq,PV.lst.injEq,PV.int.injEq,and_true] at e ⊢;rw[e.1,lstsQ_inj e.2])
theorem ZcR{way:Int}{L:LI1}{q:Str}(h:Bn way L=some q):q = "BadBoard"\/q = "BadPits"\/q = "TooMany":=by
 have bx:∀{n:Nat}{l:LI0}{q:Str},Bq n l=some q->q = "BadPits":=fun {n l q} h=>by
  unfold Bq at h
  split at h
  ·cases h
  ·exact(Option.some.inj h).symm
 have fx:∀{b:LI0}{q:Str},Uj b=some q->q = "TooMany":=fun {b q} h=>by
  unfold Uj at h
  split at h
  ·exact(Option.some.inj h).symm
  ·cases h
 unfold Bn at h
 split at h
 ·unfold Ar at h
  split at h
  ·split at h
   ·split at h
    ·split at h
     ·split at h
      ·exact .inr (.inr (fx h))
      ·rename_i h';cases h;exact .inr (.inr (fx h'))
     ·rename_i h';cases h;exact .inr (.inl (bx h'))
    ·rename_i h';cases h;exact .inr (.inl (bx h'))
   ·exact .inl (Option.some.inj h).symm
  ·exact .inl (Option.some.inj h).symm
 ·unfold Qi at h
  split at h
  ·split at h
   ·exact .inr (.inr (fx h))
   ·rename_i h';cases h;exact .inr (.inl (bx h'))
  ·exact .inl (Option.some.inj h).symm
def Sv(way:Int)(L:LI1):Str:=(Bn way L).getD "told"
def Sq:Pm:=⟨Int×LI1,fun a=>[.int a.1,.lst (a.2.map Fc)],fun a=>Jq a.1 a.2,fun a=>.ok (.str (Sv a.1 a.2))⟩
theorem Zgp(T:Nc K mg)(F:Zc K "_law_word" "_law_word" YB f fd):Yb P w K mg base Ic 10 f fd ["way", "things"] (Wb K 2 .P W0 Sq.fn):=by
 have ZbS:=Fm (P:=P) (w:=w) (base:=base) T.Ze5 ZcW (fun F=>Zgf T F);obtain⟨ZmA,YV,ZmJ⟩:=QE T.x_exc (n := "SowError") (by decide);obtain⟨IQ,ZgY,Zho⟩:=Uo T.x_tab T.x_tabT (c := "BadYard") (L:=N2) (by decide) (by decide);obtain⟨HQ,ZgX,Zhn⟩:=Uo T.x_tab T.x_tabT (c := "BadText") (L:=M2) (by decide) (by decide);obtain⟨GQ,ZgW,Zhm⟩:=Uo T.x_tab T.x_tabT (c := "BadRow") (L:=K2) (by decide) (by decide);obtain⟨FQ,ZgV,Zhl⟩:=Uo T.x_tab T.x_tabT (c := "BadPlan") (L:=E2) (by decide) (by decide);obtain⟨EQ,ZgT,Zhj⟩:=Uo T.x_tab T.x_tabT (c := "BadPit") (L:=D2) (by decide) (by decide);obtain⟨CQ,ZgS,Zhi⟩:=Uo T.x_tab T.x_tabT (c := "BadLine") (L:=B2) (by decide) (by decide);obtain⟨BQ,ZgR,Zhh⟩:=Uo T.x_tab T.x_tabT (c := "BadCount") (L:=Q2) (by decide) (by decide);have hT_V:=Zm5 T.x_tab (L:=Zc0) (by decide);obtain⟨NQ,Zhd,Zht⟩:=Uo T.x_tab T.x_tabT (c := "Unlike") (L:=Z3) (by decide) (by decide);obtain⟨MQ,Zhb,Zhr⟩:=Uo T.x_tab T.x_tabT (c := "TooLong") (L:=X2) (by decide) (by decide);obtain⟨LQ,Zha,Zhq⟩:=Uo T.x_tab T.x_tabT (c := "NoSeeds") (L:=T2) (by decide) (by decide);obtain⟨KQ,ZgZ,Zhp⟩:=Uo T.x_tab T.x_tabT (c := "NoDeed") (L:=O2) (by decide) (by decide);obtain⟨Zcs,ZgQ,Zhg⟩:=AO T.x_tab (c := "BadBoard") (L:=U7) (by decide) (by decide);obtain⟨Zct,ZgU,Zhk⟩:=AO T.x_tab (c := "BadPits") (L:=Q7) (by decide) (by decide);obtain⟨Zcu,Zhc,Zhs⟩:=AO T.x_tab (c := "TooMany") (L:=A7) (by decide) (by decide);have S:=Jr;walk_at "ok";refine⟨_,_,⟨[],[],[],.P⟩,rfl,(Wa (pS 2 Jr.nd E4) (Wa (GZ (i:=3) Jr.nd rfl (Zl (K:=K) (pv 1)) (fun _ _ _ _=>(Pl (P7 (K:=K)) rfl T.z_list Zs (Qa (pv 8) Ga))) rfl) (Wa (ZkQ (fun xe pn E hx=>(Jb (Ai (Gk ZbS (hr.mono (by decide)) rfl hx (Qa (pv 0) (Qa (pv 3) Ga)))))) (fun A=>(Jb (pS 2 Jr.nd (pv 4)))) Jr.nd rfl rfl rfl (T.x_mg _ _ YV) rfl rfl rfl) (Wa (Zd (Oi (U4 (K:=K) hu) (pv 3) (pv 1) (Kg _)) (Jb (Kb Jg)) Jd) (Wa (Zd (Oi Zjz (pv 2) E4 (Kg _)) (Jb (Kb Jg)) Jd) (Wa (Zd (Wq (Lg (NS (K:=K) (Oh.cons Zhh (Oh.cons Zhi (Oh.cons Zhj (Oh.cons Zhl (Oh.cons Zhm (Oh.cons Zhn (Oh.cons Zho (Oh.nil))))))))) rfl T.z_isinstance Xo (Qa (pv 2) (Qa (Hm (Qa (Hk (v:=.ref BQ) rfl (T.x_mg _ _ ZgR) rfl) (Qa (Hk (v:=.ref CQ) rfl (T.x_mg _ _ ZgS) rfl) (Qa (Hk (v:=.ref EQ) rfl (T.x_mg _ _ ZgT) rfl) (Qa (Hk (v:=.ref FQ) rfl (T.x_mg _ _ ZgV) rfl) (Qa (Hk (v:=.ref GQ) rfl (T.x_mg _ _ ZgW) rfl) (Qa (Hk (v:=.ref HQ) rfl (T.x_mg _ _ ZgX) rfl) (Qa (Hk (v:=.ref IQ) rfl (T.x_mg _ _ ZgY) rfl) Ga)))))))) Ga)))) (Jb (Kb Jg)) Jd) (Wa (Zd (PW.pt (QB (Wq (Lg (NS (K:=K) (Oh.cons Zhp (Oh.cons Zhq (Oh.cons Zhr (Oh.cons Zht (Oh.nil)))))) rfl T.z_isinstance Xo (Qa (pv 2) (Qa (Hm (Qa (Hk (v:=.ref KQ) rfl (T.x_mg _ _ ZgZ) rfl) (Qa (Hk (v:=.ref LQ) rfl (T.x_mg _ _ Zha) rfl) (Qa (Hk (v:=.ref MQ) rfl (T.x_mg _ _ Zhb) rfl) (Qa (Hk (v:=.ref NQ) rfl (T.x_mg _ _ Zhd) rfl) Ga))))) Ga)))) (AB (Dz (Wq (Lg (N7 (K:=K) hT_V) rfl T.z_isinstance Xo (Qa (pv 2) (Qa (D4 (v:=.ty "ValueError") rfl T.z_ValueError Zd7 rfl) Ga)))))))) (Jb (Kb Jg)) Jd) (Wa (pS 5 Jr.nd (We (Qa (Lg (N7 (K:=K) Zhg) rfl T.z_isinstance Xo (Qa (pv 2) (Qa (Hk (v:=.ref Zcs) rfl (T.x_mg _ _ ZgQ) rfl) Ga))) (Qa (Lg (N7 (K:=K) Zhk) rfl T.z_isinstance Xo (Qa (pv 2) (Qa (Hk (v:=.ref Zct) rfl (T.x_mg _ _ ZgU) rfl) Ga))) Ga)))) (Wa (Ai (Gv PySem.F.plainAttrs_list PySem.F.slot_list_append PySem.F.type_list_append Wx (pv 5) (Qa (Lg (N7 (K:=K) Zhs) rfl T.z_isinstance Xo (Qa (pv 2) (Qa (Hk (v:=.ref Zcu) rfl (T.x_mg _ _ Zhc) rfl) Ga))) Ga))) (Wa (Tk (Jl rfl T.z_range (Qa Ea Ga)) (Xk 6 Jr.nd) (Wa (pS 7 Jr.nd (pX K (We (Qa Jg (Qa Jg (Qa Jg Ga)))) (pv 6))) (Jb (Zd (PW.pt (ZkU (pQ K hu (pv 5) (Ep (Jl rfl T.z_range (Qa Ea Ga)) (fun _ _ _ _=>(Ms (PK (K:=K) hu) (pv 8) (pv 6) (Kg _))) Jr.nd rfl)) (ZkV (pQ K hu (Zk4 (k:=1) (L:=XN) (Zjg T) (hr.mono (by decide)) (pv 2)) (pv 7))))) (Jb (Kb (pv 7))) Jd)))) (Jb (Kb Jg)))))))))))),(Ta (zP 2 B8) (Ta (II (i:=3) (Am (DI.c (Bk (Ji (i:=1) rfl))) (Q8 (Fa (qS 8) Oa))) (by decide)) (Ta (ZfK (i:=4) (Γs:=[.S,.S,.P,.S,.U,.U,.U,.U]) (Y:=⟨[.S,.S,.P,.S,.U,.U,.U,.U],[],[],.P⟩) (Yh:=⟨[.S,.S,.P,.S,.P,.U,.U,.U],[],[],.P⟩) (L:=["SowError", "BadBoard", "BadPits", "TooMany"]) (Zm4 T.x_tab YV (by decide)) (fun E=>(Cm (qA (ZM (Fa (qS 0) (Fa (qS 3) Oa)))))) (fun E D σ H h=>h) (show DS K _ [.S,.S,.P,.S,.P,.U,.U,.U] _ _ _ from (zP 2 (Fn (i:=4) rfl))) rfl rfl (by decide) rfl rfl rfl rfl) (Ta (Xc (Pc (qA (Ke (g:=(!·)) (qS 3) (qS 1)))) (Ce Zg) Yc) (Ta (Xc (Pc (qA (Zfr (qP 2)))) (Ce Zg) Yc) (Ta (Xc (Zp (qA (VU (cs:=[.ref BQ,.ref CQ,.ref EQ,.ref FQ,.ref GQ,.ref HQ,.ref IQ]) (Ls:=[Q2,B2,D2,E2,K2,M2,N2]) (Nat.le_of_ble_eq_true rfl) (qP 2)))) (Ce Zg) Yc) (Ta (Xc (L8 (Zp (qA (VU (cs:=[.ref KQ,.ref LQ,.ref MQ,.ref NQ]) (Ls:=[O2,T2,X2,Z3]) (Nat.le_of_ble_eq_true rfl) (qP 2)))) (Ax (Zp (qA (V8 (qP 2)))))) (Ce Zg) Yc) (Ta (zF 5 (Yf (Kc (qF (V8 (qP 2))) (Kc (qF (V8 (qP 2))) Lf)))) (Ta (Qx (i:=5) rfl rfl (qF (V8 (qP 2)))) (Ta (Pk (Γl:=[.S,.S,.P,.S,.U,.O,.U,.U]) (Nk (Fa qI Oa)) rfl (Vl 6) (DS.out (Y:=⟨[.S,.S,.P,.S,.U,.O,.P,.P],[.S,.S,.P,.S,.U,.O,.U,.U],[.S,.S,.P,.S,.U,.O,.U,.U],.P⟩) (Y':=⟨[.S,.S,.P,.S,.U,.O,.U,.U],[.S,.S,.P,.S,.U,.O,.U,.U],[.S,.S,.P,.S,.U,.O,.U,.U],.P⟩) (Ta (zP 7 (DE.grd (qX (qA (Yf (Kc (qF Zg) (Kc (qF Zg) (Kc (qF Zg) Lf))))) (qP 6)))) (Xc (ZfL (Pc (qA (Ke (g:=id) (qO 5) (qA (Am (DI.c (Nk (Fa qI Oa))) (qF (Ke (g:=id) (qS 8) (qP 6)))))))) (Pc (qA (Ke (g:=id) (qA (Zfl (qP 2))) (qP 7))))) (Ce (Fn (i:=7) rfl)) Yc)) rfl rfl rfl rfl)) (Ce Zg))))))))))), ?_⟩;refine Pm.ref Sq (g:=fun xs=>_) ?_;rintro⟨way,L⟩ (h:Jq way L);simp only[Sq];symm;have hal:=h.al;have hll:=h.ll;rw[Sx (by rw[Lb];lia),Rr.bind_ok];rw[Y3 (q:=Fc) (g:=Fc) (fun x hx=>by
  have:=hal x hx;exact PY (by lia))]
 symm;rw[ZdC h];have hE:∀g:Bool->Bool,Mf g (.lst (L.map Fc)) (.lst (L.map Fc))=.ok (.bl (g true)):=fun g=>by
  rw[ZjN,Hb rfl]
 have hj0:∀x y z:PV,pIx (.lst [x,y,z]) (.int 0)=.ok x:=fun _ _ _=>rfl;have hj1:∀x y z:PV,pIx (.lst [x,y,z]) (.int 1)=.ok y:=fun _ _ _=>rfl;have hj2:∀x y z:PV,pIx (.lst [x,y,z]) (.int 2)=.ok z:=fun _ _ _=>rfl;unfold Sv;cases hx:Bn way L with
 |none =>
  symm;rw[hE];symm
  all_goals rfl
 |some q =>
  rcases ZcR hx with rfl|rfl|rfl
  ·symm
   rw[hE];symm;rw[show ∀a b c:Bool,pApp (PV.lst [.bl a,.bl b]) (.bl c)=.ok (.lst [.bl a,.bl b,.bl c]) from fun _ _ _=>rfl];symm;rw[show Kh 0 3=[.int 0,.int 1,.int 2] from rfl];simp only[Rf,Fg];symm;rw[hj0];symm;simp only[RS.turn];symm
   all_goals rfl
  ·symm
   rw[hE];symm;rw[show ∀a b c:Bool,pApp (PV.lst [.bl a,.bl b]) (.bl c)=.ok (.lst [.bl a,.bl b,.bl c]) from fun _ _ _=>rfl];symm;rw[show Kh 0 3=[.int 0,.int 1,.int 2] from rfl];simp only[Rf,Fg];symm;rw[hj0];symm;rw[Aa (by decide)];symm;simp only[RS.turn];symm;rw[hj1];symm
   all_goals rfl
  ·symm
   rw[hE];symm;rw[show ∀a b c:Bool,pApp (PV.lst [.bl a,.bl b]) (.bl c)=.ok (.lst [.bl a,.bl b,.bl c]) from fun _ _ _=>rfl];symm;rw[show Kh 0 3=[.int 0,.int 1,.int 2] from rfl];simp only[Rf,Fg];symm;rw[hj0];symm;rw[Aa (by decide)];symm;simp only[RS.turn];symm;rw[hj1];symm;rw[Aa (by decide)];symm;rw[hj2];symm
   all_goals rfl
theorem BH{way:Int}{L:LI1}(h:Jq way L):Sq.fn [.int way,.lst (L.map Fc)]=.ok (.str (Sv way L)):=Pm.fn_eq Sq (way,L) h (fun(a:Int×LI1) e=>by
 obtain⟨w',L'⟩:=a;simp only[Sq,List.cons.injEq,PV.lst.injEq,PV.int.injEq,and_true] at e ⊢;rw[e.1,lstsQ_inj e.2])
noncomputable def Vj(F:List (List Bool)):Str:=if F.any (fun x=>x.getD 0 false)=true then "BadBoard" else if F.any (fun x=>x.getD 1 false)=true then "BadPits" else if F.any (fun x=>x.getD 2 false)=true then "TooMany" else "told"
noncomputable def Os:Pm:=⟨List (List Bool),fun F=>[.lst (F.map Qj)],fun F=>F.length<=1000/\∀x∈F,x.length=3,fun F=>.ok (.str (Vj F))⟩
theorem Zgj(T:Nc K mg)(F:Zc K "_law_due" "_law_due" MB f fd):Yb P w K mg base Ic 1 f fd ["faults"] (Wb K 1 .P W0 Os.fn):=by
 have S:=OM;walk_at "ok";refine⟨_,_,⟨[],[],[],.P⟩,rfl,(Wa (Tk (Jl rfl T.z_range (Qa Ea Ga)) (Xk 1 OM.nd) (Jb (Zd (Wq (Lg (Zeg (K:=K) rfl) rfl T.z_any ZcU (Qa (Ep (Zl (K:=K) (pv 0)) (fun _ _ _ _=>(pX K (pv 2) (pv 1))) OM.nd rfl) Ga))) (Jb (Kb (pX K (We (Qa Jg (Qa Jg (Qa Jg Ga)))) (pv 1)))) Jd))) (Jb (Kb Jg))),(Ta (Pk (Γl:=[.S,.U]) (Nk (Fa qI Oa)) rfl (Vl 1) (DS.out (Y:=⟨[.S,.P],[.S,.U],[.S,.U],.P⟩) (Y':=⟨[.S,.U],[.S,.U],[.S,.U],.P⟩) (Xc (Zp (qA (Zfj (Fa (qA (Am (DI.c (Bk (Ji (i:=0) rfl))) (qF (DE.grd (qX (qS 2) (qP 1)))))) Oa)))) (Ce (DE.grd (qX (qA (Yf (Kc (qF Zg) (Kc (qF Zg) (Kc (qF Zg) Lf))))) (qP 1)))) Yc) rfl rfl rfl rfl)) (Ce Zg)), ?_⟩;refine Pm.ref Os (g:=fun xs=>_) ?_;rintro(F:List (List Bool)) ⟨h0,h1⟩;simp only[Os];symm;rw[show Kh 0 3=[.int 0,.int 1,.int 2] from rfl];simp only[Rf];symm;have hm:∀k:Nat,k<3->Fg (fun x=>(pIx x (.int k)).bind grd) (F.map Qj)=.ok ((F.map fun x=>x.getD k false).map PV.bl):=fun k hk=>by
  rw[Y3 (q:=Qj) (g:=fun x=>.bl (x.getD k false)) (fun x hx=>by
   have:=h1 x hx;unfold Qj;rw[NY (q:=PV.bl) (d:=false) (by lia) (by lia),El];rfl),Me]
  rfl
 have ha:∀k:Nat,((F.map fun x=>x.getD k false).any id)=F.any fun x=>x.getD k false:=fun k=>by
  rw[List.any_map];rfl
 have m0:=hm 0 (by decide);have m1:=hm 1 (by decide);have m2:Fg (fun x=>(pIx x (.int 2)).bind grd) (F.map Qj)=_:=hm 2 (by decide);simp only[HE,Int.natCast_one] at m0 m1;have hj0:∀x y z:PV,pIx (.lst [x,y,z]) (.int 0)=.ok x:=fun _ _ _=>rfl;have hj1:∀x y z:PV,pIx (.lst [x,y,z]) (.int 1)=.ok y:=fun _ _ _=>rfl;have hj2:∀x y z:PV,pIx (.lst [x,y,z]) (.int 2)=.ok z:=fun _ _ _=>rfl;rw[m0];symm;rw[ha,hj0];unfold Vj;by_cases c0:(F.any fun x=>x.getD 0 false)=true
 ·rw[c0]
  symm;simp only[RS.turn];symm
 rw[Bool.not_eq_true] at c0;rw[c0];symm;simp only[RS.turn];symm;rw[m1];symm;rw[ha,hj1];by_cases c1:(F.any fun x=>x.getD 1 false)=true
 ·rw[c1]
  symm
 rw[Bool.not_eq_true] at c1;rw[c1];symm;rw[m2];symm;rw[ha,hj2];by_cases c2:(F.any fun x=>x.getD 2 false)=true
 ·rw[c2]
  symm
 rw[Bool.not_eq_true] at c2;rw[c2];symm
theorem RU:∀{a b:List (List Bool)},a.map Qj=b.map Qj->a=b
 |[],[],_=>rfl
 |[],y::b,e=>by simp at e
 |x::a,[],e=>by simp at e
 |x::a,y::b,e=>by
  simp only[Dd,List.cons.injEq,Qj,PV.lst.injEq] at e;rw[(Sz (fun _ _ h=>PV.bl.inj h)).mp e.1,RU e.2]
theorem HS{F:List (List Bool)}(h:F.length<=1000/\∀x∈F,x.length=3):Os.fn [.lst (F.map Qj)]=.ok (.str (Vj F)):=Pm.fn_eq Os F h (fun(a:List (List Bool)) e=>by
 simp only[Os,List.cons.injEq,PV.lst.injEq,and_true] at e ⊢;rw[RU e])
theorem L6.barB{n:Nat}{l:LI0}(h:L6 n l):Kl n l:=by
 refine⟨h.al, ?_,fun z=>h.ne (List.length_eq_zero_iff.mp z),h.nn⟩;unfold Vt;refine Hg.mpr fun i hi=>Hb ?_;have hi:=Qg.mp hi;have:=B6.mp h.up i (i+1) (by lia) (by lia) (by lia);rw[Bb,Bb,Rc (show i<l.length by lia),Rc (show i+1<l.length by lia)];exact this
theorem RX{c:LI0}{i:Nat}{v:Int}(h:i<c.length):v∈c.set i v:=by
 have:(c.set i v)[i]?=some v:=by rw[Fj h]
 exact Tc this
theorem Zgb(c:LI0)(k:Nat):(List.replicate k c).flatten.length=k*c.length:=I9 c k
theorem Zle{c:LI0}{f n far:Int}(B:Bw c)(h0:0<=far)(f1:1<=f)(f4:f<=4):Xh (Xn c f n far)=false:=by
 rw[<- Bool.not_eq_true];intro z;have D:=Fq.mp z;have lo:=B.lo;have d1:=D.lo;have d2:=D.hi;have d3:=D.sm;have dn:=D.nn;have q0:=Af n (show (c.length:Int)≠0 by lia);have q1:=Qf n (show (0:Int)<c.length by lia);unfold Xn at d1 d2 d3 dn;by_cases c1:f=1
 ·rw[Ba c1,Ug] at d1
  lia
 rw[Aa c1] at d1 d2 d3 dn;by_cases c2:f=2
 ·rw[Ba c2,Ug,Zgb] at d2
  lia
 rw[Aa c2] at d1 d2 d3 dn;by_cases c3:f=3
 ·rw[Ba c3] at dn
  have:=dn _ (RX (v:=-1-n/24%3*10^58) (show (n%c.length).toNat<c.length by lia));have:=Af (n/24) (show (3:Int)≠0 by lia);lia
 rw[Aa c3,Ba (show f=4 by lia)] at d3 dn;have:=RJ dn (RX (v:=10^60+1+far) (show (n%c.length).toNat<c.length by lia));lia
theorem NM{c:LI0}{n far:Int}:Xn c 0 n far=c:=rfl
theorem Zar{l:LI0}{i:Nat}(h:Vt l=true)(hi:i+1<l.length):l.getD i 0<l.getD (i+1) 0:=by
 unfold Vt at h;exact Wi (Hg.mp h i (Qg.mpr (by lia)))
theorem ZlC{l:LI0}{f m:Int}{n:Nat}(L:L6 n l)(h2:2<=n)(m0:0<=m)(f1:1<=f)(f6:f<=6):¬Kl n (Kp l f m n):=by
 rintro⟨z1,z2,z3,z4⟩;have hl:0<l.length:=List.length_pos_iff.mpr L.ne;unfold Kp at z1 z2 z3 z4;by_cases c1:f=1
 ·rw[Ba c1] at z3
  exact z3 rfl
 rw[Aa c1] at z1 z2 z3 z4;by_cases c2:f=2
 ·rw[Ba c2] at z4
  exact z4 (by simp[Sn])
 rw[Aa c2] at z1 z2 z3 z4;by_cases c3:f=3
 ·rw[Ba c3] at z2
  have:=Zar z2 (i:=0) (by simp);have:(n:Int)-1<0:=this;lia
 rw[Aa c3] at z1 z2 z3 z4;by_cases c4:f=4
 ·rw[Ba c4] at z2
  have:=Zar z2 (i:=l.length-1) (by rw[Nh,Ao];lia);rw[Bb,Bb,Pi (by lia),Ei (by lia),Tj,show l.length-1+(l.length-1+1-l.length)=l.length-1 by lia] at this;lia
 rw[Aa c4] at z1 z2 z3 z4;by_cases c5:f=5
 ·rw[Ba c5] at z1
  have:=(z1 (if m%2=0 then (n:Int) else n+m*10^53) (by simp)).2
  split at this<;>lia
 rw[Aa c5,Ba (show f=6 by lia)] at z1;have:=(z1 (-1-m/2%2*m) (by simp)).1;have:=GE (Af (m/2) (show (2:Int)≠0 by lia)) m0;lia
structure Sr(s r:LI0)(w:List Bool):Prop where
 w3:w.length=3
 b:Xh s=!w.getD 0 false
 p:w.getD 0 false=false->(Kl s.length r ↔ w.getD 1 false=false)
 m:w.getD 0 false=false->(1000<Ie s.length s.sum ↔ w.getD 2 false=true)
theorem ZbE{s r:LI0}{w:List Bool}(h:Sr s r w):(Qi s r).getD "told"=Vj [w]:=by
 obtain⟨_,h1,h2,h3⟩:=h;unfold Qi Vj;simp only[Gr,List.any_nil,Bool.or_false];rw[h1];cases e0:w.getD 0 false with
 |true=>rfl
 |false =>
  have h2:=h2 e0;have h3:=h3 e0;simp only[Bool.not_false,if_true,Bool.false_eq_true,if_false];cases e1:w.getD 1 false with
  |true =>
   rw[Cn (fun z=>by rw[h2.mp z] at e1;cases e1),Ba rfl];rfl
  |false =>
   rw[Wr (h2.mpr e1),Aa (by decide)];unfold Uj;cases e2:w.getD 2 false with
   |true=>rw[Ba (h3.mpr e2),Ba rfl];rfl
   |false=>rw[Aa (fun z=>by rw[h3.mp z] at e2;cases e2),Aa (by decide)];rfl
theorem Zm3{s r o q:LI0}{w v:List Bool}(h:Sr s r w)(k:Sr o q v):(Ar s r o q).getD "told"=Vj [w,v]:=by
 obtain⟨_,h1,h2,h3⟩:=h;obtain⟨_,k1,k2,k3⟩:=k;unfold Ar Vj;simp only[Gr,List.any_nil,Bool.or_false];rw[h1,k1];cases e0:w.getD 0 false with
 |true=>rfl
 |false =>
  have h2:=h2 e0;have h3:=h3 e0;cases d0:v.getD 0 false with
  |true=>rfl
  |false =>
   have k2:=k2 d0;have k3:=k3 d0;simp only[Bool.not_false,if_true,Bool.or_self,Bool.false_eq_true,if_false];cases e1:w.getD 1 false with
   |true =>
    rw[Cn (fun z=>by rw[h2.mp z] at e1;cases e1)];rfl
   |false =>
    rw[Wr (h2.mpr e1)];cases d1:v.getD 1 false with
    |true =>
     rw[Cn (fun z=>by rw[k2.mp z] at d1;cases d1)];rfl
    |false =>
     rw[Wr (k2.mpr d1)];simp only[Bool.or_self,Bool.false_eq_true,if_false];unfold Uj;cases e2:w.getD 2 false with
     |true=>rw[Ba (h3.mpr e2)];rfl
     |false =>
      rw[Aa (fun z=>by rw[h3.mp z] at e2;cases e2)];cases d2:v.getD 2 false with
      |true=>rw[Ba (k3.mpr d2)];rfl
      |false=>rw[Aa (fun z=>by rw[k3.mp z] at d2;cases d2)];rfl
theorem JT{s:Int}(h:0<=s):Ie ((2:Nat):Int) s=s+1:=by
 show (if s<0 then 0 else Dg s 1)=s+1;rw[Aa (by lia)];simp[Dg]
theorem Zh1{n far:Int}(n0:0<=n)(n1:n<1000000)(r0:0<=far)(r1:far<10^59):Bw (Kn n far)/\1000<Ie (Kn n far).length (Kn n far).sum:=by
 have Dr:∀x y:Int,0<=x->0<=y->x+y<=10^60->1000<=x+y->Bw [x,y]/\1000<Ie ([x,y]:LI0).length ([x,y]:LI0).sum:=fun x y hx hy h1 h2=>by
  have hs:([x,y]:LI0).sum=x+y:=by simp
  refine⟨⟨by simp,by simp,fun z hz=>?_,by lia⟩, ?_⟩
  ·simp only[Lc,Pt,or_false] at hz
   rcases hz with rfl|rfl<;>assumption
  ·rw[hs,show ([x,y]:LI0).length=2 from rfl,JT (by lia)]
   lia
 have e:n%4=0\/n%4=1\/n%4=2\/n%4=3:=by lia
 unfold Kn;rcases e with e|e|e|e
 ·rw[e];exact Dr far 1000 r0 (by lia) (by lia) (by lia)
 ·rw[e];exact Dr 1000 0 (by lia) (by lia) (by lia) (by lia)
 ·rw[e];exact Dr 0 (1000+n) (by lia) (by lia) (by lia) (by lia)
 ·rw[e]
  exact⟨⟨by simp[Tu],by simp[Tu],by simp[Tu],by simp[Tu]⟩,by
   show 1000<Ie (([1,1,1]++List.replicate 21 0:LI0).length) (([1,1,1]++List.replicate 21 0:LI0).sum);decide +kernel⟩
theorem ES{N G:LI0}{k:Int}(h:Aw N G k)(hB:M6 (Gh N k)):Sr (Xn (Ii N G k) (Ij N k) (Yi N k) (Zb G (2+k))) (Kp (Kj N k (Ii N G k).length) (Mk N k) (Yi N k) (Ii N G k).length) (Zh N k):=by
 obtain⟨n63,nb,g55,gb,k0,k1,b2,b24⟩:=h;have hn:0<=Yi N k/\Yi N k<1000000:=nb _ (Y9 (N:=N) (k:=60+k) (by lia) (by lia));have hg:=gb _ (Y9 (N:=G) (k:=2+k) (by lia) (by lia));have hf:0<=Ij N k/\Ij N k<=4:=by
  have:=Qf (Zb N (54+k)) (show (0:Int)<10 by lia);unfold Ij
  split<;>lia
 have hh:0<=Mk N k/\Mk N k<=6:=by
  have:=Qf (Zb N (56+k)) (show (0:Int)<12 by lia);unfold Mk
  split<;>lia
 have hc:Bw (Ii N G k)/\(1000<Ie (Ii N G k).length (Ii N G k).sum ↔ Xr N k=1):=by
  unfold Ii;by_cases c:Xr N k=1
  ·rw[Ba c]
   obtain⟨q1,q2⟩:=Zh1 (far:=Zb G k%10^59) hn.1 hn.2 (Af _ (by decide)) (Qf _ (by decide));exact⟨q1,iff_of_true q2 c⟩
  ·rw[Aa c]
   have bs:=hB.sm;have bf:=hB.few;exact⟨⟨hB.lo,hB.hi,hB.nn,by lia⟩,iff_of_false (by lia) c⟩
 obtain⟨C,hm⟩:=hc;obtain⟨L,_⟩:=Fu N k C.lo;generalize Ii N G k=c at *;have w0:(Zh N k).getD 0 false=decide (Ij N k>0):=rfl;have w1:(Zh N k).getD 1 false=decide (Mk N k>0):=rfl;have w2:(Zh N k).getD 2 false=decide (Xr N k=1):=rfl;refine⟨rfl, ?_,fun z=>?_,fun z=>?_⟩
 ·rw[w0]
  by_cases q:Ij N k>0
  ·rw[Zle C hg.1 (by lia) hf.2,Hb q];rfl
  ·rw[show Ij N k=0 by lia,NM,Fq.mpr C];rfl
 ·rw[w0] at z
  have z:=F6 z;rw[show Ij N k=0 by lia,NM,w1];by_cases q:Mk N k>0
  ·rw[Hb q]
   exact iff_of_false (ZlC L C.lo hn.1 (by lia) hh.2) (by decide)
  ·rw[Tb q,show Mk N k=0 by lia]
   exact iff_of_true L.barB rfl
 ·rw[w0] at z
  have z:=F6 z;rw[show Ij N k=0 by lia,NM,w2,hm,decide_eq_true_eq]
theorem SV{N:LI0}{k:Int}(hB:M6 (Gh N k)):Sr (Gh N k) (Kj N k (Gh N k).length) [false,false,false]:=by
 obtain⟨L,_⟩:=Fu N k hB.lo;have bs:=hB.sm;have bf:=hB.few;exact⟨rfl,Fq.mpr ⟨hB.lo,hB.hi,hB.nn,by lia⟩,fun _=>iff_of_true L.barB rfl,fun _=>iff_of_false (by lia) (by decide)⟩
theorem ZbD{way:Int}{s r o q:LI0}{w v:List Bool}(h:Sr s r w)(k:Sr o q v):Sv way [s,r,o,q]=if way=2 then Vj [w,v] else Vj [w]:=by
 unfold Sv Bn;by_cases c:way=2
 ·rw[Ba c,Ba c];exact Zm3 h k
 ·rw[Aa c,Aa c];exact ZbE h
theorem ZfQ{e q way:Int}(e0:0<=e)(e1:e<1000)(q0:0<=q)(q1:q<2)(hw:way<2):Sv way [[e,999-e],[q]] = "told":=by
 have hs:([e,999-e]:LI0).sum=999:=by simp;lia
 have W:Sr [e,999-e] [q] [false,false,false]:=by
  refine⟨rfl,Fq.mpr ⟨by simp,by simp,fun z hz=>?_,by rw[hs];decide⟩,fun _=>iff_of_true ⟨fun p hp=>?_,rfl,by simp,by simp⟩ rfl,fun _=>iff_of_false ?_ (by decide)⟩
  ·simp only[Lc,Pt,or_false] at hz
   rcases hz with rfl|rfl<;>lia
  ·rw[Gi.mp hp]
   show 0<=q/\q<2;lia
  ·rw[hs,show ([e,999-e]:LI0).length=2 from rfl,JT (by lia)]
   lia
 unfold Sv Bn;rw[Aa (by lia)];exact ZbE W
theorem Zav{c:LI0}{f n far:Int}(h:c.length<=24):(Xn c f n far).length<=1000:=by
 unfold Xn
 split
 ·rw[Ug];lia
 split
 ·rw[Ug];lia
 split
 ·rw[Nt];lia
 split
 ·rw[Nt];lia
 ·lia
theorem ZaC{l:LI0}{f m:Int}{n:Nat}(h:l.length<=24)(hn:n<=24):(Kp l f m n).length<=1000:=by
 unfold Kp
 split
 ·simp
 split
 ·simp[Sn];lia
 split
 ·simp
 split
 ·rw[Nh,Ao];lia
 split
 ·rw[Nh];simp;lia
 split
 ·simp;lia
 ·lia
theorem ZfN(F:List (List Bool)):Jk 0 (.str (Vj F)):=by
 unfold Vj
 split
 ·exact X7 (by rw[PyData.canLay0];decide +kernel)
 split
 ·exact X7 (by rw[PyData.canLay0];decide +kernel)
 split
 ·exact X7 (by rw[PyData.canLay0];decide +kernel)
 ·exact X7 (by rw[PyData.canLay0];decide +kernel)
theorem Zbv{i:Nat}{s r o q:LI0}(hi:i<3)(h1:s.length<=1000)(h2:r.length<=1000)(h3:o.length<=1000)(h4:q.length<=1000):Jq i [s,r,o,q]:=⟨by lia,by lia,by simp,fun _=>by simp,by simp,fun x hx=>by
 simp only[Lc,Pt,or_false] at hx;rcases hx with rfl|rfl|rfl|rfl<;>assumption⟩
noncomputable def L4:Pm:=⟨LI0,fun ns=>[.lst (ns.map PV.int)],fun ns=>ns.length<=63,fun _=>.ok (.bl true)⟩
theorem Zgy(T:Nc K mg)(F:Zc K "law" "law" KC f fd):Yb P w K mg base Ic 11 f fd ["script"] (Wb K 1 .P W0 L4.fn):=by
 have ZbW:=Wd P w base T.ZeC Zdd (fun F=>Zgm T F);have ZbV:=Wd P w base T.ZeB Zdc (fun F=>Zgl T F);have VQ:=Wd P w base T.Ze8 ZcZ (fun F=>Zgi T F);have P6:=Wd P w base T.ZeF Zdg (fun F=>Zgp T F);have UQ:=Wd P w base T.Ze9 Zda (fun F=>Zgj T F);have S:=Vr;walk_at "ok";refine⟨_,_,⟨[],[],[],.P⟩,rfl,(Wa (pS 1 Vr.nd (pO ZbW hr (Qa (pv 0) (Qa Ea Ga)))) (Wa (pS 2 Vr.nd (pO ZbV hr (Qa (pv 0) (Qa Ea Ga)))) (Wa (pS 3 Vr.nd (pO VQ hr (Qa (pv 1) (Qa (pv 2) (Qa Ea Ga))))) (Wa (pS 4 Vr.nd (pO VQ hr (Qa (pv 1) (Qa (pv 2) (Qa Ea Ga))))) (Wa (pS 5 Vr.nd (We (Qa (We (Qa (Na Od (pX K (pv 1) Ea) Ea) (Qa (Na Av Ea (Na Od (pX K (pv 1) Ea) Ea)) Ga))) (Qa (We (Qa (Na Od (pX K (pv 1) Ea) Ea) Ga)) Ga)))) (Wa (Zd (Oi (U4 (K:=K) hu) (pO P6 hr (Qa (Na Od (Na Fk (pX K (pv 1) Ea) Ea) Ea) (Qa (pv 5) Ga))) Jg (Kg _)) (Jb (Kb Fv)) Jd) (Wa (Tk (Jl rfl T.z_range (Qa Ea Ga)) (Xk 6 Vr.nd) (Wa (pS 7 Vr.nd (pO UQ hr (Qa (We (Qa (pX K (pv 3) Ea) Ga)) Ga))) (Wa (Zd (pQ K hu (pv 6) Ea) (Jb (pS 7 Vr.nd (pO UQ hr (Qa (We (Qa (pX K (pv 3) Ea) (Qa (pX K (pv 4) Ea) Ga))) Ga)))) Jd) (Wa (Zd (Oi (U4 (K:=K) hu) (pO P6 hr (Qa (pv 6) (Qa (Na (Qv (K:=K)) (pX K (pv 3) Ea) (pX K (pv 4) Ea)) Ga))) (pv 7) (Kg _)) (Jb (Kb Fv)) Jd) (Wa (Zd (Oi (U4 (K:=K) hu) (pO P6 hr (Qa (pv 6) (Qa (Na (Qv (K:=K)) (pX K (pv 3) Ea) (pX K (pv 4) Ea)) Ga))) Jg (Kg _)) (Jb (Kb Fv)) Jd) (Jb (Zd (Oi (U4 (K:=K) hu) (pO P6 hr (Qa (pv 6) (Qa (Na (Qv (K:=K)) (pX K (pv 3) Ea) (pX K (pv 4) Ea)) Ga))) (pv 7) (Kg _)) (Jb (Kb Fv)) Jd))))))) (Jb (Kb Fv))))))))),(Ta (zF 1 (Dj (Fa (qS 0) (Fa qI Oa)))) (Ta (zF 2 (Dj (Fa (qS 0) (Fa qI Oa)))) (Ta (KI (i:=3) (VI (Sc (Sc (Sc Tg))) (Li (C3 (i:=1) (m:=.O) rfl (by decide)) (Li (C3 (i:=2) (m:=.O) rfl (by decide)) (Li (DE.PZ Ak) Iu)))) (by decide)) (Ta (KI (i:=4) (VI (Sc (Sc (Sc Tg))) (Li (Ji (i:=1) rfl) (Li (Ji (i:=2) rfl) (Li (DE.PZ Ak) Iu)))) (by decide)) (Ta (zF 5 (Yf (Kc (Yf (Kc (qF (Nd (qX (qS 1) qI) qI)) (Kc (qF (Nu qI (qA (Nd (qX (qS 1) qI) qI)))) Lf))) (Kc (Yf (Kc (qF (Nd (qX (qS 1) qI) qI)) Lf)) Lf)))) (Ta (Xc (Pc (qA (Ke (g:=(!·)) (qA (Ul (Fa (qA (Nd (qA (Qk (qX (qS 1) qI) qI)) qI)) (Fa (qO 5) Oa)))) (qA Zg)))) (Ce Ku) Yc) (Ta (Pk (Γl:=[.S,.S,.S,.S,.S,.O,.U,.U]) (Nk (Fa qI Oa)) rfl (Vl 6) (DS.out (Y:=⟨[.S,.S,.S,.S,.S,.O,.P,.P],[.S,.S,.S,.S,.S,.O,.U,.U],[.S,.S,.S,.S,.S,.O,.U,.U],.P⟩) (Y':=⟨[.S,.S,.S,.S,.S,.O,.U,.U],[.S,.S,.S,.S,.S,.O,.U,.U],[.S,.S,.S,.S,.S,.O,.U,.U],.P⟩) (Ta (zP 7 (Ul (Fa (UU (Fa (qX (qS 3) qI) Oa)) Oa))) (Ta (Xc (Pc (qA (Ke (g:=id) (qP 6) qI))) (zP 7 (Ul (Fa (UU (Fa (qX (qS 3) qI) (Fa (qX (qS 4) qI) Oa))) Oa))) Yc) (Ta (Xc (Pc (qA (Ke (g:=(!·)) (qA (Ul (Fa (qP 6) (Fa (qA (QI (Yw (Ji (i:=3) rfl) qI) (Yw (Ji (i:=4) rfl) qI))) Oa)))) (qP 7)))) (Ce Ku) Yc) (Ta (Xc (Pc (qA (Ke (g:=(!·)) (qA (Ul (Fa (qP 6) (Fa (qA (QI (Yw (Ji (i:=3) rfl) qI) (Yw (Ji (i:=4) rfl) qI))) Oa)))) (qA Zg)))) (Ce Ku) Yc) (Xc (Pc (qA (Ke (g:=(!·)) (qA (Ul (Fa (qP 6) (Fa (qA (QI (Yw (Ji (i:=3) rfl) qI) (Yw (Ji (i:=4) rfl) qI))) Oa)))) (qP 7)))) (Ce Ku) Yc))))) rfl rfl rfl rfl)) (Ce Ku)))))))), ?_⟩;refine Pm.ref L4 (g:=fun xs=>_) ?_;intro (ns:LI0) (hn:ns.length<=63);simp only[L4];symm;rw[ZdG ⟨by lia,by lia,by lia⟩];have hN:(Uv ns (63:Int).toNat).length=63:=Zjq ..;have hNs:=Zjr ns (63:Int).toNat;generalize Uv ns (63:Int).toNat=N at hN hNs;symm;rw[ZdF ⟨by lia,by lia,by lia⟩];have hG:(Xu ns (55:Int).toNat).length=55:=Zim ..;have hGs:=Zin ns (55:Int).toNat;generalize Xu ns (55:Int).toNat=G at hG hGs;symm;have B0:=NR N (f:=0) (by lia) (by lia);have B1:=NR N (f:=1) (by lia) (by lia);have O0:Aw N G 0:=⟨hN,hNs,hG,hGs,by lia,by lia,B0.lo,B0.hi⟩
 have O1:Aw N G 1:=⟨hN,hNs,hG,hGs,by lia,by lia,B1.lo,B1.hi⟩
 rw[GS O0];symm;rw[GS O1];symm;have W0:=ES O0 B0;have W1:=ES O1 B1;have V0:=SV B0;have V1:=SV B1;have e0:=Af (N.getD 2 0) (show (1000:Int)≠0 by lia);have e1:=Qf (N.getD 2 0) (show (0:Int)<1000 by lia);have q0:=Af (N.getD 3 0) (show (2:Int)≠0 by lia);have q1:=Qf (N.getD 3 0) (show (0:Int)<2 by lia);have u0:=Af (N.getD 3 0/2) (show (2:Int)≠0 by lia);have u1:=Qf (N.getD 3 0/2) (show (0:Int)<2 by lia);generalize N.getD 2 0%1000=e at *;generalize N.getD 3 0%2=q at *;generalize N.getD 3 0/2%2=u at *;have hEd:Sq.fn [.int u,.lst [.lst [.int e,.int (999-e)],.lst [.int q]]]=.ok (.str "told"):=by
  have:=BH (way:=u) (L:=[[e,999-e],[q]]) ⟨u0,by lia,by simp,fun z=>by lia,by simp,fun x hx=>by
   simp only[Lc,Pt,or_false] at hx;rcases hx with rfl|rfl<;>simp⟩
  rw[ZfQ e0 e1 q0 q1 (by lia)] at this;exact this
 rw[hEd];symm;have cl:∀k,(k=0\/k=1)->(Ii N G k).length<=24/\2<=(Ii N G k).length:=fun k hk=>by
  unfold Ii
  split
  ·exact⟨(FJ _ _).2,(FJ _ _).1⟩
  ·rcases hk with rfl|rfl
   ·exact⟨B0.hi,B0.lo⟩
   ·exact⟨B1.hi,B1.lo⟩
 have l0:=cl 0 (.inl rfl);have l1:=cl 1 (.inr rfl);have r0:=(Fu N 0 l0.2).2;have r1:=(Fu N 1 l1.2).2;have p0:=(Fu N 0 B0.lo).2;have p1:=(Fu N 1 B1.lo).2;have bh0:=B0.hi;have bh1:=B1.hi;have hBd:∀i:Nat,i<3->Sq.fn [.int i,.lst ((Ll N G 0).map Fc++(Ll N G 1).map Fc)]=.ok (.str (if (i:Int)=2 then Vj [Zh N 0,Zh N 1] else Vj [Zh N 0])):=fun i hi=>by
  have:=BH (Zbv hi (Zav (f:=Ij N 0) (n:=Yi N 0) (far:=Zb G (2+0)) l0.1) (ZaC (f:=Mk N 0) (m:=Yi N 0) (l:=Kj N 0 (Ii N G 0).length) (by lia) l0.1) (Zav (f:=Ij N 1) (n:=Yi N 1) (far:=Zb G (2+1)) l1.1) (ZaC (f:=Mk N 1) (m:=Yi N 1) (l:=Kj N 1 (Ii N G 1).length) (by lia) l1.1));rw[ZbD W0 W1] at this;exact this
 have hGd:∀i:Nat,i<3->Sq.fn [.int i,.lst ((Um N 0).map Fc++(Um N 1).map Fc)]=.ok (.str "told"):=fun i hi=>by
  have:=BH (Zbv (s:=Gh N 0) (r:=Kj N 0 (Gh N 0).length) (o:=Gh N 1) (q:=Kj N 1 (Gh N 1).length) hi (by lia) (by lia) (by lia) (by lia));rw[ZbD V0 V1] at this;refine this.trans ?_
  split<;>rfl
 have hD1:Os.fn [.lst [Qj (Zh N 0)]]=.ok (.str (Vj [Zh N 0])):=HS (F:=[Zh N 0]) ⟨by simp,fun x hx=>by rw[Gi.mp hx];rfl⟩;have hD2:Os.fn [.lst [Qj (Zh N 0),Qj (Zh N 1)]]=.ok (.str (Vj [Zh N 0,Zh N 1])):=HS (F:=[Zh N 0,Zh N 1]) ⟨by simp,fun x hx=>by
  simp only[Lc,Pt,or_false] at hx;rcases hx with rfl|rfl<;>rfl⟩
 have hNb:newT ((Ll N G 0).map Fc++(Ll N G 1).map Fc)=.ok (.lst ((Ll N G 0).map Fc++(Ll N G 1).map Fc)):=by
  unfold newT;rw[Ba (by simp[Ll])]
 have hNg:newT ((Um N 0).map Fc++(Um N 1).map Fc)=.ok (.lst ((Um N 0).map Fc++(Um N 1).map Fc)):=by
  unfold newT;rw[Ba (by simp[Um])]
 have hds:∀(g:Bool->Bool) (F:List (List Bool)),Mf g (.str (Vj F)) (.str (Vj F))=.ok (.bl (g true)):=fun g F=>ZjP (ZfN F);generalize (Ll N G 0).map Fc=D0 at *;generalize (Ll N G 1).map Fc=D1 at *;generalize (Um N 0).map Fc=G0 at *;generalize (Um N 1).map Fc=G1 at *;generalize hw:Rf _ _ _=W;obtain⟨ρ',rfl,v,w,rfl⟩:=Ml hw (fun i ρ=>∃v w,ρ=[PV.lst (List.map PV.int ns),PV.lst (List.map PV.int N),PV.lst (List.map PV.int G),.tup [.lst G0,.lst D0,Qj (Zh N 0)],.tup [.lst G1,.lst D1,Qj (Zh N 1)],.lst [.lst [.int e,.int (999-e)],.lst [.int q]],v,w]) ⟨_,_,rfl⟩ (by
  rintro i x ρ hx ⟨v,w,rfl⟩;obtain⟨hi,rfl⟩:=Tn hx;rw[Er];have hb:=hBd i hi;have hg:=hGd i hi;symm;rw[hD1];symm;by_cases c:(i:Int)=2
  ·rw[Hb c]
   rw[Ba c] at hb;symm;rw[hD2];symm;rw[hNb];symm;rw[hb];symm;rw[hds];symm;rw[hNg];symm;rw[hg];symm;rw[hNb];symm;rw[hb];symm;rw[hds];symm;exact Hh ⟨_,_,rfl⟩
  ·rw[Tb c]
   rw[Aa c] at hb;symm;rw[hNb];symm;rw[hb];symm;rw[hds];symm;rw[hNg];symm;rw[hg];symm;rw[hNb];symm;rw[hb];symm;rw[hds];symm;exact Hh ⟨_,_,rfl⟩)
 symm
def CN(K:ZmM):Sp:=Wb K 1 .P W0 L4.fn
theorem Zip{l:PySem.W.OpenLaw}(T:Nc K mg){fa:Ja}(hmg:mg "law"=some (.ref fa)):∃fd:Dl,(∀(s:Ha) (u:Va),BindsTo s fd ⟨[u],[]⟩ [("script",u)]) /\
  ∀base:Heap,K.In base->base.Ns Pg mg->Yb l.prog w K mg base Ic 11 fa fd ["script"] (CN K):=by
 obtain⟨f,fd,F,hm⟩:=T.ZeP;rw[hmg] at hm;cases hm;refine⟨fd,fun s u=>?_,fun base _ _=>Zgy T F⟩;obtain⟨oc,od,kV,doc,pm,an,Ib,ct,osl,rfl,lk,hcd⟩:=F.ex;exact .of_eq (Zdp kV doc pm an Ib ct [u] rfl)
theorem Ziq{H:Hp}{a:Ja}{ns:LI0}(hl:ns.length<=63)(hS:Uc K H a (ns.map V.int)):CN K [.ref a] H (fun v _=>v=.bl true) fun _ _ _=>False:=
 Zir (Pm.fn_eq L4 ns hl fun _ _=>rfl) hS
end
theorem Td{K:ZmM}{h:Heap}{mg:Str->Option Va}{x:Str}{st:Fb}{f:Ja}{od an:Option Ja}{sl:Array (Option Va)}{oc kV dc pm cd ct:Va}(X:K.In h)(G:h.Ns Pg mg)(a:PySem.W.nsIn K Pg x=some (some (.ref f)))(l:K.lookup f=some ⟨oc,od,.func (PySem.W.fnOf x x (Ou st) (Bm st) (Ob st) .none kV dc pm an cd ct),sl⟩)(c:PySem.W.codeIn K cd x=true)(k:PySem.W.keepIn K (.ref f)=true):Wc K mg x st:=⟨_,_,HV (st:=st) l c k,PySem.W.mg_of X G a⟩
theorem RH{K:ZmM}{h:Heap}{mg:Str->Option Va}{x:Str}{v:Tok->Va}{t:Tok}(X:K.In h)(G:h.Ns Pg mg)(a:PySem.W.nsIn K Pg x=some (some (v t))):∃t,mg x=some (v t):=⟨t,PySem.W.mg_of X G a⟩
theorem T9{K:ZmM}{x m q:Str}{st:Fb}{C f:Ja}{od an:Option Ja}{sl:Array (Option Va)}{oc kV dc pm cd ct:Va}(a:PySem.W.nsIn K Pg x=some (some (.ref C)))(b:PySem.W.findIn K (.ref C) m=some (some (.ref f)))(t:PySem.W.typeIn K (.ref f)=some (.type "function"))(l:K.lookup f=some ⟨oc,od,.func (PySem.W.fnOf m q (Ou st) (Bm st) (Ob st) .none kV dc pm an cd ct),sl⟩)(c:PySem.W.codeIn K cd q=true)(k:PySem.W.keepIn K (.ref f)=true):T1 K x m q st:=⟨_,_,_,a,b,t,HV (st:=st) l c k⟩
end My
namespace PySem.W.Fast
def tw14454868196062267312:=()
def tw14893884278255079338:=()
def tw341160238007788324:=()
def tw12199078837977357549:=()
def tw3569637111740217452:=()
def tw2878859820549718273:=()
def tw3382428305891141073:=()
def tw755818939231057000:=()
def tw7594484261467819569:=()
def tw14359911721520948765:=()
def tw7796492731978580564:=()
def tw16150978993152881177:=()
def tw2791389286366840098:=()
def tw13802953197405886879:=()
def tw4416556686489926478:=()
def tw14788366008966660846:=()
def tw3350853306813752752:=()
def tw6024272123121991043:=()
def tw8462719395958721148:=()
def tw8712430143435800761:=()
def tw1905054093505400873:=()
def tw15208677111492372658:=()
def tw3333129449168252809:=()
def tw18313609891416348196:=()
def tw18322732306372566498:=()
def tw16853490817288665527:=()
def tw5643643221575736300:=()
def tw3725765630905972882:=()
def tw16666425505495508310:=()
def tw13595015868996612325:=()
def tw14422878588678489231:=()
def tw8848486953064553439:=()
def tw16963524938483286707:=()
def tw2622092560425387856:=()
def tw12965201985932268321:=()
def tw2055673637037667968:=()
def tw16573690532482654433:=()
def tw3872898301404517674:=()
def tw10169807426082466645:=()
def tw11315266509798822643:=()
def tw17928542512113326675:=()
def tw11086281402282826459:=()
def tw13502323733786178775:=()
def tw1952652414545403709:=()
def tw11583832519311115694:=()
def tw14888842249740205743:=()
def tw13337348814142687117:=()
def tw8238626371210592481:=()
def tw4317330330648410189:=()
def tw2924099643451111674:=()
def tw11286139423339282311:=()
def tw4817679999714205707:=()
def tw8522562898575573925:=()
def tw14789533707243982785:=()
def tw5654329045202294897:=()
def tw813263793779085824:=()
def tw12976902540122878672:=()
def tw10997566001930841188:=()
def tw17488981307649226582:=()
def tw16544518650264983173:=()
def tw9210101126393584887:=()
def tw14172080125548550019:=()
def tw18155104953939087803:=()
def tw12050354979726784225:=()
def tw5405030080162782485:=()
def tw7409526506458502728:=()
def tw18162573314104535552:=()
def tw12207159514058456016:=()
def tw5704778807909632464:=()
def tw10721927289555868688:=()
def tw14965018950184622453:=()
def tw7757556287108874789:=()
def tw5292391395366166683:=()
def tw17778027706885899563:=()
def tw17388371608700108189:=()
def tw3487375533370575620:=()
def tw18158752480641705148:=()
def tw10383299514527608362:=()
def tw1165881854736388733:=()
def tw18075370818719847379:=()
def tw11532168960966677698:=()
def tw2801847994567316135:=()
def tw1151500900235980779:=()
def tw15019693676666740765:=()
def tw4187430255429065057:=()
def tw9514642684389007706:=()
def tw14244294015560334429:=()
def tw18176285172167331753:=()
def tw11234673385929314520:=()
def tw16627435198329784920:=()
def tw7908278547183037080:=()
def tw16501545530048100109:=()
def tw14567550633258966549:=()
def tw7219605845651578125:=()
def tw1135223687158231132:=()
def tw11341881305931605617:=()
def tw8646693579736375326:=()
def tw3140087069422344895:=()
def tw8025331720118659821:=()
def tw5004110027339669723:=()
def tw10194917100228759297:=()
def tw10767466869115923901:=()
def tw7727284871742538660:=()
def tw17609282022227525519:=()
def tw246581646096529189:=()
def tw6889041837350118651:=()
def tw16347879260051597173:=()
def tw2428106366287946203:=()
def tw18305672962994186006:=()
def tw7594454056762996368:=()
def tw1239847519034379706:=()
def tw13631281572829623343:=()
def tw10298079196625270161:=()
def tw508492008638724882:=()
def tw18012917962283651512:=()
def tw5628076180470398616:=()
def tw3851043344952176603:=()
def tw5479798457926299234:=()
def tw11867833405087751183:=()
def tw8082635521623941766:=()
def tw15325934085653476409:=()
def tw12155270621992615372:=()
def tw11363088659921406807:=()
def tw4296660059672042611:=()
def tw11911634383284091903:=()
def tw11861730091018774543:=()
def tw2029477649522870792:=()
def tw13499034257757167616:=()
def tw10071594613809003244:=()
def tw11207146872682331308:=()
def tw540695610389829791:=()
def tw16632250548916950852:=()
def tw15729330454859764316:=()
def tw1005640561470574017:=()
def tw9738227289889622778:=()
def tw4674946420052723884:=()
def tw4485299337753957088:=()
def tw5051200228602439427:=()
def tw13810282428019621212:=()
def tw4457408142376650013:=()
def tw2163634211069154412:=()
def tw16590680579058700613:=()
def tw16428231413452624601:=()
def tw4126051615746726535:=()
def tw4370027360130536128:=()
def tw6564380490076670428:=()
def tw16836696369779562373:=()
def tw13599854727840349805:=()
def tw11131658832158475198:=()
def tw6460027501507119201:=()
def tw2538110100260498826:=()
def tw539374157434880902:=()
def tw15653612505196644728:=()
def tw331419255633229176:=()
def tw11566606483075178900:=()
def tw4029627004209633373:=()
def tw17774634300984036889:=()
def tw16414632713840535918:=()
def tw1530664764283320112:=()
def tw14551339815344492290:=()
def tw13092848230680564777:=()
def tw12745954982515852363:=()
def tw10477091362250911021:=()
def tw6663782631973643279:=()
def tw12837768005876166545:=()
def tw7085937479226873675:=()
def tw16034574269799314008:=()
def tw6819433860535262955:=()
def tw7611735896100313452:=()
def tw6824939056892404186:=()
def tw2209568950389003297:=()
def tw7231172290133664792:=()
def tw7826297408596961830:=()
def tw5789154423857157498:=()
def tw15164766479187740992:=()
def tw13486378897333054448:=()
def tw13386288401554279518:=()
def tw11989234298027316934:=()
def tw10621772400148201528:=()
def tw11243607136193174999:=()
end PySem.W.Fast
open PySem PySem.W PyProof.Rows
set_option maxRecDepth 100000 in
set_option maxHeartbeats 0 in
theorem PySem.Challenge.cw_sowring_k32_hands_refuse_holds : PySem.Challenge.rw_sowring_k32_hands_refuse.Holds := by
 w_on;o_law;k_head;(case hw=>w_witness2)
 k_fill
 refine L2.Zmp (l:=PySem.Challenge.rw_sowring_k32_hands_refuse) (n:=63) (k:=11) (x := "script") (CX:=L2.Ic) (sp:=My.CN) rfl (by decide) rfl ⟨rfl,by decide,by decide⟩ (fun w h Y=>⟨PySem.W.km_in_of Y,L2.Zig (by kernel_rfl) (PySem.W.km_tabs_of Y)⟩) ?F ?S ?C
 case F =>
  intro w mg fa h KX G hmg
  have T:My.Nc (L2.PQ KX) mg:=by
   dsimp only[L2.PQ]
   refine' ⟨My.Td KX G ?_ ?_ ?_ ?_,My.Td KX G ?_ ?_ ?_ ?_,My.Td KX G ?_ ?_ ?_ ?_,My.Td KX G ?_ ?_ ?_ ?_,My.Td KX G ?_ ?_ ?_ ?_,My.Td KX G ?_ ?_ ?_ ?_,My.Td KX G ?_ ?_ ?_ ?_,My.Td KX G ?_ ?_ ?_ ?_,My.Td KX G ?_ ?_ ?_ ?_,My.Td KX G ?_ ?_ ?_ ?_,My.Td KX G ?_ ?_ ?_ ?_,My.Td KX G ?_ ?_ ?_ ?_,My.Td KX G ?_ ?_ ?_ ?_,My.Td KX G ?_ ?_ ?_ ?_,My.Td KX G ?_ ?_ ?_ ?_,My.Td KX G ?_ ?_ ?_ ?_,My.Td KX G ?_ ?_ ?_ ?_,My.Td KX G ?_ ?_ ?_ ?_,My.Td KX G ?_ ?_ ?_ ?_,My.Td KX G ?_ ?_ ?_ ?_,My.Td KX G ?_ ?_ ?_ ?_,My.Td KX G ?_ ?_ ?_ ?_,My.Td KX G ?_ ?_ ?_ ?_,My.Td KX G ?_ ?_ ?_ ?_,My.Td KX G ?_ ?_ ?_ ?_,My.Td KX G ?_ ?_ ?_ ?_,My.Td KX G ?_ ?_ ?_ ?_,My.Td KX G ?_ ?_ ?_ ?_,My.Td KX G ?_ ?_ ?_ ?_,My.Td KX G ?_ ?_ ?_ ?_,My.Td KX G ?_ ?_ ?_ ?_,My.Td KX G ?_ ?_ ?_ ?_,My.Td KX G ?_ ?_ ?_ ?_,My.Td KX G ?_ ?_ ?_ ?_,My.Td KX G ?_ ?_ ?_ ?_,My.Td KX G ?_ ?_ ?_ ?_,My.Td KX G ?_ ?_ ?_ ?_,My.Td KX G ?_ ?_ ?_ ?_,My.Td KX G ?_ ?_ ?_ ?_,My.Td KX G ?_ ?_ ?_ ?_,My.RH KX G ?_,My.RH KX G ?_,My.RH KX G ?_,PySem.W.mg_none_of KX G ?_,PySem.W.mg_none_of KX G ?_,PySem.W.mg_none_of KX G ?_,PySem.W.mg_none_of KX G ?_,PySem.W.mg_none_of KX G ?_,PySem.W.mg_none_of KX G ?_,PySem.W.mg_none_of KX G ?_,PySem.W.mg_none_of KX G ?_,PySem.W.mg_none_of KX G ?_,PySem.W.mg_none_of KX G ?_,PySem.W.mg_none_of KX G ?_,PySem.W.mg_none_of KX G ?_,PySem.W.mg_none_of KX G ?_,PySem.W.mg_none_of KX G ?_, ?_, ?_, ?_,fun n C e=>PySem.W.mg_of KX G e,My.T9 ?_ ?_ ?_ ?_ ?_ ?_,My.T9 ?_ ?_ ?_ ?_ ?_ ?_,My.T9 ?_ ?_ ?_ ?_ ?_ ?_,My.T9 ?_ ?_ ?_ ?_ ?_ ?_, ?_⟩
   all_goals try first|k_is|kernel_rfl
  exact My.Zip T hmg
 case S=>exact fun K H a ns hl hS=>My.Ziq hl hS
 case C=>exact fun _ _ _ _ z=>z
