import PyProof.Rows.All
import Wide.All
import OpenK.AllK
import Wide.FinOn
import Lean
import PyProof.EqAt
import PyProof.EqKinds
import PyProof.TupleCall
import KE.KTryMore
import PyProof.NsDelKeeps
import PyProof.EnumStmt
import KE.KRevIter
import PyProof.ListNew
import KE.KIntText
import PyProof.ListRange
import PyProof.Rows.Range3
import PyProof.Rows.TupDisplay
import PyProof.DictWalks
import KE.KSortTup
import PyProof.StrLawsTight
import PyProof.StrBlock2
import PyProof.Rows.SortRuns
import PySem.Challenge.RW_sowring_k69_whole_homes_asked
open List renaming getD_eq_getElem?_getD->ZwZ,getElem?_eq_getElem->Zxa,mem_append_right->Zxb,length_map->Zxc,mem_cons->Zxd,mem_append_left->Zxe,map_cons->Zxf,mem_append->Zxg,size_toArray->Zxh,getElem?_append_left->Zxk,getElem?_eq_none->Zxl,getElem?_map->Zxm,getElem?_append_right->Zxn,length_cons->Zxp,length_append->Zxq,mem_map->Zxr,mem_cons_of_mem->Zxs,lookup_cons->Zxw,not_mem_nil->Zxx,getElem?_set_self->Zxy,all_eq_true->Zxz,getElem?_eq_some_iff->Zx0,getElem?_set_ne->Zx1,mem_of_getElem?->Zx3,getElem?_range->Zx4,drop_eq_getElem_cons->Zx5,getElem?_eq_none_iff->Zx6,mem_singleton->Zx7,replicate_succ->Zx8,length_nil->Zx9,append_nil->ZxA,sum_cons->ZxB,length_singleton->ZxC,map_map->ZxD,map_append->ZxF,mem_cons_self->ZxH,length_range->ZxI,drop_eq_nil_of_le->ZxJ,length_take->ZxK,length_drop->ZxL,contains_iff_mem->ZxM,getElem?_take_of_lt->ZxO,flatten_cons->ZxP,mem_range->ZxQ,map_nil->ZxT,find?_cons->ZxU,append_assoc->ZxV,getElem_of_mem->Zya,length_pos_iff->Zyb,getElem?_replicate->Zyc,length_set->Zyd,nil_append->Zye,getElem?_cons_zero->Zyf,all_cons->Zyg,any_cons->Zyh,drop_of_length_le->Zyk,take_of_length_le->Zyl,ext_getElem?->Zyn,length_replicate->Zyo,getElem?_replicate_of_lt->Zyq,cons_append->Zys,eq_nil_of_length_eq_zero->Zyt,mem_filter->Zyw,filterMap_cons->Zyx,nodup_cons->Zyy,of_mem_zip->Zyz,idxOf_lt_length_of_mem->Zy1,filter_eq_self->Zy3,mem_filterMap->Zy5,zip_cons_cons->Zy6,ext_getElem->Zy9,getElem_mem->ZyB,length_zip->ZyD,all_nil->ZyF
open Nat renaming le_refl->Zxi,lt_of_lt_of_le->Zxj,ne_of_lt->Zxv,le_trans->Zx2,lt_irrefl->ZxE,le_of_ble_eq_true->ZxG,toDigits->ZxN,lt_of_le_of_lt->ZxS,lt_succ_of_lt->ZxW,zero_le->Zym,lt_succ_self->Zyp,pow_le_pow_right->Zyu,mul_le_mul_right->Zyv,min_le_left->Zy0,ne_of_gt->Zy4
open Int renaming emod_lt_of_pos->Zxo,toNat_natCast->Zxt,emod_nonneg->Zxu,emod_eq_of_lt->ZxY,add_mul_emod_self_left->ZxZ,eq_ofNat_of_zero_le->Zyj,natCast_pow->Zy2,zero_add->Zy7,lt_of_le_of_lt->Zy8,natCast_zero->ZyC,le_trans->ZyE,sub_zero->ZyG
open Array renaming all_toList->Zyr
open Option renaming map_eq_some_iff->ZxR,isSome_map->ZxX,map_some->Zyi,getD_some->ZyA
set_option Elab.async false
set_option genSizeOf false
set_option genSizeOfSpec false
set_option linter.all false
set_option maxRecDepth 100000
namespace L2
open PySem PySem.Spec PyProof.Rows
noncomputable abbrev Key:=Sum Int Str
noncomputable def Zft:Key->Value->Bool
 |.inl k,v=>Value.isInt k v
 |.inr x,v=>Value.isStrOf x v
noncomputable def Zo2(w:World):Key->Int
 |.inl k=>hashInt k
 |.inr x=>hashStr w x
theorem ZY:∀{k:Key}{v:Value},Zft k v=true->(∃i t,k=Sum.inl i/\v=Value.int i t)\/(∃x t,k=Sum.inr x/\v=Value.str x t)
 |.inl i,v,h=>by
  obtain⟨t,e⟩:=Value.isInt_shape (k:=i) (v:=v) h
  exact .inl ⟨i,t,rfl,e⟩
 |.inr x,v,h=>by
  obtain⟨t,e⟩:=Value.isStrOf_shape (x:=x) (v:=v) h
  exact .inr ⟨x,t,rfl,e⟩
theorem ZgZ(i:Int)(t:Tok):Zft (.inl i) (.int i t)=true:=by simp[Zft,Value.isInt]
theorem ZgY(x:Str)(t:Tok):Zft (.inr x) (.str x t)=true:=by simp[Zft,Value.isStrOf]
theorem Zmr(a b:Int):decide ((Sum.inl a:Key)=Sum.inl b)=(a==b):=by
 by_cases e:a=b
 ·subst e;simp
 ·have h:¬(Sum.inl a:Key)=Sum.inl b:=fun q=>e (Sum.inl.inj q)
  rw[decide_eq_false h]
  exact(beq_eq_false_iff_ne.mpr e).symm
theorem Zmo(a b:Str):decide ((Sum.inr a:Key)=Sum.inr b)=decide (a=b):=by
 by_cases e:a=b
 ·subst e;simp
 ·have h:¬(Sum.inr a:Key)=Sum.inr b:=fun q=>e (Sum.inr.inj q)
  rw[decide_eq_false h,decide_eq_false e]
theorem Zmq(a:Int)(b:Str):decide ((Sum.inl a:Key)=Sum.inr b)=false:=decide_eq_false (fun q=>nomatch q)
theorem Zmp(a:Str)(b:Int):decide ((Sum.inr a:Key)=Sum.inl b)=false:=decide_eq_false (fun q=>nomatch q)
noncomputable def JE(prog:Program)(w:World):PySem.KeyKind prog w Key where
 is:=Zft
 hash:=Zo2 w
 inj:=fun v a b ha hb=>by
  rcases ZY ha with ⟨i,t,rfl,rfl⟩|⟨x,t,rfl,rfl⟩
  ·rcases ZY hb with ⟨j,u,rfl,e⟩|⟨y,u,rfl,e⟩
   ·injection e with e1 _;rw[e1]
   ·exact nomatch e
  ·rcases ZY hb with ⟨j,u,rfl,e⟩|⟨y,u,rfl,e⟩
   ·exact nomatch e
   ·injection e with e1 _;rw[e1]
 byValue:=fun k v h=>by
  rcases ZY h with ⟨i,t,rfl,rfl⟩|⟨x,t,rfl,rfl⟩<;>rfl
 pyHash:=fun hv h=>by
  rcases ZY hv with ⟨i,t,rfl,rfl⟩|⟨x,t,rfl,rfl⟩
  ·exact wpAny_pyHash_int h
  ·exact wpAny_pyHash_str h
 eqBool:=fun hu hv h=>by
  rcases ZY hu with ⟨i,t,rfl,rfl⟩|⟨x,t,rfl,rfl⟩
  ·rcases ZY hv with ⟨j,u,rfl,rfl⟩|⟨y,u,rfl,rfl⟩
   ·rw[Zmr] at h;exact wpAny_eqBool_int h
   ·rw[Zmq] at h;exact SeqAt.EqAt.int_str i t y u _ _ _ _ h
  ·rcases ZY hv with ⟨j,u,rfl,rfl⟩|⟨y,u,rfl,rfl⟩
   ·rw[Zmp] at h;exact SeqAt.EqAt.str_int x t j u _ _ _ _ h
   ·rw[Zmo] at h;exact wpAny_eqBool_str h
 «strs»:=fun k x t v h=>by
  rcases ZY h with ⟨i,u,rfl,e⟩|⟨y,u,rfl,e⟩
  ·exact nomatch e
  ·injection e with e1 _
   subst e1
   cases v<;>rfl
theorem Zdm(prog:Program)(w:World)(i:Int)(t:Tok):(JE prog w).is (.inl i) (.int i t)=true:=ZgZ i t
theorem Zdl(prog:Program)(w:World)(x:Str)(t:Tok):(JE prog w).is (.inr x) (.str x t)=true:=ZgY x t
inductive V where
 |non|bl (b:Bool)|int (i:Int)|str (x:Str)|byt (b:Array UInt8)|flt (b:UInt64)|ref (a:Addr)|ty (n:String)
 deriving DecidableEq
noncomputable def J2:V->Value->Prop
 |.non,u=>u=Value.none
 |.bl b,u=>u=Value.bool b
 |.int i,u=>∃t,u=Value.int i t
 |.str x,u=>∃t,u=Value.str x t
 |.byt b,u=>∃t,u=Value.bytes b t
 |.flt b,u=>∃t,u=Value.float b t
 |.ref a,u=>u=Value.ref a
 |.ty n,u=>u=Value.type n
noncomputable abbrev ZU:List V->List Value->Prop:=Paired J2
theorem ZU.length{xs:List V}{us:List Value}(r:ZU xs us):xs.length=us.length:=Paired.length r
theorem ZU.get:∀{xs:List V}{us:List Value}{i:Nat}{x:V},ZU xs us->xs[i]?=some x->∃u,us[i]?=some u/\J2 x u
 |_,_,_,_,.nil,e=>by simp at e
 |_,_,0,_,.cons r _,e=>by simp at e;subst e;exact⟨_,rfl,r⟩
 |_,_,i+1,x,.cons _ t,e=>by
  obtain⟨u,h1,h2⟩:=ZU.get (i:=i) (x:=x) t (by simpa using e)
  exact⟨u,by simpa using h1,h2⟩
theorem ZU.set{x:V}{u:Value}(r:J2 x u):∀{xs:List V}{us:List Value} (i:Nat),ZU xs us->ZU (xs.set i x) (us.set i u)
 |_,_,_,.nil=>.nil
 |_,_,0,.cons _ t=>.cons r t
 |_,_,i+1,.cons q t=>.cons q (ZU.set r i t)
theorem ZU.append:∀{xs ys:List V}{us ws:List Value},ZU xs us->ZU ys ws->ZU (xs++ys) (us++ws)
 |_,_,_,_,.nil,s=>s
 |_,_,_,_,.cons r t,s=>.cons r (ZU.append t s)
theorem ZU.take:∀{xs:List V}{us:List Value} (n:Nat),ZU xs us->ZU (xs.take n) (us.take n)
 |_,_,0,_=>.nil
 |_,_,_+1,.nil=>.nil
 |_,_,n+1,.cons r t=>.cons r (ZU.take n t)
theorem ZU.drop:∀{xs:List V}{us:List Value} (n:Nat),ZU xs us->ZU (xs.drop n) (us.drop n)
 |_,_,0,r=>r
 |_,_,_+1,.nil=>.nil
 |_,_,n+1,.cons _ t=>ZU.drop n t
noncomputable def ZhS:Option V->Option Value->Prop
 |some v,some u=>J2 v u
 |none,none=>True
 |_,_=>False
def KV{κ:Type}:List (κ×V)->List (κ×Value)->Prop:=Paired fun(p:κ×V) (q:κ×Value)=>p.1=q.1/\J2 p.2 q.2
noncomputable def kV:Key->V
 |.inl i=>.int i
 |.inr x=>.str x
inductive HO where
  |lst (xs:List V)
  |tup (xs:List V)
  |dK (kvs:List (Key×V))|dT (kvs:List (List Key×V))
  |set (S:Int->Bool) (n:Nat)
  |ins (C dx:Addr) (fs:List (Str×V))
  |own (x:Addr)
  |xd (fs:List (Str×V))
  |met (f x:Addr)
  |rng (lo hi:Int)
  |frz (o:Obj) (u:HO)
  |tbl (ps:Array Value)
  |ext (φ:Heap->Prop)
noncomputable abbrev Hp:=Addr->Option HO
noncomputable def upd(H:Hp)(a:Addr)(o:HO):Hp:=fun b=>if b=a then some o else H b
theorem ZE{H:Hp}{a:Addr}{o:HO}:upd H a o a=some o:=by unfold upd;rw[if_pos rfl]
theorem Zv{H:Hp}{a b:Addr}{o:HO}(h:b≠a):upd H a o b=H b:=by unfold upd;rw[if_neg h]
theorem Zmf{H:Hp}{a b:Addr}{o u:HO}(h:H a=some o)(h':H b=some u)(d:o≠u):a≠b:=by
 intro e;subst e;rw[h] at h';exact d (Option.some.inj h')
theorem Z2{H:Hp}{a b:Addr}{o:HO}(h:H a=some o)(h':H b=none):a≠b:=by
 intro e;subst e;rw[h] at h';cases h'
section
variable (P:Program) (w:World)
noncomputable def JQ(H:Hp)(h:Heap)(a:Addr):HO->Prop
 |.lst xs=>xs.length<=sizeLine/\∃(its:List Value) (n:Nat),ZU xs its/\h.get? a=some { cls:=.type "list",data:=.seq its.toArray n }
 |.tup xs=>xs.length<=sizeLine/\∃its:List Value,ZU xs its/\IsTup h a its.toArray
 |.dK kvs=>kvs.length<=sizeLine/\(a==sysModules)=false/\∃vs,KV kvs vs/\h.DictOf (JE P w) a vs
 |.dT kvs=>kvs.length<=sizeLine/\(a==sysModules)=false/\∃xs:List (List Key×Addr×Value),
   Paired (fun(p:List Key×V) (q:List Key×Addr×Value)=>p.1=q.1/\H q.2.1=some (.tup (p.1.map kV))/\J2 p.2 q.2.2) kvs xs /\
   ∃o es ep,h.get? a=some o/\o.ExactDict/\o.data=.dict es ep/\es.toList=xs.map (entryOfKey (tupleKind (JE P w)))/\(xs.map (·.1)).Nodup
 |.set S n=>h.SetOf (intKind P w) a S n
 |.ins C dx fs=>H dx=some (.own a)/\fs.length<=1000/\dx≠a/\h.get? a=some (PySem.W.instObj C dx) /\
   ∃mA,h.Ns1 dx mA/\(∀f,ZhS (fs.lookup f) (mA f))/\PySem.Within mA (fs.map (·.1))
 |.own _=>∃o,h.get? a=some o
 |.xd fs=>∃mA,h.Ns1 a mA/\∀f,ZhS (fs.lookup f) (mA f)
 |.rng lo hi=>∃t u v,h.get? a=some { cls:=.type "range",data:=.fields #[.int lo t,.int hi u,.int 1 v] }
 |.frz o u=>h.get? a=some o/\JQ H h a u
 |.tbl ps=>h.get? a=some { cls:=.none,data:=.fields ps }
 |.met f x=>h.get? a=some (PySem.W.methodObj (.ref f) (.ref x))
 |.ext φ=>φ h/\(∃o,h.get? a=some o)/\∀h1 h2:Heap,φ h1->(∀o,h1.get? a=some o->h2.get? a=some o)->φ h2
def HOk(H:Hp)(h:Heap):Prop:=∀a o,H a=some o->JQ P w H h a o
end
section
variable {P:Program}{w:World}{H H':Hp}{h h':Heap}{a:Addr}{o:HO}
theorem JQ.lt(x:JQ P w H h a o):a<h.objs.size:=by
 cases o with
 |lst xs=>obtain⟨_,_,_,_,e⟩:=x;exact Heap.lt_size e
 |tup xs=>obtain⟨_,_,_,p⟩:=x;exact p.lt
 |dK kvs=>obtain⟨_,_,_,_,o,_,_,e,_⟩:=x;exact Heap.lt_size e
 |dT kvs=>obtain⟨_,_,_,_,o,_,_,e,_⟩:=x;exact Heap.lt_size e
 |set S n=>obtain⟨o,_,_,_,e,_⟩:=x;exact Heap.lt_size e
 |ins C dx fs=>obtain⟨_,_,_,e,_⟩:=x;exact Heap.lt_size e
 |own y=>obtain⟨_,e⟩:=x;exact Heap.lt_size e
 |xd fs=>obtain⟨_,⟨_,_,_,e,_⟩,_⟩:=x;exact Heap.lt_size e
 |rng lo hi=>obtain⟨_,_,_,e⟩:=x;exact Heap.lt_size e
 |frz ob u=>obtain⟨e,_⟩:=x;exact Heap.lt_size e
 |tbl ps=>exact Heap.lt_size (show h.get? a=some _ from x)
 |met f y=>exact Heap.lt_size (show h.get? a=some _ from x)
 |ext φ=>obtain⟨_,⟨_,e⟩,_⟩:=x;exact Heap.lt_size e
theorem Paired.mapP{α β:Type}{F G:α->β->Prop}:∀{l₁:List α}{l₂:List β},Paired F l₁ l₂->(∀a b,F a b->G a b)->Paired G l₁ l₂
 |_,_,.nil,_=>.nil
 |_,_,.cons r t,f=>.cons (f _ _ r) (Paired.mapP t f)
theorem JQ.stay(x:JQ P w H h a o)(k:∀b u,(b=a\/H b=some (.own a))->h.get? b=some u->h'.get? b=some u)(ho:∀b,H b=some (.own a)->H' b=some (.own a))(ht:∀b xs,H b=some (.tup xs)->H' b=some (.tup xs)):JQ P w H' h' a o:=by
 induction o with
 |lst xs=>obtain⟨z,its,n,r,e⟩:=x;exact⟨z,its,n,r,k _ _ (.inl rfl) e⟩
 |tup xs=>obtain⟨z,its,r,ob,e,c⟩:=x;exact⟨z,its,r,ob,k _ _ (.inl rfl) e,c⟩
 |dK kvs=>obtain⟨z,y,vs,r,ob,es,ep,e,c⟩:=x;exact⟨z,y,vs,r,ob,es,ep,k _ _ (.inl rfl) e,c⟩
 |dT kvs =>
  obtain⟨z,y,xs,r,ob,es,ep,e,c⟩:=x
  exact⟨z,y,xs,Paired.mapP r fun p q z=>⟨z.1,ht _ _ z.2.1,z.2.2⟩,ob,es,ep,k _ _ (.inl rfl) e,c⟩
 |set S n=>obtain⟨ob,es,ep,t,e,c⟩:=x;exact⟨ob,es,ep,t,k _ _ (.inl rfl) e,c⟩
 |ins C dx fs =>
  obtain⟨d,z,ne,e,mA,⟨od,es,ep,e2,c⟩,r⟩:=x
  exact⟨ho _ d,z,ne,k _ _ (.inl rfl) e,mA,⟨od,es,ep,k _ _ (.inr d) e2,c⟩,r⟩
 |own y=>obtain⟨ob,e⟩:=x;exact⟨ob,k _ _ (.inl rfl) e⟩
 |xd fs=>obtain⟨mA,⟨od,es,ep,e,c⟩,r⟩:=x;exact⟨mA,⟨od,es,ep,k _ _ (.inl rfl) e,c⟩,r⟩
 |rng lo hi=>obtain⟨t,u,v,e⟩:=x;exact⟨t,u,v,k _ _ (.inl rfl) e⟩
 |frz ob u ih=>obtain⟨e,q⟩:=x;exact⟨k _ _ (.inl rfl) e,ih q⟩
 |tbl ps =>
  have e:h.get? a=some { cls:=.none,data:=.fields ps }:=x
  show h'.get? a=some { cls:=.none,data:=.fields ps }
  exact k a _ (.inl rfl) e
 |met f y =>
  have e:h.get? a=some (PySem.W.methodObj (.ref f) (.ref y)):=x
  show h'.get? a=some (PySem.W.methodObj (.ref f) (.ref y))
  exact k a _ (.inl rfl) e
 |ext φ=>obtain⟨p,⟨o,e⟩,st⟩:=x;exact⟨st _ _ p fun o q=>k _ _ (.inl rfl) q,⟨o,k _ _ (.inl rfl) e⟩,st⟩
theorem HOk.lt(x:HOk P w H h)(e:H a=some o):a<h.objs.size:=(x a o e).lt
theorem HOk.fresh(x:HOk P w H h)(e:h.objs.size<=a):H a=none:=by
 cases q:H a with
 |none=>rfl
 |some u=>exact absurd (Zxj (x.lt q) e) (ZxE _)
theorem HOk.kept(x:HOk P w H h)(k:∀b u,h.get? b=some u->h'.get? b=some u):HOk P w H h':=fun a o e =>
 (x a o e).stay (fun b u _ q=>k b u q) (fun _ q=>q) fun _ _ q=>q
theorem HOk.laid(x:HOk P w H h)(k:∀b u,h.get? b=some u->h'.get? b=some u)(hp:h.objs.size<=a)(new:JQ P w (upd H a o) h' a o):HOk P w (upd H a o) h':=fun b u e=>by
 have hn:=x.fresh hp
 by_cases hb:b=a
 ·subst hb;rw[ZE] at e;cases e;exact new
 ·rw[Zv hb] at e
  exact(x b u e).stay (fun c v _ q=>k c v q) (fun c q=>by rw[Zv (Z2 q hn)];exact q) fun c xs q=>by rw[Zv (Z2 q hn)];exact q
end
def Rd(H:Hp)(a:Addr)(u:HO):Prop:=H a=some u\/∃o,H a=some (.frz o u)
theorem Rd.ok{P:Program}{w:World}{H:Hp}{h:Heap}{a:Addr}{u:HO}(r:Rd H a u)(x:HOk P w H h):JQ P w H h a u:=by
 rcases r with r|⟨o,r⟩
 ·exact x a u r
 ·obtain⟨_,q⟩:=x a _ r
  exact q
noncomputable def Mut:Option HO->Prop
 |some (.lst _)=>True
 |some (.dK _)=>True
 |some (.dT _)=>True
 |some (.set _ _)=>True
 |some (.ins _ _ _)=>True
 |some (.ext _)=>True
 |_=>False
section
variable {P:Program}{w:World}{H:Hp}{h h':Heap}{x e:Addr}{o':HO}
theorem HOk.write(ok:HOk P w H h)(mu:Mut (H x))(he:e=x\/H e=some (.own x))(k:∀b u,b≠e->h.get? b=some u->h'.get? b=some u)(heo:∃u,h'.get? e=some u)(new:JQ P w (upd H x o') h' x o'):HOk P w (upd H x o') h':=fun b u q=>by
 have nown:∀c y,H c=some (.own y)->c≠x:=fun c y r z=>by subst z;rw[r] at mu;exact mu
 have ntup:∀c xs,H c=some (.tup xs)->c≠x:=fun c xs r z=>by subst z;rw[r] at mu;exact mu
 by_cases hb:b=x
 ·subst hb;rw[ZE] at q;cases q;exact new
 ·rw[Zv hb] at q
  by_cases hbe:b=e
  ·have q':H b=some (.own x):=by
    rcases he with z|z
    ·exact absurd (hbe.trans z) hb
    ·rw[hbe];exact z
   rw[q] at q';cases q'
   obtain⟨v,hv⟩:=heo
   exact⟨v,by rw[hbe];exact hv⟩
  ·refine(ok b u q).stay (fun c v hc r=>k c v ?_ r) (fun c r=>by rw[Zv (nown c b r)];exact r) fun c xs r=>by rw[Zv (ntup c xs r)];exact r
   rcases hc with rfl|hc
   ·exact hbe
   ·rintro rfl
    rcases he with z|z
    ·exact nown c b hc z
    ·rw[hc] at z;cases z;exact hb rfl
end
structure Un(fs ex:List Addr)(H H':Hp)(h h':Heap):Prop where
 keep:∀b o,h.get? b=some o->H b=none->b ∉ fs->b ∉ ex->h'.get? b=some o
 slot:∀b o,h.get? b=some o->H b=none->b∈fs->b ∉ ex->∃sl,h'.get? b=some { o with slots:=sl }
 free:∀b o,h.get? b=some o->H b=none->b ∉ ex->H' b=none
 there:∀b o,h.get? b=some o->b ∉ ex->∃o',h'.get? b=some o'
 tups:∀b xs,H b=some (.tup xs)->H' b=some (.tup xs)
 frzs:∀b o u,H b=some (.frz o u)->H' b=some (.frz o u)
 tbls:∀b ps,H b=some (.tbl ps)->∃more,H' b=some (.tbl (ps++more))
section
variable {fs ex:List Addr}{H H1:Hp}{h h1 h':Heap}{a x e:Addr}{o:HO}
theorem Un.any(u:Un fs ex H H1 h h1){b:Addr}{ob:Obj}(q:h.get? b=some ob)(n:H b=none)(hx:b ∉ ex):∃sl,h1.get? b=some { ob with slots:=sl }:=by
 by_cases hb:b∈fs
 ·exact u.slot b ob q n hb hx
 ·exact⟨ob.slots,u.keep b ob q n hb hx⟩
theorem Un.kept(k:∀b u,h.get? b=some u->h'.get? b=some u):Un fs ex H H h h':=
 ⟨fun b ob q _ _ _=>k b ob q,fun b ob q _ _ _=>⟨ob.slots,k b ob q⟩,fun _ _ _ n _=>n,fun b ob q _=>⟨ob,k b ob q⟩,fun _ _ q=>q,fun _ _ _ q=>q,fun _ ps q=>⟨#[],by rw[q];simp⟩⟩
theorem Un.refl:Un fs ex H H h h:=Un.kept fun _ _ q=>q
theorem Un.laid(k:∀b u,h.get? b=some u->h'.get? b=some u)(hp:h.objs.size<=a)(hn:H a=none):Un fs ex H (upd H a o) h h' where
 keep:=fun b u q _ _ _=>k b u q
 slot:=fun b u q _ _ _=>⟨u.slots,k b u q⟩
 free:=fun b u q n _=>by rw[Zv (Zxv (Zxj (Heap.lt_size q) hp))];exact n
 there:=fun b u q _=>⟨u,k b u q⟩
 tups:=fun b xs q=>by rw[Zv (Z2 q hn)];exact q
 frzs:=fun b u xs q=>by rw[Zv (Z2 q hn)];exact q
 tbls:=fun b ps q=>⟨#[],by rw[Zv (Z2 q hn),q];simp⟩
theorem Un.write(mu:Mut (H x))(he:e=x\/H e=some (.own x))(k:∀b u,b≠e->h.get? b=some u->h'.get? b=some u)(heo:∃u,h'.get? e=some u):Un fs ex H (upd H x o) h h':=by
 have hx:∀b,H b=none->b≠x:=fun b n z=>by subst z;rw[n] at mu;exact mu
 have hb:∀b,H b=none->b≠e:=fun b n z=>by
  subst z
  rcases he with r|r
  ·exact hx b n r
  ·rw[n] at r;cases r
 have hm:∀b u,H b=some u->¬Mut (some u)->b≠x:=fun b u q nm z=>by subst z;rw[q] at mu;exact nm mu
 refine⟨fun b u q n _ _=>k b u (hb b n) q,fun b u q n _ _=>⟨u.slots,k b u (hb b n) q⟩,fun b u q n _=>by rw[Zv (hx b n)];exact n,fun b u q _=>?_,
  fun b xs q=>by rw[Zv (hm b _ q fun z=>z)];exact q,fun b u xs q=>by rw[Zv (hm b _ q fun z=>z)];exact q,fun b ps q=>⟨#[],by rw[Zv (hm b _ q fun z=>z),q];simp⟩⟩
 by_cases hbe:b=e
 ·subst hbe;exact heo
 ·exact⟨u,k b u hbe q⟩
end
noncomputable def trk(h:Heap)(H:Hp):List Addr:=(List.range h.objs.size).filter fun a=>(H a).isSome
noncomputable def ZiF(h:Heap)(H:Hp):Heap:=PySem.W.hideAll h (trk h H)
theorem Zhi(h:Heap)(H:Hp):(ZiF h H).objs.size=h.objs.size:=PySem.W.hideAll_size _ _
theorem ZiE{h:Heap}{H:Hp}{b:Addr}{o:Obj}(e:h.get? b=some o)(n:H b=none):(ZiF h H).get? b=some o:=
 PySem.W.hideAll_get _ e fun hm=>by
  have q:(H b).isSome=true:=(Zyw.mp hm).2
  rw[n] at q;simp at q
theorem Zko{h:Heap}{H:Hp}{b:Addr}{o:Obj}(e:(ZiF h H).get? b=some o):h.get? b=some o/\H b=none:=by
 have e':h.get? b=some o:=PySem.W.of_hideAll (trk h H) e
 refine⟨e', ?_⟩
 cases q:H b with
 |none=>rfl
 |some x =>
  have hm:b∈trk h H:=Zyw.mpr ⟨ZxQ.mpr (Heap.lt_size e'),by simp[q]⟩
  have z:(ZiF h H).get? b=none:=PySem.W.hideAll_none (trk h H) hm
  rw[z] at e;cases e
noncomputable def Zla(g h:Heap)(L:Addr):List (Addr×Obj):=(List.range h.objs.size).filterMap fun a=>if a=L\/(g.get? a).isSome=true then none else (h.get? a).map fun o=>(a,o)
noncomputable def Zcf(g h:Heap)(L d:Addr):List (Addr×Obj):=(Zla g h L).filter fun p=>decide (p.1≠d)
structure Mod(K:PySem.W.Frag)(mg:Str->Option Value)(base:Heap):Prop where
 kin:K.In base
 glob:base.Ns mainGlobals mg
 blt:∃mb,base.Ns builtinsNs mb/\∀x:Str,x ≠ "__name__"->mb x=bootBuiltins x
 nolimit:base.NoLimit
structure Cx where
 prog:Program
 w:World
 K:PySem.W.Frag
 mg:Str->Option Value
 base:Heap
 A:Around
 N:List Str
 s₀:Shared
 H₀:Hp
 env:Env
 outer:List Env
 stack:List Env
 ex:List Addr
 fn:Str->Bool
 calm:Bool
 pn:List (Addr×Obj)
 xe:Value->Shared->Prop
noncomputable def frs(l:List Env):List Addr:=l.filterMap (·.frame)
noncomputable abbrev Cx.fs(X:Cx):List Addr:=frs X.outer
def Vis(sc:Scope)(x:Str):Prop:=sc.names.lookup x=some .local\/sc.names.lookup x=some .cell\/sc.names.lookup x=some .free
def Loc(sc:Scope)(x:Str):Prop:=sc.names.lookup x=some .local\/sc.names.lookup x=some .cell
def Zop(env:Env)(h:Heap)(m:Str->Option Value)(x:Str)(u:Value):Prop:=
 (env.kindOf x=some .local/\m x=some u)\/((env.kindOf x=some .cell\/env.kindOf x=some .free)/\∃c,env.cells.lookup x=some c/\h.IsCell c (some u))
structure Cx.Ok(X:Cx):Prop where
 mod:Mod X.K X.mg X.base
 kind:X.env.scope.kind=.function
 glob:X.env.globals=mainGlobals
 blt:X.env.builtins=builtinsNs
 above:X.s₀.heap.objs.size<=X.env.locals
 inj:∀x y c,X.env.cells.lookup x=some c->X.env.cells.lookup y=some c->x=y
 has:∀x,(X.env.kindOf x=some .cell\/X.env.kindOf x=some .free)->∃c,X.env.cells.lookup x=some c
 cab:∀x c,X.fn x=true->X.env.cells.lookup x=some c->X.s₀.heap.objs.size<=c
 hd:X.calm=true->X.A.handled=none
 frames:X.A.frames=some X.stack
 stk:X.stack=X.outer\/(X.stack=X.env::X.outer/\X.env.frame=some X.env.locals)
 exf:∀b∈X.ex,b≠X.env.locals/\∀x c,X.env.cells.lookup x=some c->c≠b
 bs:∀b o,X.base.get? b=some o->X.s₀.heap.get? b=some o/\X.H₀ b=none
 bsz:X.base.objs.size<=X.s₀.heap.objs.size
 noex:∀b o,X.base.get? b=some o->b ∉ X.ex
 exfs:∀b∈X.ex,b ∉ X.fs
 funs:X.s₀.heap.FunFrames X.base X.outer
 frf:∀b∈X.fs,X.H₀ b=none
structure Inv(X:Cx)(pins:List (Addr×Obj))(σ:List (Option V))(H:Hp)(s:Shared):Prop where
 ok:X.Ok
 os:s.os=X.s₀.os
 bare:AllBare s.gens
 base:Un X.fs X.ex X.H₀ H X.s₀.heap s.heap
 loc:∃m,s.heap.Ns X.env.locals m/\∀(i:Nat) (x:Str) (v:V),X.N[i]?=some x->σ[i]?=some (some v)->Vis X.env.scope x->∃u,J2 v u/\Zop X.env s.heap m x u
 cell:∀x c,X.env.cells.lookup x=some c->∃v,s.heap.IsCell c v
 free:H X.env.locals=none
 freeC:∀x c,X.env.cells.lookup x=some c->H c=none
 pin:∀p∈X.pn++pins,s.heap.get? p.1=some p.2/\H p.1=none/\p.1≠X.env.locals/\p.1 ∉ X.fs/\∀v,p.2.data≠.cell v
 hok:HOk X.prog X.w H s.heap
 len:σ.length=X.N.length
section
variable {X:Cx}{pins:List (Addr×Obj)}{σ:List (Option V)}{H H':Hp}{s:Shared}{h':Heap}
theorem Cx.Ok.nofr(ok:X.Ok){b:Addr}{o:Obj}(e:X.base.get? b=some o):b ∉ X.fs:=fun hb=>by
 have:=(ok.funs.mem hb).1
 rw[e] at this;cases this
theorem Inv.bs(I:Inv X pins σ H s):∀b o,X.base.get? b=some o->s.heap.get? b=some o/\H b=none:=fun b o e =>
 ⟨I.base.keep b o (I.ok.bs b o e).1 (I.ok.bs b o e).2 (I.ok.nofr e) (I.ok.noex b o e),I.base.free b o (I.ok.bs b o e).1 (I.ok.bs b o e).2 (I.ok.noex b o e)⟩
theorem Inv.bk(I:Inv X pins σ H s):∀b o,X.base.get? b=some o->s.heap.get? b=some o:=fun b o e=>(I.bs b o e).1
theorem Inv.mod(I:Inv X pins σ H s):Mod X.K X.mg X.base:=I.ok.mod
theorem Inv.kIn(I:Inv X pins σ H s):X.K.In s.heap:=I.ok.mod.kin.keeps I.bk
theorem Inv.lt(I:Inv X pins σ H s):X.env.locals<s.heap.objs.size:=let ⟨_,hn,_⟩:=I.loc;hn.lt
theorem Inv.sz(I:Inv X pins σ H s):X.s₀.heap.objs.size<=s.heap.objs.size:=Zx2 I.ok.above (Nat.le_of_lt I.lt)
theorem Inv.nofs(I:Inv X pins σ H s){a:Addr}(h:s.heap.objs.size<=a):a ∉ X.fs:=fun hb=>by
 obtain⟨_,o,ho,_⟩:=I.ok.funs.mem hb
 exact absurd (Zxj (Heap.lt_size ho) (Zx2 I.sz h)) (ZxE _)
theorem Inv.cne(I:Inv X pins σ H s):∀x c,X.env.cells.lookup x=some c->c≠X.env.locals:=fun x c e z=>by
 obtain⟨v,o,ho,hd⟩:=I.cell x c e
 obtain⟨m,⟨o',es,ep,ho',hd',_⟩,_⟩:=I.loc
 rw[z,ho'] at ho;cases ho;rw[hd'] at hd;cases hd
theorem Inv.funs(I:Inv X pins σ H s):s.heap.FunFrames X.base X.outer:=by
 have all:∀(l:List Env),(∀b∈frs l,b∈X.fs)->X.s₀.heap.FunFrames X.base l->s.heap.FunFrames X.base l:=by
  intro l
  induction l with
  |nil=>intro _ _;trivial
  |cons env r ih =>
   intro hs hl
   obtain⟨hk,⟨L,o,hf,hn,ho,hd⟩,hr⟩:=hl
   have hL:L∈X.fs:=hs L (by unfold frs;rw[Zyx,hf];exact ZxH)
   obtain⟨sl,e⟩:=I.base.slot L o ho (I.ok.frf L hL) hL fun z=>I.ok.exfs L z hL
   exact⟨hk,⟨L,_,hf,hn,e,hd⟩,ih (fun b hb=>hs b (by unfold frs;rw[Zyx,hf];exact Zxs _ hb)) hr⟩
 exact all X.outer (fun _ hb=>hb) I.ok.funs
theorem Inv.stack(I:Inv X pins σ H s):s.heap.FunFrames X.base X.stack:=by
 rcases I.ok.stk with e|⟨e,hf⟩
 ·rw[e];exact I.funs
 ·rw[e]
  obtain⟨m,hn,_⟩:=I.loc
  refine .cons (by rw[I.ok.kind];decide) hf hn ?_ I.funs
  exact Heap.get?_none_of_le (Zx2 I.ok.bsz I.ok.above)
theorem Inv.stkSub(I:Inv X pins σ H s):∀b∈frs X.stack,b∈X.env.locals::X.fs:=fun b hb=>by
 rcases I.ok.stk with e|⟨e,hf⟩
 ·rw[e] at hb;exact Zxs _ hb
 ·rw[e] at hb
  unfold frs at hb
  rw[Zyx,hf] at hb
  exact hb
theorem Inv.stkFree(I:Inv X pins σ H s):∀b∈frs X.stack,H b=none:=fun b hb=>by
 rcases Zxd.mp (I.stkSub b hb) with e|hb
 ·rw[e];exact I.free
 ·obtain⟨_,o,ho,_⟩:=I.ok.funs.mem hb
  exact I.base.free b o ho (I.ok.frf b hb) fun z=>I.ok.exfs b z hb
theorem Inv.step{g':Array GenState}{t':Nat}{d':Drawn}{ch:List Addr}(I:Inv X pins σ H s)(hch:∀b∈ch,(b∈X.ex\/X.s₀.heap.objs.size<=b)/\b≠X.env.locals/\(∀x c,X.env.cells.lookup x=some c->c≠b)/\∀p∈X.pn++pins,p.1≠b)(keep:∀b o,b≠X.env.locals->b ∉ X.fs->b ∉ ch->s.heap.get? b=some o->H b=none->h'.get? b=some o)(slot:∀b o,b≠X.env.locals->b∈X.fs->b ∉ ch->s.heap.get? b=some o->H b=none->∃sl,h'.get? b=some { o with slots:=sl })(free:∀b o,b ∉ ch->s.heap.get? b=some o->H b=none->H' b=none)(there:∀b o,b ∉ ch->s.heap.get? b=some o->∃o',h'.get? b=some o')(tups:∀b xs,H b=some (.tup xs)->H' b=some (.tup xs))(frzs:∀b o u,H b=some (.frz o u)->H' b=some (.frz o u))(tbls:∀b ps,H b=some (.tbl ps)->∃more,H' b=some (.tbl (ps++more)))(ns:∀m,s.heap.Ns X.env.locals m->h'.Ns X.env.locals m)(hok:HOk X.prog X.w H' h')(hg:AllBare g') :
  Inv X pins σ H' { s with heap:=h',gens:=g',drawn:=d',toks:=t' }:=by
 have neL:∀b o,X.s₀.heap.get? b=some o->b≠X.env.locals:=fun b o e=>Zxv (Zxj (Heap.lt_size e) I.ok.above)
 have neC:∀b o,X.s₀.heap.get? b=some o->b ∉ X.ex->b ∉ ch:=fun b o e hx hb=>by
  rcases (hch b hb).1 with z|z
  ·exact hx z
  ·exact absurd (Zxj (Heap.lt_size e) z) (ZxE _)
 have cellK:∀x c,X.env.cells.lookup x=some c->∀v,s.heap.IsCell c v->h'.IsCell c v:=fun x c e v ⟨o,ho,hd⟩=>by
  have nch:c ∉ ch:=fun z=>(hch c z).2.2.1 x c e rfl
  by_cases hc:c∈X.fs
  ·obtain⟨sl,q⟩:=slot c o (I.cne x c e) hc nch ho (I.freeC x c e)
   exact⟨_,q,hd⟩
  ·exact⟨o,keep c o (I.cne x c e) hc nch ho (I.freeC x c e),hd⟩
 refine⟨I.ok,I.os,hg,⟨fun b o e n hb hx=>?_,fun b o e n hb hx=>?_,fun b o e n hx=>?_,fun b o e hx=>?_,fun b xs e=>tups b xs (I.base.tups b xs e),fun b o xs e=>frzs b o xs (I.base.frzs b o xs e),fun b ps e=>?_⟩, ?_,fun x c e=>?_, ?_,fun x c e=>?_,fun p hp=>?_,hok,I.len⟩
 ·exact keep b o (neL b o e) hb (neC b o e hx) (I.base.keep b o e n hb hx) (I.base.free b o e n hx)
 ·obtain⟨sl,e1⟩:=I.base.slot b o e n hb hx
  obtain⟨sl',e2⟩:=slot b _ (neL b o e) hb (neC b o e hx) e1 (I.base.free b o e n hx)
  exact⟨sl',e2⟩
 ·obtain⟨o',e1⟩:=I.base.there b o e hx
  exact free b o' (neC b o e hx) e1 (I.base.free b o e n hx)
 ·obtain⟨o',e1⟩:=I.base.there b o e hx
  exact there b o' (neC b o e hx) e1
 ·obtain⟨m1,e1⟩:=I.base.tbls b ps e
  obtain⟨m2,e2⟩:=tbls b _ e1
  exact⟨m1++m2,by rw[e2,Array.append_assoc]⟩
 ·obtain⟨m,hn,hl⟩:=I.loc
  refine⟨m,ns m hn,fun i x v e1 e2 e3=>?_⟩
  obtain⟨u,r,l⟩:=hl i x v e1 e2 e3
  refine⟨u,r, ?_⟩
  rcases l with l|⟨k,c,e,z⟩
  ·exact .inl l
  ·exact .inr ⟨k,c,e,cellK x c e _ z⟩
 ·obtain⟨v,z⟩:=I.cell x c e
  exact⟨v,cellK x c e v z⟩
 ·obtain⟨m,⟨o,_,_,ho,_⟩,_⟩:=I.loc
  exact free _ o (fun z=>(hch _ z).2.1 rfl) ho I.free
 ·obtain⟨v,o,ho,hd⟩:=I.cell x c e
  exact free c o (fun z=>(hch c z).2.2.1 x c e rfl) ho (I.freeC x c e)
 ·obtain⟨e,n,ne,nf,d⟩:=I.pin p hp
  have nch:p.1 ∉ ch:=fun z=>(hch p.1 z).2.2.2 p hp rfl
  exact⟨keep p.1 p.2 ne nf nch e n,free p.1 p.2 nch e n,ne,nf,d⟩
theorem Inv.un{t':Nat}(I:Inv X pins σ H s)(u:Un X.fs [] H H' s.heap h')(hok:HOk X.prog X.w H' h'):Inv X pins σ H' { s with heap:=h',toks:=t' }:=by
 obtain⟨m,⟨o,es,ep,ho,r⟩,_⟩:=id I.loc
 obtain⟨sl,hL⟩:=u.any ho I.free (by simp)
 exact I.step (g':=s.gens) (d':=s.drawn) (ch:=[]) (fun _ z=>nomatch z) (fun b o _ hb _ e n=>u.keep b o e n hb (by simp)) (fun b o _ hb _ e n=>u.slot b o e n hb (by simp)) (fun b o _ e n=>u.free b o e n (by simp)) (fun b o _ e=>u.there b o e (by simp)) u.tups u.frzs u.tbls (fun m' hm=>by
  obtain⟨o',es',ep',ho',r'⟩:=hm
  rw[ho] at ho';cases ho'
  exact⟨_,es',ep',hL,r'⟩) hok I.bare
theorem Inv.call{g':Array GenState}{t':Nat}{d':Drawn}{ch:List Addr}(I:Inv X pins σ H s)(u:Un (frs X.stack) ch H H' s.heap h')(hok:HOk X.prog X.w H' h')(hg:AllBare g')(hch:∀b∈ch,(b∈X.ex\/X.s₀.heap.objs.size<=b)/\b≠X.env.locals/\(∀x c,X.env.cells.lookup x=some c->c≠b)/\∀p∈X.pn++pins,p.1≠b) :
  Inv X pins σ H' { s with heap:=h',gens:=g',drawn:=d',toks:=t' }:=by
 obtain⟨m,⟨o,es,ep,ho,r⟩,_⟩:=id I.loc
 obtain⟨sl,hL⟩:=u.any ho I.free fun z=>(hch _ z).2.1 rfl
 exact I.step (ch:=ch) hch (fun b o hL hb hc e n=>u.keep b o e n (fun z=>(Zxd.mp (I.stkSub b z)).elim hL hb) hc) (fun b o _ _ hc e n=>u.any e n hc) (fun b o hc e n=>u.free b o e n hc) (fun b o hc e=>u.there b o e hc) u.tups u.frzs u.tbls (fun m' hm=>by
  obtain⟨o',es',ep',ho',r'⟩:=hm
  rw[ho] at ho';cases ho'
  exact⟨_,es',ep',hL,r'⟩) hok hg
theorem Inv.turned{t':Nat}{it:Addr}(I:Inv X pins σ H s)(k:∀b o,b≠it->s.heap.get? b=some o->h'.get? b=some o)(hn:H it=none)(hL:it≠X.env.locals)(h1:it∈X.ex\/X.s₀.heap.objs.size<=it)(h2:∀x c,X.env.cells.lookup x=some c->c≠it)(h3:∀p∈X.pn++pins,p.1≠it):Inv X pins σ H { s with heap:=h',toks:=t' }:=by
 have nit:∀b u,H b=some u->b≠it:=fun b u e z=>by rw[z,hn] at e;cases e
 refine I.step (g':=s.gens) (d':=s.drawn) (ch:=[it]) (fun b hb=>?_) (fun b o _ _ hc e _=>k b o (fun z=>hc (by simp[z])) e) (fun b o _ _ hc e _=>⟨o.slots,k b o (fun z=>hc (by simp[z])) e⟩) (fun _ _ _ _ n=>n)
  (fun b o hc e=>⟨o,k b o (fun z=>hc (by simp[z])) e⟩) (fun _ _ e=>e) (fun _ _ _ e=>e) (fun b ps e=>⟨#[],by rw[e];simp⟩) (fun m hm=>?_) (fun b u e=>?_) I.bare
 ·have e:b=it:=by simpa using hb
  subst e
  exact⟨h1,hL,h2,h3⟩
 ·obtain⟨o,es,ep,ho,r⟩:=hm
  exact⟨o,es,ep,k _ o (Ne.symm hL) ho,r⟩
 ·refine(I.hok b u e).stay (fun c v hc q=>k c v ?_ q) (fun _ q=>q) fun _ _ q=>q
  rcases hc with z|z
  ·rw[z];exact nit b u e
  ·exact nit c _ z
theorem Inv.tok(I:Inv X pins σ H s)(t:Nat):Inv X pins σ H { s with toks:=t }:=I.un (h':=s.heap) (t':=t) Un.refl I.hok
theorem Inv.kept{t':Nat}(I:Inv X pins σ H s)(k:∀b u,s.heap.get? b=some u->h'.get? b=some u):Inv X pins σ H { s with heap:=h',toks:=t' }:=I.un (Un.kept k) (I.hok.kept k)
theorem Inv.laid{a:Addr}{o:HO}{t':Nat}(I:Inv X pins σ H s)(k:∀b u,s.heap.get? b=some u->h'.get? b=some u)(hp:s.heap.objs.size<=a)(new:JQ X.prog X.w (upd H a o) h' a o) :
  Inv X pins σ (upd H a o) { s with heap:=h',toks:=t' }:=I.un (Un.laid k hp (I.hok.fresh hp)) (I.hok.laid k hp new)
theorem Inv.write{x e:Addr}{o:HO}{t':Nat}(I:Inv X pins σ H s)(mu:Mut (H x))(he:e=x\/H e=some (.own x))(k:∀b u,b≠e->s.heap.get? b=some u->h'.get? b=some u)(heo:∃u,h'.get? e=some u)(new:JQ X.prog X.w (upd H x o) h' x o):Inv X pins σ (upd H x o) { s with heap:=h',toks:=t' }:=I.un (Un.write mu he k heo) (I.hok.write mu he k heo new)
theorem Inv.pins_of{pins':List (Addr×Obj)}(I:Inv X pins σ H s)(h:∀p∈pins',s.heap.get? p.1=some p.2/\H p.1=none/\p.1≠X.env.locals/\p.1 ∉ X.fs/\∀v,p.2.data≠.cell v):Inv X pins' σ H s:=
 ⟨I.ok,I.os,I.bare,I.base,I.loc,I.cell,I.free,I.freeC,fun p hp=>(Zxg.mp hp).elim (fun z=>I.pin p (Zxe _ z)) (h p),I.hok,I.len⟩
theorem Zbt{N:List Str}(hN:N.Nodup){i j:Nat}{x:Str}(a:N[i]?=some x)(b:N[j]?=some x):i=j:=by
 obtain⟨h1,e1⟩:=Zx0.mp a
 obtain⟨h2,e2⟩:=Zx0.mp b
 exact(List.getElem_inj hN).mp (e1.trans e2.symm)
theorem Zca{M:Model}{A:Around}{E:Value->Shared->Prop}{i:Nat}{x:Str}{v:V}{u:Value}{Q:Unit->Shared->Prop}(I:Inv X pins σ H s)(hN:X.N.Nodup)(hi:X.N[i]?=some x)(hx:Loc X.env.scope x)(r:J2 v u)(h:∀s',Inv X pins (σ.set i (some v)) H s'->(∃a,Heap.SameBut a s.heap s'.heap/\(a=X.env.locals\/X.env.cells.lookup x=some a))->Q () s')(hf:X.fn x=true\/X.env.scope.names.lookup x=some .local):wpAny M A (storeName X.env x u) Q E s:=by
 obtain⟨m,hn,hl⟩:=id I.loc
 have hcls:(X.env.scope.kind==.class || (X.env.scope.kind==.module&&X.env.locals != X.env.globals))=false:=by rw[I.ok.kind];rfl
 have hiσ:i<σ.length:=by rw[I.len];exact(Zx0.mp hi).1
 have cne:=I.cne
 have tracked:∀{a:Addr}{h':Heap},(∃o,s.heap.get? a=some o/\H a=none)->Heap.SameBut a s.heap h'->HOk X.prog X.w H h':=fun {a h'} ha hs b ob e=>by
  obtain⟨_,_,hfree⟩:=ha
  refine(I.hok b ob e).stay (fun c w' hc q=>(hs.2 c ?_).trans q) (fun _ q=>q) fun _ _ q=>q
  rintro rfl
  rcases hc with rfl|hc
  ·rw[hfree] at e;cases e
  ·rw[hfree] at hc;cases hc
 rcases hx with hk|hk
 ·refine wpAny_storeName_local hk hn (fun h' hn' hs=>?_) hcls
  obtain⟨oL,_,_,hoL,_⟩:=id hn
  refine h _ ⟨I.ok,I.os,I.bare,⟨fun b o e n hb hx=>?_,fun b o e n hb hx=>?_,I.base.free,fun b o e hx=>?_,I.base.tups,I.base.frzs,I.base.tbls⟩,⟨_,hn',fun j y v' e1 e2 e3=>?_⟩,fun y c e=>?_,I.free,I.freeC,fun p hp=>?_,tracked ⟨oL,hoL,I.free⟩ hs,by simpa using I.len⟩ ⟨_,hs,.inl rfl⟩
  ·exact(hs.2 b (Zxv (Zxj (Heap.lt_size e) I.ok.above))).trans (I.base.keep b o e n hb hx)
  ·obtain⟨sl,e1⟩:=I.base.slot b o e n hb hx
   exact⟨sl,(hs.2 b (Zxv (Zxj (Heap.lt_size e) I.ok.above))).trans e1⟩
  ·obtain⟨o',e1⟩:=I.base.there b o e hx
   exact⟨o',(hs.2 b (Zxv (Zxj (Heap.lt_size e) I.ok.above))).trans e1⟩
  ·by_cases hj:j=i
   ·subst hj
    rw[hi] at e1;cases e1
    rw[Zxy hiσ] at e2
    cases e2
    exact⟨u,r,.inl ⟨hk,by simp⟩⟩
   ·rw[Zx1 (Ne.symm hj)] at e2
    obtain⟨u',r',q⟩:=hl j y v' e1 e2 e3
    refine⟨u',r', ?_⟩
    rcases q with ⟨k,e⟩|⟨k,c,e,z⟩
    ·refine .inl ⟨k, ?_⟩
     have:y≠x:=fun e=>hj (Zbt hN e1 (e▸hi))
     simp[this,e]
    ·exact .inr ⟨k,c,e,z.sameBut hs (cne y c e)⟩
  ·obtain⟨w',z⟩:=I.cell y c e
   exact⟨w',z.sameBut hs (cne y c e)⟩
  ·obtain⟨e,n,ne,nf,d⟩:=I.pin p hp
   exact⟨(hs.2 p.1 ne).trans e,n,ne,nf,d⟩
 ·have hfn:X.fn x=true:=by
   rcases hf with z|z
   ·exact z
   ·rw[z] at hk;cases hk
  obtain⟨c,hc⟩:=I.ok.has x (.inl hk)
  obtain⟨w',z⟩:=I.cell x c hc
  refine wpAny_storeName_cell I.ok.kind hk hc z (fun h' hc' hs=>?_)
  obtain⟨oc,hoc,hocd⟩:=id z
  refine h { s with heap:=h' } ⟨I.ok,I.os,I.bare,⟨fun b o e n hb hx=>?_,fun b o e n hb hx=>?_,I.base.free,fun b o e hx=>?_,I.base.tups,I.base.frzs,I.base.tbls⟩,⟨m,hn.sameBut hs (Ne.symm (cne x c hc)),fun j y v' e1 e2 e3=>?_⟩,fun y c' e=>?_,I.free,I.freeC,fun p hp=>?_,tracked ⟨oc,hoc,I.freeC x c hc⟩ hs,by simpa using I.len⟩ ⟨c,hs,.inr hc⟩
  ·exact(hs.2 b (Zxv (Zxj (Heap.lt_size e) (I.ok.cab x c hfn hc)))).trans (I.base.keep b o e n hb hx)
  ·obtain⟨sl,e1⟩:=I.base.slot b o e n hb hx
   exact⟨sl,(hs.2 b (Zxv (Zxj (Heap.lt_size e) (I.ok.cab x c hfn hc)))).trans e1⟩
  ·obtain⟨o',e1⟩:=I.base.there b o e hx
   exact⟨o',(hs.2 b (Zxv (Zxj (Heap.lt_size e) (I.ok.cab x c hfn hc)))).trans e1⟩
  ·by_cases hj:j=i
   ·subst hj
    rw[hi] at e1;cases e1
    rw[Zxy hiσ] at e2
    cases e2
    exact⟨u,r,.inr ⟨.inl hk,c,hc,hc'⟩⟩
   ·rw[Zx1 (Ne.symm hj)] at e2
    obtain⟨u',r',q⟩:=hl j y v' e1 e2 e3
    refine⟨u',r', ?_⟩
    rcases q with q|⟨k,c',e,z'⟩
    ·exact .inl q
    ·refine .inr ⟨k,c',e,z'.sameBut hs ?_⟩
     rintro rfl
     exact hj (Zbt hN e1 (I.ok.inj _ _ _ e hc▸hi))
  ·by_cases hcc:c'=c
   ·subst hcc;exact⟨_,hc'⟩
   ·obtain⟨w2,z2⟩:=I.cell y c' e
    exact⟨w2,z2.sameBut hs hcc⟩
  ·obtain⟨e,n,ne,nf,d⟩:=I.pin p hp
   refine⟨(hs.2 p.1 ?_).trans e,n,ne,nf,d⟩
   intro q
   rw[q,hoc] at e
   have q':oc=p.2:=Option.some.inj e
   exact d w' (by rw[<- q'];exact hocd)
theorem UL{M:Model}{A:Around}{E:Value->Shared->Prop}{i:Nat}{x:Str}{v:V}{u:Value}{Q:Unit->Shared->Prop}(I:Inv X pins σ H s)(hN:X.N.Nodup)(hi:X.N[i]?=some x)(hx:Loc X.env.scope x)(r:J2 v u)(h:∀s',Inv X pins (σ.set i (some v)) H s'->Q () s')(hf:X.fn x=true\/X.env.scope.names.lookup x=some .local):wpAny M A (storeName X.env x u) Q E s:=
 Zca I hN hi hx r (fun s' I' _=>h s' I') hf
theorem Inv.call'{s':Shared}{ch:List Addr}(I:Inv X pins σ H s)(ho:s'.os=s.os)(u:Un (frs X.stack) ch H H' s.heap s'.heap)(hok:HOk X.prog X.w H' s'.heap)(hg:AllBare s'.gens)(hch:∀b∈ch,(b∈X.ex\/X.s₀.heap.objs.size<=b)/\b≠X.env.locals/\(∀x c,X.env.cells.lookup x=some c->c≠b)/\∀p∈X.pn++pins,p.1≠b):Inv X pins σ H' s':=by
 obtain⟨h',g',d',t',o'⟩:=s'
 have e:o'=s.os:=ho
 subst e
 exact I.call (g':=g') (t':=t') (d':=d') u hok hg hch
end
noncomputable abbrev XK:=Value->Option Addr->Hp->Prop
noncomputable abbrev St:=List (Option V)
noncomputable abbrev VK:=V->Hp->Prop
noncomputable abbrev TE:=St->Hp->VK->Prop
noncomputable abbrev TT:=St->Hp->(Bool->Hp->Prop)->Prop
noncomputable abbrev TA:=St->Hp->(List V->Hp->Prop)->Prop
structure ZfF where
 nx:St->Hp->Prop
 rt:VK
 bk:St->Hp->Prop:=fun _ _=>False
 ct:St->Hp->Prop:=fun _ _=>False
noncomputable abbrev TS:=ZfF->St->Hp->Prop
def EP(X:Cx)(pins:List (Addr×Obj))(σ:St)(Q:VK)(u:Value)(s':Shared):Prop:=∃v H',Inv X pins σ H' s'/\J2 v u/\Q v H'
def TP(X:Cx)(pins:List (Addr×Obj))(σ:St)(Q:Bool->Hp->Prop)(b:Bool)(s':Shared):Prop:=∃H',Inv X pins σ H' s'/\Q b H'
def AP(X:Cx)(pins:List (Addr×Obj))(σ:St)(Q:List V->Hp->Prop)(us:List Value)(s':Shared):Prop:=∃vs H',Inv X pins σ H' s'/\ZU vs us/\Q vs H'
def SP(X:Cx)(pins:List (Addr×Obj))(D:ZfF)(f:Flow)(s':Shared):Prop:=
 match f with
 |.next=>∃σ' H',Inv X pins σ' H' s'/\D.nx σ' H'
 |.brk=>∃σ' H',Inv X pins σ' H' s'/\D.bk σ' H'
 |.cont=>∃σ' H',Inv X pins σ' H' s'/\D.ct σ' H'
 |.ret u=>∃v σ' H',Inv X pins σ' H' s'/\J2 v u/\D.rt v H'
def PE(X:Cx)(e:Expr)(t:TE):Prop:=
 ∀(pins:List (Addr×Obj)) (s:Shared) (σ:St) (H:Hp) (Q:VK),Inv X pins σ H s->t σ H Q->wpAny (model X.prog X.w) X.A (eval e X.env) (EP X pins σ Q) X.xe s
def PT(X:Cx)(e:Expr)(t:TT):Prop:=
 ∀(pins:List (Addr×Obj)) (s:Shared) (σ:St) (H:Hp) (Q:Bool->Hp->Prop),Inv X pins σ H s->t σ H Q->wpAny (model X.prog X.w) X.A (isTrue e X.env (eval e X.env)) (TP X pins σ Q) X.xe s
def PW(X:Cx)(e:Expr)(t:TT):Prop:=
 ∀(whole:Sem Value) (pins:List (Addr×Obj)) (s:Shared) (σ:St) (H:Hp) (Q:Bool->Hp->Prop),Inv X pins σ H s->t σ H Q->wpAny (model X.prog X.w) X.A (isTrue e X.env whole) (TP X pins σ Q) X.xe s
theorem PW.pt{X:Cx}{e:Expr}{t:TT}(h:PW X e t):PT X e t:=h _
def PA(X:Cx)(es:List Expr)(t:TA):Prop:=
 ∀(pos:Pos) (pins:List (Addr×Obj)) (s:Shared) (σ:St) (H:Hp) (Q:List V->Hp->Prop),Inv X pins σ H s->t σ H Q->wpAny (model X.prog X.w) X.A (spliced (backTo pos (starEach es X.env))) (AP X pins σ Q) X.xe s
def PS(X:Cx)(st:Stmt)(t:TS):Prop:=
 ∀(pins:List (Addr×Obj)) (s:Shared) (σ:St) (H:Hp) (D:ZfF),Inv X pins σ H s->t D σ H->wpAny (model X.prog X.w) X.A (exec st X.env) (SP X pins D) X.xe s
def PSs(X:Cx)(st:List Stmt)(t:TS):Prop:=
 ∀(pins:List (Addr×Obj)) (s:Shared) (σ:St) (H:Hp) (D:ZfF),Inv X pins σ H s->t D σ H->wpAny (model X.prog X.w) X.A (execs st X.env) (SP X pins D) X.xe s
theorem thn{α:Type}{t:Sem α}{Q Q':α->Shared->Prop}{M:Model}{A:Around}{E:Value->Shared->Prop}{s:Shared}(h:wpAny M A t Q E s)(hQ:∀a s,Q a s->Q' a s):wpAny M A t Q' E s:=wpAny_mono h hQ fun _ _ x=>x
section
variable {X:Cx}
noncomputable def ZeR(i:Nat):TE:=fun σ H Q=>∃v,σ[i]?=some (some v)/\Q v H
noncomputable def tC(v:V):TE:=fun _ H Q=>Q v H
theorem ZlR{i:Nat}{x:Str}{pos:Pos}(hN:X.N[i]?=some x)(hv:Vis X.env.scope x)(hd:(x==("__debug__":Str))=false:=by decide)(hcd:(x==("__classdict__":Str))=false:=by decide):PE X (.Name x pos) (ZeR i):=by
 intro pins s σ H Q I h
 obtain⟨v,e,h⟩:=h
 obtain⟨m,hn,hl⟩:=I.loc
 obtain⟨u,r,l⟩:=hl i x v hN e hv
 have fin:EP X pins σ Q u s:=⟨v,H,I,r,h⟩
 rcases l with ⟨hk,hm⟩|⟨hk,c,hc,hcell⟩
 ·exact wpAny_Name (wpAny_loadName_local I.ok.kind hk hn hm fin) hd
 ·rcases hk with hk|hk
  ·exact wpAny_Name (wpAny_loadName_cell I.ok.kind hk hc hcell fin) hd
  ·exact wpAny_Name (wpAny_loadName_free I.ok.kind hk hc hcell fin hcd) hd
theorem Zk{i j pos}:PE X (.Constant (.int i) j pos) (tC (.int i)):=fun _ _ _ H _ I h=>wpAny_Constant_int ⟨.int i,H,I.tok _,⟨_,rfl⟩,h⟩
theorem Zde{b j pos}:PE X (.Constant (.bool b) j pos) (tC (.bl b)):=fun _ _ _ H _ I h=>Constant_bool ⟨.bl b,H,I,rfl,h⟩
theorem ZJ{x j pos}:PE X (.Constant (.str x) j pos) (tC (.str x)):=fun _ _ _ H _ I h=>Calls.Constant_str ⟨.str x,H,I.tok _,⟨_,rfl⟩,h⟩
def Gl(X:Cx)(x:Str):Prop:=X.env.kindOf x=some .globalImplicit
theorem VV{E:Value->Shared->Prop}{pins:List (Addr×Obj)}{s:Shared}{σ:St}{H:Hp}{x:Str}{u:Value}{pos:Pos}{Q:Value->Shared->Prop}(I:Inv X pins σ H s)(hg:Gl X x)(hm:X.mg x=some u)(h:Q u s)(hd:(x==("__debug__":Str))=false:=by decide):wpAny (model X.prog X.w) X.A (eval (.Name x pos) X.env) Q E s:=
 Calls.Name_function_global I.ok.kind hg (Calls.loadGlobal_global (by rw[I.ok.glob];exact I.mod.glob.keeps I.bk) hm h) hd
theorem Zcx{E:Value->Shared->Prop}{pins:List (Addr×Obj)}{s:Shared}{σ:St}{H:Hp}{x:Str}{u:Value}{pos:Pos}{Q:Value->Shared->Prop}(I:Inv X pins σ H s)(hg:Gl X x)(hm:X.mg x=none)(hv:bootBuiltins x=some u)(h:Q u s)(hn:x ≠ "__name__":=by decide)(hd:(x==("__debug__":Str))=false:=by decide):wpAny (model X.prog X.w) X.A (eval (.Name x pos) X.env) Q E s:=by
 obtain⟨mb,h1,h2⟩:=I.mod.blt
 exact Calls.Name_function_global I.ok.kind hg (Calls.loadGlobal_builtin (by rw[I.ok.glob];exact I.mod.glob.keeps I.bk) hm (by rw[I.ok.blt];exact h1.keeps I.bk) ((h2 x hn).trans hv) h) hd
theorem QY{x:Str}{v:V}{u:Value}{pos:Pos}(hg:Gl X x)(hm:X.mg x=some u)(r:J2 v u)(hd:(x==("__debug__":Str))=false:=by decide):PE X (.Name x pos) (tC v):=
 fun _ _ _ H _ I h=>VV I hg hm ⟨v,H,I,r,h⟩ hd
theorem Vn{x:Str}{v:V}{u:Value}{pos:Pos}(hg:Gl X x)(hm:X.mg x=none)(hv:bootBuiltins x=some u)(r:J2 v u)(hn:x ≠ "__name__":=by decide)(hd:(x==("__debug__":Str))=false:=by decide):PE X (.Name x pos) (tC v):=
 fun _ _ _ H _ I h=>Zcx I hg hm hv ⟨v,H,I,r,h⟩ hn hd
variable {a b:Expr}{ta tb:TE}{pos:Pos}
def PC(X:Cx)(op:CmpOp)(a b:Expr)(t:TE):Prop:=
 ∀(pins:List (Addr×Obj)) (s:Shared) (σ:St) (H:Hp) (Q:VK),Inv X pins σ H s->t σ H Q ->
  wpAny (model X.prog X.w) X.A (eval a X.env) (fun v s₁=>wpAny (model X.prog X.w) X.A (eval b X.env) (fun u s₂=>wpAny (model X.prog X.w) X.A (compareOp op v u) (EP X pins σ Q) X.xe s₂) X.xe s₁) X.xe s
noncomputable def tB(t:TE):TT:=fun σ H Q=>t σ H fun x H1=>∃c,x=.bl c/\Q c H1
theorem Zjr{op:CmpOp}{t:TE}(h:PC X op a b t)(h1:behindInMarks op b=false:=by rfl):PT X (.Compare a [op] [b] pos) (tB t):=by
 intro pins s σ H Q I hw
 refine wpAny_isTrue_Compare1 (thn (h pins s σ H _ I hw) fun v s1 h1=>thn h1 fun u s2 h2=>thn h2 fun c s3 ⟨x,H1,I1,r1,q1⟩=>?_) h1
 obtain⟨d,rfl,q⟩:=q1
 cases r1
 exact wpAny_truthy_bool ⟨H1,I1,q⟩
theorem Vj{e:Expr}{t:TE}(h:PE X e t)(he:∀whole,isTrue e X.env whole=(do let v <- whole;standAt e.pos;holding [v] (truthy v)):=by exact fun _=>rfl):PT X e (tB t):=by
 intro pins s σ H Q I hw
 refine isTrue_plain (thn (h pins s σ H _ I hw) fun v s1 ⟨x,H1,I1,r1,q1⟩=>?_) (he _)
 obtain⟨d,rfl,q⟩:=q1
 cases r1
 exact wpAny_truthy_bool ⟨H1,I1,q⟩
variable {tA tB':TT}{Zcf:List Expr}
noncomputable def ZnR(t u:TT):TT:=fun σ H Q=>t σ H fun c H1=>if c=true then u σ H1 Q else Q false H1
noncomputable def tOr(t u:TT):TT:=fun σ H Q=>t σ H fun c H1=>if c=true then Q true H1 else u σ H1 Q
noncomputable def ZnM(t:TT):TT:=fun σ H Q=>t σ H fun c H1=>Q (!c) H1
theorem Qm(ha:PT X a tA):PW X (.BoolOp .And [a] pos) tA:=by
 intro wh pins s σ H Q I h
 refine isTrue_and (thn (ha pins s σ H Q I h) fun c s1 e=>?_)
 cases c with
 |true=>exact isTrue_and_nil e
 |false=>exact e
theorem QX(ha:PT X a tA):PW X (.BoolOp .Or [a] pos) tA:=by
 intro wh pins s σ H Q I h
 refine isTrue_or (thn (ha pins s σ H Q I h) fun c s1 e=>?_)
 cases c with
 |false=>exact isTrue_or_nil e
 |true=>exact e
theorem ZaI(ha:PT X a tA)(hb:PW X (.BoolOp .And (b::Zcf) pos) tB'):PW X (.BoolOp .And (a::b::Zcf) pos) (ZnR tA tB'):=by
 intro wh pins s σ H Q I h
 refine isTrue_and (thn (ha pins s σ H _ I h) fun c s1 ⟨H1,I1,q1⟩=>?_)
 cases c with
 |true=>exact hb wh pins s1 σ H1 Q I1 q1
 |false=>exact⟨H1,I1,q1⟩
theorem Zbi(ha:PT X a tA)(hb:PW X (.BoolOp .Or (b::Zcf) pos) tB'):PW X (.BoolOp .Or (a::b::Zcf) pos) (tOr tA tB'):=by
 intro wh pins s σ H Q I h
 refine isTrue_or (thn (ha pins s σ H _ I h) fun c s1 ⟨H1,I1,q1⟩=>?_)
 cases c with
 |true=>exact⟨H1,I1,q1⟩
 |false=>exact hb wh pins s1 σ H1 Q I1 q1
theorem UP(ha:PT X a tA):PT X (.UnaryOp .Not a pos) (ZnM tA):=by
 intro pins s σ H Q I h
 exact isTrue_not (ha pins s σ H (fun c H1=>Q (!c) H1) I h)
noncomputable def ZlB(ta tb:TE):TE:=fun σ H Q=>ta σ H fun x H1=>∃c,x=.bl c/\if c=true then tb σ H1 Q else Q (.bl false) H1
noncomputable def ZnL(ta tb:TE):TE:=fun σ H Q=>ta σ H fun x H1=>∃c,x=.bl c/\if c=true then Q (.bl true) H1 else tb σ H1 Q
noncomputable def Zl4(ta:TE):TE:=fun σ H Q=>ta σ H fun x H1=>∃c,x=.bl c/\Q (.bl (!c)) H1
theorem ZaJ{op}{t:TE}(h:PE X a t):PE X (.BoolOp op [a] pos) t:=fun pins s σ H Q I hw=>BoolOp_one (h pins s σ H Q I hw)
theorem ZaK(ha:PE X a ta)(hb:PE X (.BoolOp .And (b::Zcf) pos) tb):PE X (.BoolOp .And (a::b::Zcf) pos) (ZlB ta tb):=by
 intro pins s σ H Q I h
 refine BoolOp_and (thn (ha pins s σ H _ I h) fun v s1 ⟨x,H1,I1,r1,q1⟩=>?_)
 obtain⟨c,rfl,q1⟩:=q1
 cases r1
 refine wpAny_truthy_bool ?_
 cases c with
 |true=>exact hb pins s1 σ H1 Q I1 q1
 |false=>exact⟨.bl false,H1,I1,rfl,q1⟩
theorem Znk(ha:PE X a ta)(hb:PE X (.BoolOp .Or (b::Zcf) pos) tb):PE X (.BoolOp .Or (a::b::Zcf) pos) (ZnL ta tb):=by
 intro pins s σ H Q I h
 refine BoolOp_or (thn (ha pins s σ H _ I h) fun v s1 ⟨x,H1,I1,r1,q1⟩=>?_)
 obtain⟨c,rfl,q1⟩:=q1
 cases r1
 refine wpAny_truthy_bool ?_
 cases c with
 |false=>exact hb pins s1 σ H1 Q I1 q1
 |true=>exact⟨.bl true,H1,I1,rfl,q1⟩
theorem ZlU(ha:PE X a ta):PE X (.UnaryOp .Not a pos) (Zl4 ta):=by
 intro pins s σ H Q I h
 refine UnaryOp_ (thn (ha pins s σ H _ I h) fun v s1 ⟨x,H1,I1,r1,q1⟩=>?_)
 obtain⟨c,rfl,q1⟩:=q1
 cases r1
 exact not_of (wpAny_truthy_bool ⟨.bl (!c),H1,I1,rfl,q1⟩)
noncomputable def tIf(t:TT)(ta tb:TE):TE:=fun σ H Q=>t σ H fun c H1=>if c=true then ta σ H1 Q else tb σ H1 Q
theorem Zii{c:Expr}(hc:PT X c tA)(ha:PE X a ta)(hb:PE X b tb):PE X (.IfExp c a b pos) (tIf tA ta tb):=by
 intro pins s σ H Q I h
 refine wpAny_IfExp (thn (hc pins s σ H _ I h) fun d s1 ⟨H1,I1,q1⟩=>?_)
 cases d with
 |true=>exact ha pins s1 σ H1 Q I1 q1
 |false=>exact hb pins s1 σ H1 Q I1 q1
end
def SqL(K:W.Frag)(H:Hp)(a:Addr)(xs:List V):Prop:=
 Rd H a (.lst xs) \/
  ∃(o:Obj) (its:Array Value) (n:Nat),K.lookup a=some o/\o.cls=.type "list"/\o.dict=none/\o.data=.seq its n/\its.size<=sizeLine/\ZU xs its.toList
def SqT(K:W.Frag)(H:Hp)(a:Addr)(xs:List V):Prop:=
 Rd H a (.tup xs) \/
  ∃(o:Obj) (its:Array Value) (n:Nat),K.lookup a=some o/\o.cls=.type "tuple"/\o.data=.seq its n/\its.size<=sizeLine/\ZU xs its.toList
noncomputable def Zo5:Value->Option V
 |.none=>some .non
 |.bool b=>some (.bl b)
 |.int i _=>some (.int i)
 |.str x _=>some (.str x)
 |.bytes b _=>some (.byt b)
 |.float b _=>some (.flt b)
 |.ref a=>some (.ref a)
 |.type n=>some (.ty n)
 |_=>none
theorem J2.abs{x:V}{u:Value}(r:J2 x u):Zo5 u=some x:=by
 cases x with
 |non=>cases r;rfl
 |bl _=>cases r;rfl
 |int _=>obtain⟨t,rfl⟩:=r;rfl
 |str _=>obtain⟨t,rfl⟩:=r;rfl
 |byt _=>obtain⟨t,rfl⟩:=r;rfl
 |flt _=>obtain⟨t,rfl⟩:=r;rfl
 |ref _=>cases r;rfl
 |ty _=>cases r;rfl
theorem J2.inj{x y:V}{u:Value}(r:J2 x u)(q:J2 y u):x=y:=Option.some.inj (r.abs.symm.trans q.abs)
theorem ZU.inj:∀{xs ys:List V}{us:List Value},ZU xs us->ZU ys us->xs=ys
 |_,_,_,.nil,.nil=>rfl
 |_,_,_,.cons r t,.cons r' t'=>by rw[r.inj r',ZU.inj t t']
section
variable {X:Cx}{pins:List (Addr×Obj)}{σ:St}{H:Hp}{s:Shared}{a:Addr}{xs ys:List V}
theorem SqL.of{K:W.Frag}(h:H a=some (.lst xs)):SqL K H a xs:=.inl (.inl h)
theorem Inv.list(I:Inv X pins σ H s)(h:SqL X.K H a xs):∃its:List Value,ZU xs its/\PlainL s.heap a its.toArray/\xs.length<=sizeLine:=by
 rcases h with h|⟨o,its,n,hk,hc,hd,hs,hz,r⟩
 ·obtain⟨z,its,n,r,e⟩:=h.ok I.hok
  exact⟨its,r,⟨_,n,e,rfl,rfl,rfl⟩,z⟩
 ·refine⟨its.toList,r,⟨o,n,I.kIn a o hk,hc,hd,by simpa using hs⟩, ?_⟩
  have e:=r.length
  simp only[Array.length_toList] at e
  lia
theorem Inv.tuple(I:Inv X pins σ H s)(h:SqT X.K H a xs):∃its:List Value,ZU xs its/\IsTup s.heap a its.toArray/\xs.length<=sizeLine:=by
 rcases h with h|⟨o,its,n,hk,hc,hs,hz,r⟩
 ·obtain⟨z,its,r,p⟩:=h.ok I.hok
  exact⟨its,r,p,z⟩
 ·refine⟨its.toList,r,⟨o,I.kIn a o hk,hc,n,by simpa using hs⟩, ?_⟩
  have e:=r.length
  simp only[Array.length_toList] at e
  lia
theorem Inv.list_inj(I:Inv X pins σ H s)(h:SqL X.K H a xs)(h':SqL X.K H a ys):xs=ys:=by
 obtain⟨its,r,⟨o,n,e,_,_,d⟩,_⟩:=I.list h
 obtain⟨its',r',⟨o',n',e',_,_,d'⟩,_⟩:=I.list h'
 rw[e] at e';cases e'
 rw[d] at d'
 injection d' with d1 _
 have:its=its':=by simpa using congrArg Array.toList d1
 subst this
 exact r.inj r'
theorem Inv.tuple_inj(I:Inv X pins σ H s)(h:SqT X.K H a xs)(h':SqT X.K H a ys):xs=ys:=by
 obtain⟨its,r,⟨o,e,_,n,d⟩,_⟩:=I.tuple h
 obtain⟨its',r',⟨o',e',_,n',d'⟩,_⟩:=I.tuple h'
 rw[e] at e';cases e'
 rw[d] at d'
 injection d' with d1 _
 have:its=its':=by simpa using congrArg Array.toList d1
 subst this
 exact r.inj r'
end
noncomputable abbrev Cx.wish(X:Cx)(E:Value->Shared->Prop):Cx:={ X with xe:=E }
noncomputable abbrev Cx.nox(X:Cx):Cx:=X.wish fun _ _=>False
theorem Cx.Ok.wish{X:Cx}(ok:X.Ok)(E:Value->Shared->Prop):(X.wish E).Ok:=
 ⟨ok.mod,ok.kind,ok.glob,ok.blt,ok.above,ok.inj,ok.has,ok.cab,ok.hd,ok.frames,ok.stk,ok.exf,ok.bs,ok.bsz,ok.noex,ok.exfs,ok.funs,ok.frf⟩
theorem Cx.Ok.unwish{X:Cx}{E:Value->Shared->Prop}(ok:(X.wish E).Ok):X.Ok:=
 ⟨ok.mod,ok.kind,ok.glob,ok.blt,ok.above,ok.inj,ok.has,ok.cab,ok.hd,ok.frames,ok.stk,ok.exf,ok.bs,ok.bsz,ok.noex,ok.exfs,ok.funs,ok.frf⟩
section
variable {X:Cx}{pins:List (Addr×Obj)}{σ:St}{H:Hp}{s:Shared}{E:Value->Shared->Prop}
theorem Inv.wish(I:Inv X pins σ H s)(E:Value->Shared->Prop):Inv (X.wish E) pins σ H s:=⟨I.ok.wish E,I.os,I.bare,I.base,I.loc,I.cell,I.free,I.freeC,I.pin,I.hok,I.len⟩
theorem Inv.unwish(I:Inv (X.wish E) pins σ H s):Inv X pins σ H s:=⟨I.ok.unwish,I.os,I.bare,I.base,I.loc,I.cell,I.free,I.freeC,I.pin,I.hok,I.len⟩
theorem SP.unwish{D:ZfF}{f:Flow}{s':Shared}(h:SP (X.wish E) pins D f s'):SP X pins D f s':=by
 cases f with
 |next=>obtain⟨σ',H',I,q⟩:=h;exact⟨σ',H',I.unwish,q⟩
 |brk=>obtain⟨σ',H',I,q⟩:=h;exact⟨σ',H',I.unwish,q⟩
 |cont=>obtain⟨σ',H',I,q⟩:=h;exact⟨σ',H',I.unwish,q⟩
 |ret u=>obtain⟨v,σ',H',I,r,q⟩:=h;exact⟨v,σ',H',I.unwish,r,q⟩
theorem PSs.nox{st:List Stmt}{t:TS}(h:PSs X.nox st t):PSs X st t:=fun pins s σ H D I hw =>
 wpAny_mono (h pins s σ H D (I.wish _) hw) (fun _ _ q=>q.unwish) fun _ _ z=>False.elim z
end
section
variable {X:Cx}{st:Stmt}{Zcf:List Stmt}{t u:TS}{e:Expr}{te:TE}{pos:Pos}
noncomputable def Zl5:TS:=fun D σ H=>D.nx σ H
noncomputable def ZnK(t u:TS):TS:=fun D σ H=>t { D with nx:=u D } σ H
theorem Z5:PSs X [] Zl5:=fun _ _ σ H _ I h=>wpAny_execs_nil ⟨σ,H,I,h⟩
theorem Zh(h1:PS X st t)(h2:PSs X Zcf u):PSs X (st::Zcf) (ZnK t u):=by
 intro pins s σ H D I h
 refine wpAny_execs_cons (thn (h1 pins s σ H { D with nx:=u D } I h) fun f s1 q=>?_)
 cases f with
 |next =>
  obtain⟨σ',H',I',q⟩:=q
  exact h2 pins s1 σ' H' D I' q
 |ret v=>exact q
 |brk=>exact q
 |cont=>exact q
theorem Zi(h1:PS X st t):PSs X [st] t:=by
 intro pins s σ H D I h
 refine wpAny_execs_cons (thn (h1 pins s σ H D I h) fun f s1 q=>?_)
 cases f with
 |next=>exact wpAny_execs_nil q
 |ret v=>exact q
 |brk=>exact q
 |cont=>exact q
theorem Inv.quiet{pins:List (Addr×Obj)}{σ:St}{H:Hp}{s:Shared}(I:Inv X pins σ H s):interactive X.env=false:=by simp[interactive,I.ok.kind]
noncomputable def Zia(te:TE):TS:=fun D σ H=>te σ H fun _ H1=>D.nx σ H1
theorem V8(he:PE X e te)(hs:swapsWith e none pos.line X.env=pure false:=by rfl):PS X (.Expr e pos) (Zia te):=by
 intro pins s σ H D I h
 exact wpAny_Expr_any (thn (he pins s σ H _ I h) fun v s1 ⟨x,H1,I1,r1,q1⟩=>⟨σ,H1,I1,q1⟩) I.quiet hs
noncomputable def Znc(te:TE):TS:=fun D σ H=>te σ H D.rt
theorem Zu(he:PE X e te):PS X (.Return (some e) pos) (Znc te):=by
 intro pins s σ H D I h
 exact wpAny_Return_some (thn (he pins s σ H _ I h) fun v s1 ⟨x,H1,I1,r1,q1⟩=>⟨x,σ,H1,I1,r1,q1⟩)
noncomputable def ZnN(c:TT)(t u:TS):TS:=fun D σ H=>c σ H fun b H1=>if b=true then t D σ H1 else u D σ H1
theorem Jc{c:Expr}{a b:List Stmt}{tc:TT}(hc:PT X c tc)(ha:PSs X a t)(hb:PSs X b u):PS X (.If c a b pos) (ZnN tc t u):=by
 intro pins s σ H D I h
 refine wpAny_If (thn (hc pins s σ H _ I h) fun d s1 ⟨H1,I1,q1⟩=>?_)
 cases d with
 |true=>exact ha pins s1 σ H1 D I1 q1
 |false=>exact hb pins s1 σ H1 D I1 q1
end
noncomputable abbrev TG:=V->St->Hp->(St->Hp->Prop)->Prop
noncomputable abbrev TGs:=List V->St->Hp->(St->Hp->Prop)->Prop
def PG(X:Cx)(target:Expr)(t:TG):Prop:=
 ∀(pins:List (Addr×Obj)) (s:Shared) (σ:St) (H:Hp) (v:V) (u:Value) (Q:St->Hp->Prop),Inv X pins σ H s->J2 v u->t v σ H Q ->
  wpAny (model X.prog X.w) X.A (assign target X.env u) (fun _ s'=>∃σ' H',Inv X pins σ' H' s'/\Q σ' H') X.xe s
def PGs(X:Cx)(ts:List Expr)(t:TGs):Prop:=
 ∀(pins:List (Addr×Obj)) (s:Shared) (σ:St) (H:Hp) (vs:List V) (us:List Value) (Q:St->Hp->Prop),Inv X pins σ H s->ZU vs us->t vs σ H Q ->
  wpAny (model X.prog X.w) X.A (assignInOrder ((assignEach ts X.env).map (·.2)) us) (fun _ s'=>∃σ' H',Inv X pins σ' H' s'/\Q σ' H') X.xe s
noncomputable abbrev ZnA:=V->V->V->Hp->(Hp->Prop)->Prop
def Zoo(X:Cx)(t:ZnA):Prop:=
 ∀(pins:List (Addr×Obj)) (s:Shared) (σ:St) (H:Hp) (o i v:V) (ov iv u:Value) (Q:Hp->Prop),Inv X pins σ H s->J2 o ov->J2 i iv->J2 v u->t o i v H Q ->
  wpAny (model X.prog X.w) X.A (setItem ov iv u) (fun _ s'=>∃H',Inv X pins σ H' s'/\Q H') X.xe s
noncomputable abbrev TIp:=V->V->Hp->VK->Prop
def PIp(X:Cx)(op:Operator)(t:TIp):Prop:=
 ∀(pins:List (Addr×Obj)) (s:Shared) (σ:St) (H:Hp) (x y:V) (v u:Value) (Q:VK),Inv X pins σ H s->J2 x v->J2 y u->t x y H Q ->
  wpAny (model X.prog X.w) X.A (inplaceOp op v u) (EP X pins σ Q) X.xe s
section
variable {X:Cx}{pos:Pos}
noncomputable def Zb3(i:Nat):TG:=fun v σ H Q=>Q (σ.set i (some v)) H
theorem Qn{i:Nat}{x:Str}(hN:X.N.Nodup)(hi:X.N[i]?=some x)(hx:Loc X.env.scope x)(hf:X.fn x=true\/X.env.scope.names.lookup x=some .local:=by first|exact .inl rfl|exact .inr rfl|assumption):PG X (.Name x pos) (Zb3 i):=by
 intro pins s σ H v u Q I r h
 exact wpAny_assign_Name (UL I hN hi hx r (fun s' I'=>⟨_,H,I',h⟩) hf)
noncomputable def Zog:TGs:=fun vs σ H Q=>vs=[]/\Q σ H
noncomputable def Zk2(t:TG)(u:TGs):TGs:=fun vs σ H Q=>∃v r,vs=v::r/\t v σ H fun σ' H'=>u r σ' H' Q
theorem Zka:PGs X [] Zog:=by
 intro pins s σ H vs us Q I r h
 obtain⟨e,h⟩:=h
 subst e
 cases r
 exact assignInOrder_nil ⟨σ,H,I,h⟩
theorem Zeb{e:Expr}{es:List Expr}{t:TG}{u:TGs}(h1:PG X e t)(h2:PGs X es u)(hs:(assignEach (e::es) X.env).map (·.2)=assign e X.env::(assignEach es X.env).map (·.2):=by rfl):PGs X (e::es) (Zk2 t u):=by
 intro pins s σ H vs us Q I r h
 obtain⟨v,vr,e1,h⟩:=h
 subst e1
 cases r with
 |cons r rr =>
  rw[hs]
  refine assignInOrder_cons (thn (h1 pins s σ H _ _ _ I r h) fun _ s1 ⟨σ1,H1,I1,q1⟩=>?_)
  exact h2 pins s1 σ1 H1 _ _ Q I1 rr q1
noncomputable def Zoe(K:W.Frag)(n:Nat)(t:TGs):TG:=fun v σ H Q=>∃a xs,v=.ref a/\SqT K H a xs/\xs.length=n/\t xs σ H Q
theorem ZlQ{es:List Expr}{k:Nat}{t:TGs}{n:Nat}(hc:X.calm=true)(h:PGs X es t)(hn:(assignEach es X.env).length=n:=by rfl)(hst:(assignEach es X.env).findIdx? (·.1)=none:=by rfl):PG X (.Tuple es k pos) (Zoe X.K n t):=by
 intro pins s σ H v u Q I r hw
 obtain⟨a,xs,e1,hq,hl,hw⟩:=hw
 subst e1
 cases r
 obtain⟨its,rv,ht,hz⟩:=I.tuple hq
 refine assign_Tuple_tuple (I.ok.hd hc) ht (by simp[hn,<- hl,rv.length]) hst fun h' hx=>?_
 have I1:Inv X pins σ H { s with heap:=h' }:=I.kept (t':=s.toks) fun b o e=>hx b o (Zxv (Heap.lt_size e)) e
 exact h pins _ σ H xs _ Q I1 (by simpa using rv) hw
noncomputable def Zof(to ti:TE)(t:ZnA):TG:=fun v σ H Q=>to σ H fun o H1=>ti σ H1 fun i H2=>t o i v H2 fun H3=>Q σ H3
theorem Zcl{o i:Expr}{to ti:TE}{t:ZnA}(ho:PE X o to)(hi:PE X i ti)(hs:Zoo X t)(ha:∀v,assign (.Subscript o i pos) X.env v=(do
   let ov <- holding [v] (eval o X.env)
   let iv <- holding [v,ov] (eval i X.env)
   standAt pos
   holding [v,ov,iv] (setItem ov iv v)
   release [v,ov,iv] []):=by exact fun _=>rfl):PG X (.Subscript o i pos) (Zof to ti t):=by
 intro pins s σ H v u Q I r h
 rw[ha]
 refine wpAny_bind (wpAny_holding (thn (ho pins s σ H _ I h) fun ov s1 ⟨x,H1,I1,r1,q1⟩=>?_))
 refine wpAny_bind (wpAny_holding (thn (hi pins s1 σ H1 _ I1 q1) fun iv s2 ⟨y,H2,I2,r2,q2⟩=>?_))
 refine wpAny_bind (wpAny_standAt (wpAny_bind (wpAny_holding (thn (hs pins s2 σ H2 x y v ov iv u _ I2 r1 r2 r q2) fun _ s3 ⟨H3,I3,q3⟩=>?_))))
 exact wpAny_release ⟨σ,H3,I3,q3⟩
noncomputable def ZlA(te:TE)(g:TG):TS:=fun D σ H=>te σ H fun x H1=>g x σ H1 D.nx
theorem Zcj{tg e:Expr}{te:TE}{g:TG}(he:PE X e te)(hg:PG X tg g)(hs:swapsWithSole [tg] e pos.line X.env=pure false:=by rfl)(hw:swappedStores [tg] e X.env=pure none:=by rfl)(h1:(assignEach [tg] X.env).map (·.2)=[assign tg X.env]:=by rfl):PS X (.Assign [tg] e pos) (ZlA te g):=by
 intro pins s σ H D I h
 refine wpAny_Assign_stores (thn (he pins s σ H _ I h) fun v s1 ⟨x,H1,I1,r1,q1⟩=>?_) hs hw
 rw[h1]
 exact thn (hg pins s1 σ H1 x v _ I1 r1 q1) fun _ s2 q=>q
theorem ZA{i:Nat}{x:Str}{e:Expr}{te:TE}{pos':Pos}(hN:X.N.Nodup)(hi:X.N[i]?=some x)(hx:Loc X.env.scope x)(he:PE X e te)(hs:swapsWith e (some (.Name x pos')) pos.line X.env=pure false:=by rfl)(hf:X.fn x=true\/X.env.scope.names.lookup x=some .local:=by first|exact .inl rfl|exact .inr rfl|assumption) :
  PS X (.Assign [.Name x pos'] e pos) (ZlA te (Zb3 i)):=by
 intro pins s σ H D I h
 refine wpAny_Assign_Name (thn (he pins s σ H _ I h) fun v s1 ⟨y,H1,I1,r1,q1⟩=>?_) hs
 exact UL I1 hN hi hx r1 (fun s2 I2=>⟨_,H1,I2,q1⟩) hf
noncomputable def ZnQ(i:Nat)(te:TE)(ti:TIp):TS:=fun D σ H=>∃x,σ[i]?=some (some x)/\te σ H fun y H1=>ti x y H1 fun z H2=>D.nx (σ.set i (some z)) H2
theorem ZdZ{i:Nat}{x:Str}{e:Expr}{te:TE}{op:Operator}{ti:TIp}{pos':Pos}(hN:X.N.Nodup)(hi:X.N[i]?=some x)(hx:Loc X.env.scope x)(he:PE X e te)(ho:PIp X op ti)(hf:X.fn x=true\/X.env.scope.names.lookup x=some .local:=by first|exact .inl rfl|exact .inr rfl|assumption) :
  PS X (.AugAssign (.Name x pos') op e pos) (ZnQ i te ti):=by
 intro pins s σ H D I h
 obtain⟨v,e1,h⟩:=h
 obtain⟨m,hn,hl⟩:=I.loc
 have vis:Vis X.env.scope x:=by rcases hx with k|k;exact .inl k;exact .inr (.inl k)
 obtain⟨u,r,l⟩:=hl i x v hi e1 vis
 refine wpAny_AugAssign_Name ?_
 have go:wpAny (model X.prog X.w) X.A (eval e X.env) (fun w s₂=>wpAny (model X.prog X.w) X.A (inplaceOp op u w) (fun r s₃=>wpAny (model X.prog X.w) X.A (storeName X.env x r) (fun _=>SP X pins D .next) X.xe s₃) X.xe s₂) X.xe s:=by
  refine thn (he pins s σ H _ I h) fun w s1 ⟨y,H1,I1,r1,q1⟩=>?_
  refine thn (ho pins s1 σ H1 v y u w _ I1 r r1 q1) fun z s2 ⟨zv,H2,I2,r2,q2⟩=>?_
  exact UL I2 hN hi hx r2 (fun s3 I3=>⟨_,H2,I3,q2⟩) hf
 rcases l with ⟨hk,hm⟩|⟨hk,c,hc,hcell⟩
 ·exact wpAny_loadName_local I.ok.kind hk hn hm go
 ·rcases hk with hk|hk
  ·exact wpAny_loadName_cell I.ok.kind hk hc hcell go
  ·rcases hx with k|k
   ·have:X.env.scope.names.lookup x=some .free:=hk
    rw[k] at this;cases this
   ·have:X.env.scope.names.lookup x=some .free:=hk
    rw[k] at this;cases this
noncomputable def ipI(f:Int->Int->Int):TIp:=fun x y H Q=>∃i j,x=.int i/\y=.int j/\Q (.int (f i j)) H
theorem Zj8:PIp X .Add (ipI fun i j=>i+j):=by
 intro pins s σ H x y v u Q I r1 r2 h
 obtain⟨i,j,e1,e2,q⟩:=h
 subst e1;subst e2
 obtain⟨t,rfl⟩:=r1
 obtain⟨t',rfl⟩:=r2
 exact iadd_int ⟨.int _,H,I.tok _,⟨_,rfl⟩,q⟩
theorem Zj7:PIp X .Sub (ipI fun i j=>i-j):=by
 intro pins s σ H x y v u Q I r1 r2 h
 obtain⟨i,j,e1,e2,q⟩:=h
 subst e1;subst e2
 obtain⟨t,rfl⟩:=r1
 obtain⟨t',rfl⟩:=r2
 exact isub_int ⟨.int _,H,I.tok _,⟨_,rfl⟩,q⟩
noncomputable def Zji(c:TT)(tb:TS):TS:=fun D σ H=>∃W:Nat->St->Hp->Prop,(∃m,W m σ H)/\∀m σ H,W m σ H ->
 c σ H fun b H1=>if b=true then ∃N:St->Hp->Prop,(∀σ' H',N σ' H'->∃m',m'<m/\W m' σ' H')/\tb { D with nx:=N,ct:=N,bk:=D.nx } σ H1 else D.nx σ H1
theorem Vu{c:Expr}{body:List Stmt}{tc:TT}{tb:TS}(hp:PassesOwn (model X.prog X.w) X.A X.env X.xe)(hc:PT X c tc)(hb:PSs X body tb):PS X (.While c body [] pos) (Zji tc tb):=by
 intro pins s σ H D I h
 obtain⟨W,⟨m0,w0⟩,turn⟩:=h
 refine wpAny_While (codeAny_whileLoop (fun n s'=>∃σ' H',Inv X pins σ' H' s'/\W n σ' H') ?_ m0 ⟨σ,H,I,w0⟩)
 rintro n s1 ⟨σ1,H1,I1,w1⟩
 refine wpAny_passesOwn hp (thn (hc pins s1 σ1 H1 _ I1 (turn n σ1 H1 w1)) fun b s2 ⟨H2,I2,q2⟩=>?_)
 cases b with
 |true =>
  obtain⟨N,hN,q2⟩:=q2
  rw[if_pos rfl]
  refine wpAny_passesOwn hp (thn (hb pins s2 σ1 H2 _ I2 q2) fun f s3 q3=>?_)
  cases f with
  |next =>
   obtain⟨σ3,H3,I3,n3⟩:=q3
   obtain⟨m',hm,w3⟩:=hN σ3 H3 n3
   exact⟨m',hm,σ3,H3,I3,w3⟩
  |cont =>
   obtain⟨σ3,H3,I3,n3⟩:=q3
   obtain⟨m',hm,w3⟩:=hN σ3 H3 n3
   exact⟨m',hm,σ3,H3,I3,w3⟩
  |brk=>exact q3
  |ret v=>exact q3
 |false =>
  rw[if_neg Bool.false_ne_true]
  exact wpAny_execs_nil ⟨σ1,H2,I2,q2⟩
end
structure It where
 go:Nat->Hp->Prop
 yld:Nat->Hp->V->Hp->Prop
 stop:Nat->Hp->Prop
def ZhQ(X:Cx)(pins:List (Addr×Obj))(H:Hp)(b:Addr):Prop:=
 H b=none/\b≠X.env.locals/\b ∉ X.fs/\(b∈X.ex\/X.s₀.heap.objs.size<=b)/\(∀x c,X.env.cells.lookup x=some c->c≠b)/\∀p∈X.pn++pins,p.1≠b
theorem Inv.fpOk{X:Cx}{pins:List (Addr×Obj)}{σ:St}{H H':Hp}{s:Shared}{b:Addr}(I:Inv X pins σ H s)(hb:s.heap.objs.size<=b)(hn:H' b=none):ZhQ X pins H' b:=by
 refine⟨hn,Zy4 (Zxj I.lt hb),I.nofs hb,.inr (Zx2 I.sz hb),fun x c e z=>?_,fun p hp z=>?_⟩
 ·obtain⟨v,q⟩:=I.cell x c e
  exact absurd (Zxj q.lt (by rw[z];exact hb)) (ZxE _)
 ·exact absurd (Zxj (Heap.lt_size (I.pin p hp).1) (by rw[z];exact hb)) (ZxE _)
structure ZjI(P:Program)(w:World)(K:PySem.W.Frag)(tg:Expr)(J:It)(fp:List Addr)(it:Addr)(tn:Nat->Heap->Prop):Prop where
 mem:it∈fp
 obj:∀i h,tn i h->∀b∈fp,∃o,h.get? b=some o/\∀v,o.data≠.cell v
 keep:∀i h h',tn i h->(∀b∈fp,∀o,h.get? b=some o->h'.get? b=some o)->tn i h'
 item:∀(X:Cx),X.prog=P->X.w=w->X.K=K->X.calm=true->∀(i:Nat) (pins:List (Addr×Obj)) (s:Shared) (σ:St) (H:Hp) (E:Value->Shared->Prop),Inv X pins σ H s->(∀b∈fp,ZhQ X pins H b)->tn i s.heap->J.go i H ->
  wpAny (model P w) X.A (pyNext (.ref it)) (fun r s1=>∃u,r=some u /\
   wpAny (model P w) X.A (letOwnedTupleGo tg (.ref it) u) (fun _ s2=>∃x H',Inv X pins σ H' s2/\J2 x u/\J.yld i H x H'/\tn (i+1) s2.heap/\∀b∈fp,H' b=none) E s1) E s
 done:∀(X:Cx),X.prog=P->X.w=w->X.K=K->X.calm=true->∀(i:Nat) (pins:List (Addr×Obj)) (s:Shared) (σ:St) (H:Hp) (E:Value->Shared->Prop),Inv X pins σ H s->(∀b∈fp,ZhQ X pins H b)->tn i s.heap->J.stop i H ->
  wpAny (model P w) X.A (pyNext (.ref it)) (fun r s1=>r=none/\Inv X pins σ H s1) E s
 self:∀(A:Around) (i:Nat) (s:Shared) (Q:Value->Shared->Prop) (E:Value->Shared->Prop),tn i s.heap->Q (.ref it) s->wpAny (model P w) A (pyIter (.ref it)) Q E s
noncomputable abbrev TI:=St->Hp->(It->Hp->Prop)->Prop
def PIE(X:Cx)(pins:List (Addr×Obj))(σ:St)(tg:Expr)(R:It->Hp->Prop)(itv:Value)(s2:Shared):Prop:=
 ∃(it:Addr) (fp:List Addr) (tn:Nat->Heap->Prop) (J:It) (H':Hp),itv=.ref it/\Inv X pins σ H' s2/\ZjI X.prog X.w X.K tg J fp it tn/\tn 0 s2.heap/\(∀b∈fp,ZhQ X pins H' b)/\R J H'
def PI(X:Cx)(tg iter:Expr)(wi:TI):Prop:=
 ∀(pins:List (Addr×Obj)) (s:Shared) (σ:St) (H:Hp) (R:It->Hp->Prop),Inv X pins σ H s->wi σ H R ->
  wpAny (model X.prog X.w) X.A (eval iter X.env) (fun v s1=>wpAny (model X.prog X.w) X.A (pyIter v) (PIE X pins σ tg R) X.xe s1) X.xe s
theorem Zho{M:Model}{A:Around}{E:Value->Shared->Prop}{s:Shared}{tg:Expr}{it:Addr}{u:Value}{o:Obj}{n:String}{vs:Array Value}{Q:Unit->Shared->Prop}(ho:s.heap.get? it=some o)(hc:o.cls=.type n)(hd:o.data=.fields vs)(hn:["enumerate", "zip", "dict_itemiterator", "dict_reverseitemiterator", "odict_iterator", "itertools.zip_longest", "itertools.pairwise"].contains n=false)(hQ:Q () s):wpAny M A (letOwnedTupleGo tg (.ref it) u) Q E s:=by
 unfold letOwnedTupleGo
 cases tg<;>first
  |exact wpAny_pure hQ
  |(cases u<;>first
    |exact wpAny_pure hQ
    |(refine wpAny_bind (wpAny_load ho ?_)
      rw[hc,hd]
      show wpAny M A (if (["enumerate", "zip", "dict_itemiterator", "dict_reverseitemiterator", "odict_iterator", "itertools.zip_longest", "itertools.pairwise"].contains n&&vs[0]?==some (rawInt _))=true then _ else _) Q E s
      rw[if_neg (by intro h;rw[hn,Bool.false_and] at h;cases h)]
      exact wpAny_pure hQ))
noncomputable def Itl(K:W.Frag)(a:Addr):It:=
 ⟨fun i H=>∃xs x,SqL K H a xs/\xs[i]?=some x,fun i H x H'=>H'=H/\∀xs,SqL K H a xs->xs[i]?=some x,fun i H=>∃xs,SqL K H a xs/\xs.length<=i⟩
noncomputable def Itt(K:W.Frag)(a:Addr):It:=
 ⟨fun i H=>∃xs x,SqT K H a xs/\xs[i]?=some x,fun i H x H'=>H'=H/\∀xs,SqT K H a xs->xs[i]?=some x,fun i H=>∃xs,SqT K H a xs/\xs.length<=i⟩
noncomputable def Itr(lo:Int)(n:Nat):It:=⟨fun i _=>i<n,fun i H x H'=>H'=H/\x=.int (lo+i),fun i _=>n<=i⟩
theorem ZfN{P:Program}{w:World}{K:W.Frag}{tg:Expr}(a it:Addr):ZjI P w K tg (Itl K a) [it] it (fun i h=>h.IsListIter it a i) where
 mem:=by simp
 obj:=fun i h st b hb=>by
  have e:b=it:=by simpa using hb
  subst e
  obtain⟨o,e,c,d⟩:=st
  exact⟨o,e,fun v z=>by rw[d] at z;cases z⟩
 keep:=fun i h h' st k=>st.at fun o e=>k it (by simp) o e
 item:=by
  intro X hP hw hK hc i pins s σ H E I hf st hg
  subst hP hw hK
  obtain⟨xs,x,hq,hx⟩:=hg
  obtain⟨its,rv,p,hz⟩:=I.list hq
  obtain⟨u,hu,ru⟩:=rv.get hx
  obtain⟨f0,f1,f2,f3,f4,f5⟩:=hf it (by simp)
  refine wpAny_pyNext_list_item st p.isList (x:=u) (by simpa using hu) fun h' st' sb=>?_
  have I1:Inv X pins σ H { s with heap:=h' }:=I.turned (t':=s.toks) (fun b o hb e=>(sb.2 b hb).trans e) f0 f1 f3 f4 f5
  obtain⟨o,e,c,d⟩:=id st'
  exact⟨u,rfl,Zho (s:={ s with heap:=h' }) e c d (by decide) ⟨x,H,I1,ru,⟨rfl,fun ys hy=>by rw[I.list_inj hy hq];exact hx⟩,st',fun b hb=>(hf b hb).1⟩⟩
 done:=by
  intro X hP hw hK hc i pins s σ H E I hf st hg
  subst hP hw hK
  obtain⟨xs,hq,hx⟩:=hg
  obtain⟨its,rv,p,hz⟩:=I.list hq
  obtain⟨f0,f1,f2,f3,f4,f5⟩:=hf it (by simp)
  have hl:=rv.length
  exact wpAny_pyNext_list_end (I.ok.hd hc) st p.isList (by simp;lia) fun h' eb=>⟨rfl,I.turned (t':=s.toks) (fun b o hb e=>eb b o hb e) f0 f1 f3 f4 f5⟩
 self:=fun _ _ _ _ _ st h=>wpAny_pyIter_listiter st h
theorem ZeL{P:Program}{w:World}{K:W.Frag}{tg:Expr}(a it:Addr):ZjI P w K tg (Itt K a) [it] it (fun i h=>h.IsTupleIter it a i) where
 mem:=by simp
 obj:=fun i h st b hb=>by
  have e:b=it:=by simpa using hb
  subst e
  obtain⟨o,e,c,d⟩:=st
  exact⟨o,e,fun v z=>by rw[d] at z;cases z⟩
 keep:=fun i h h' st k=>st.at fun o e=>k it (by simp) o e
 item:=by
  intro X hP hw hK hc i pins s σ H E I hf st hg
  subst hP hw hK
  obtain⟨xs,x,hq,hx⟩:=hg
  obtain⟨its,rv,p,hz⟩:=I.tuple hq
  obtain⟨u,hu,ru⟩:=rv.get hx
  obtain⟨f0,f1,f2,f3,f4,f5⟩:=hf it (by simp)
  refine wpAny_pyNext_tuple_item st (show s.heap.IsTuple a its.toArray from p) (x:=u) (by simpa using hu) fun h' st' sb=>?_
  have I1:Inv X pins σ H { s with heap:=h' }:=I.turned (t':=s.toks) (fun b o hb e=>(sb.2 b hb).trans e) f0 f1 f3 f4 f5
  obtain⟨o,e,c,d⟩:=id st'
  exact⟨u,rfl,Zho (s:={ s with heap:=h' }) e c d (by decide) ⟨x,H,I1,ru,⟨rfl,fun ys hy=>by rw[I.tuple_inj hy hq];exact hx⟩,st',fun b hb=>(hf b hb).1⟩⟩
 done:=by
  intro X hP hw hK hc i pins s σ H E I hf st hg
  subst hP hw hK
  obtain⟨xs,hq,hx⟩:=hg
  obtain⟨its,rv,p,hz⟩:=I.tuple hq
  obtain⟨f0,f1,f2,f3,f4,f5⟩:=hf it (by simp)
  have hl:=rv.length
  exact wpAny_pyNext_tuple_end (I.ok.hd hc) st (show s.heap.IsTuple a its.toArray from p) (by simp;lia) fun h' eb=>⟨rfl,I.turned (t':=s.toks) (fun b o hb e=>eb b o hb e) f0 f1 f3 f4 f5⟩
 self:=fun _ _ _ _ _ st h=>wpAny_pyIter_tupleiter st h
theorem ZeM{P:Program}{w:World}{K:W.Frag}{tg:Expr}(it:Addr)(lo:Int)(n:Nat):ZjI P w K tg (Itr lo n) [it] it (fun i h=>IsRangeIter h it (lo+(i:Nat)*1) ((n:Int)-(i:Nat)) 1) where
 mem:=by simp
 obj:=fun i h st b hb=>by
  have e:b=it:=by simpa using hb
  subst e
  exact⟨_,st,fun v z=>by
   have z':Data.fields _=Data.cell v:=z
   cases z'⟩
 keep:=fun i h h' st k=>k it (by simp) _ st
 item:=by
  intro X hP hw hK hc i pins s σ H E I hf st hg
  subst hP hw hK
  obtain⟨f0,f1,f2,f3,f4,f5⟩:=hf it (by simp)
  have W:=Walks.range (prog:=X.prog) (w:=X.w) (I.ok.hd hc) it lo 1 n
  refine W.item i s _ _ hg st fun v h' tk hv st' kk=>?_
  obtain⟨t,rfl⟩:=hv
  have I1:Inv X pins σ H { s with heap:=h',toks:=tk }:=I.turned (fun b o hb e=>kk b o (by simpa using hb) e) f0 f1 f3 f4 f5
  refine⟨_,rfl,Zho (s:={ s with heap:=h',toks:=tk }) (n := "range_iterator") st' rfl rfl (by decide) ⟨.int (lo+i),H,I1,⟨t, ?_⟩,⟨rfl,rfl⟩,st',fun b hb=>(hf b hb).1⟩⟩
  rw[Int.mul_one]
 done:=by
  intro X hP hw hK hc i pins s σ H E I hf st hg
  subst hP hw hK
  obtain⟨f0,f1,f2,f3,f4,f5⟩:=hf it (by simp)
  exact wpAny_pyNext_range_end (I.ok.hd hc) st (by have:n<=i:=hg;lia) fun h' eb=>⟨rfl,I.turned (t':=s.toks) (fun b o hb e=>eb b o hb e) f0 f1 f3 f4 f5⟩
 self:=fun _ _ _ _ _ st h=>wpAny_pyIter_rangeiter st h
section
variable {X:Cx}{tg:Expr}
noncomputable def ZiD(K:W.Frag)(tl:TE):TI:=fun σ H R=>tl σ H fun x H1=>∃a,x=.ref a/\(∃xs,SqL K H1 a xs)/\R (Itl K a) H1
noncomputable def Zny(K:W.Frag)(tl:TE):TI:=fun σ H R=>tl σ H fun x H1=>∃a,x=.ref a/\(∃xs,SqT K H1 a xs)/\R (Itt K a) H1
theorem ZjZ{l:Expr}{tl:TE}(hl:PE X l tl):PI X tg l (ZiD X.K tl):=by
 intro pins s σ H R I h
 refine thn (hl pins s σ H _ I h) fun v s1 ⟨x,H1,I1,r1,q1⟩=>?_
 obtain⟨a,e,⟨xs,hq⟩,q⟩:=q1
 subst e
 cases r1
 obtain⟨its,rv,p,hz⟩:=I1.list hq
 refine wpAny_pyIter_list p.isList ?_
 refine⟨s1.heap.objs.size,[s1.heap.objs.size],_,_,H1,rfl,I1.kept (t':=s1.toks) fun b o e=>Heap.get?_push_of_some _ e,ZfN a _,⟨_,Heap.get?_push_size _ rfl,rfl,rfl⟩,fun b hb=>?_,q⟩
 have e:b=s1.heap.objs.size:=by simpa using hb
 subst e
 exact I1.fpOk (Zxi _) (I1.hok.fresh (Zxi _))
theorem ZlO{l:Expr}{tl:TE}(hl:PE X l tl):PI X tg l (Zny X.K tl):=by
 intro pins s σ H R I h
 refine thn (hl pins s σ H _ I h) fun v s1 ⟨x,H1,I1,r1,q1⟩=>?_
 obtain⟨a,e,⟨xs,hq⟩,q⟩:=q1
 subst e
 cases r1
 obtain⟨its,rv,p,hz⟩:=I1.tuple hq
 refine wpAny_pyIter_tuple (show s1.heap.IsTuple a its.toArray from p) ?_
 refine⟨s1.heap.objs.size,[s1.heap.objs.size],_,_,H1,rfl,I1.kept (t':=s1.toks) fun b o e=>Heap.get?_push_of_some _ e,ZeL a _,⟨_,Heap.get?_push_size _ rfl,rfl,rfl⟩,fun b hb=>?_,q⟩
 have e:b=s1.heap.objs.size:=by simpa using hb
 subst e
 exact I1.fpOk (Zxi _) (I1.hok.fresh (Zxi _))
theorem Zif{pins:List (Addr×Obj)}{σ:St}{H:Hp}{s:Shared}{R:It->Hp->Prop}{E:Value->Shared->Prop}{lo hi:Int}{t u v:Tok}{tk:Nat}(I:Inv X pins σ H s)(h1:-(2^62)<=lo)(h2:lo<2^62)(h3:-(2^62)<=hi)(h4:hi<2^62)(q:R (Itr lo (hi-lo).toNat) H):wpAny (model X.prog X.w) X.A (pyIter (.ref s.heap.objs.size)) (PIE X pins σ tg R) E { s with heap:=s.heap.push { cls:=.type "range",data:=.fields #[.int lo t,.int hi u,.int 1 v] },toks:=tk }:=by
 refine wpAny_pyIter_range (IsRange.new ..) (small_one h1 h2 h3 h4) ?_
 have I1:Inv X pins σ H { s with heap:=s.heap.push { cls:=.type "range",data:=.fields #[.int lo t,.int hi u,.int 1 v] },toks:=tk }:=I.kept fun b o e=>Heap.get?_push_of_some _ e
 refine⟨(s.heap.push { cls:=.type "range",data:=.fields #[.int lo t,.int hi u,.int 1 v] }).objs.size,[(s.heap.push { cls:=.type "range",data:=.fields #[.int lo t,.int hi u,.int 1 v] }).objs.size],_,_,H,rfl,
  I1.kept (t':=tk) fun b o e=>Heap.get?_push_of_some _ e,ZeM _ lo (hi-lo).toNat, ?_,fun b hb=>?_,q⟩
 ·have e1:lo+((0:Nat):Int)*1=lo:=by simp
  have e2:(((hi-lo).toNat:Nat):Int)-((0:Nat):Int)=Builtin.Range.rangeSize lo hi 1:=by rw[rangeSize_one];split<;>lia
  show IsRangeIter _ _ (lo+((0:Nat):Int)*1) ((((hi-lo).toNat:Nat):Int)-((0:Nat):Int)) 1
  rw[e1,e2]
  exact Heap.get?_push_size _ rfl
 ·have e:b=(s.heap.push { cls:=.type "range",data:=.fields #[.int lo t,.int hi u,.int 1 v] }).objs.size:=by simpa using hb
  subst e
  exact I1.fpOk (Zxi _) (I1.hok.fresh (Zxi _))
noncomputable def Zmw(ta:TA):TI:=fun σ H R=>ta σ H fun vs H1=>∃j:Int,vs=[.int j]/\-(2^62)<=j/\j<2^62/\R (Itr 0 j.toNat) H1
theorem Vm{a:Expr}{ta:TA}{p pos:Pos}(hg:Gl X "range")(hm:X.mg "range"=none)(ha:PA X [a] ta)(hs:starEach [a] X.env=[(false,eval a X.env)]:=by rfl):PI X tg (.Call (.Name "range" p) [a] [] pos) (Zmw ta):=by
 intro pins s σ H R I h
 refine Call_ (Zcx I hg hm boot_range (PyProof.Rows.callWith_type1 (thn (ha pos pins s σ H _ I h) fun us s1 ⟨vs,H1,I1,r1,q1⟩=>?_) hs rfl))
 obtain⟨j,e,q1,q2,q⟩:=q1
 subst e
 cases r1 with
 |cons r rr =>
  cases rr
  obtain⟨t,rfl⟩:=r
  exact call_range_1 (Zif I1 (by lia) (by lia) q1 q2 (by simpa using q))
noncomputable def ZnO(wi:TI)(g:TG)(tb:TS):TS:=fun D σ H=>wi σ H fun J H1=>∃W:Nat->Nat->St->Hp->Prop,(∃m,W 0 m σ H1)/\∀i m σ H,W i m σ H ->
 (J.stop i H/\D.nx σ H)\/(J.go i H/\∃N:St->Hp->Prop,(∀σ' H',N σ' H'->∃m',m'<m/\W (i+1) m' σ' H')/\∀x H',J.yld i H x H'->g x σ H' fun σ2 H2=>tb { D with nx:=N,ct:=N,bk:=D.nx } σ2 H2)
noncomputable def Zea(fp:List Addr)(h:Heap):List (Addr×Obj):=fp.filterMap fun b=>(h.get? b).map fun o=>(b,o)
theorem Vd{fp:List Addr}{h:Heap}{b:Addr}{o:Obj}(hb:b∈fp)(e:h.get? b=some o):(b,o)∈Zea fp h:=Zy5.mpr ⟨b,hb,by rw[e];rfl⟩
theorem ZgC{fp:List Addr}{h:Heap}{p:Addr×Obj}(hp:p∈Zea fp h):p.1∈fp/\h.get? p.1=some p.2:=by
 obtain⟨b,hb,e⟩:=Zy5.mp hp
 cases q:h.get? b with
 |none=>rw[q] at e;cases e
 |some o =>
  rw[q] at e
  have e':(b,o)=p:=Option.some.inj e
  subst e'
  exact⟨hb,q⟩
theorem Inv.pinned{pins:List (Addr×Obj)}{σ:St}{H:Hp}{s:Shared}{fp:List Addr}(I:Inv X pins σ H s)(hf:∀b∈fp,ZhQ X pins H b)(ho:∀b∈fp,∃o,s.heap.get? b=some o/\∀v,o.data≠.cell v):Inv X (pins++Zea fp s.heap) σ H s:=
 I.pins_of fun p hp=>(Zxg.mp hp).elim (fun z=>I.pin p (Zxb _ z)) fun z=>by
  obtain⟨hb,e⟩:=ZgC z
  obtain⟨f0,f1,f2,_⟩:=hf p.1 hb
  obtain⟨o,e',d⟩:=ho p.1 hb
  rw[e] at e';cases e'
  exact⟨e,f0,f1,f2,d⟩
theorem Inv.unpinned{pins pl:List (Addr×Obj)}{σ:St}{H:Hp}{s:Shared}(I:Inv X (pins++pl) σ H s):Inv X pins σ H s:=I.pins_of fun p hp=>I.pin p (Zxb _ (Zxe _ hp))
theorem ZdY{iter:Expr}{body:List Stmt}{wi:TI}{g:TG}{tb:TS}{pos:Pos}(hp:PassesOwn (model X.prog X.w) X.A X.env X.xe)(hc:X.calm=true)(hi:PI X tg iter wi)(hg:PG X tg g)(hb:PSs X body tb)(hs:∀x,foldedSetIterable iter X.env x=pure x:=by exact fun _=>rfl):PS X (.For tg iter body [] pos) (ZnO wi g tb):=by
 intro pins s σ H D I h
 refine wpAny_For (thn (hi pins s σ H _ I h) fun v s1 h1=>thn h1 fun itv s2 h2=>?_) hs
 obtain⟨it,fp,tn,J,H2,e,I2,T,st2,f2,W,⟨m0,w0⟩,turn⟩:=h2
 subst e
 have stat:∀{H':Hp},(∀b∈fp,H' b=none)->∀b∈fp,ZhQ X pins H' b:=fun hn b hb=>⟨hn b hb,(f2 b hb).2⟩
 refine codeAny_forLoop_any (fun n s'=>∃i σ' H',Inv X pins σ' H' s'/\tn i s'.heap/\(∀b∈fp,H' b=none)/\W i n σ' H') ?_ m0 ⟨0,σ,H2,I2,st2,fun b hb=>(f2 b hb).1,w0⟩
 rintro n s3 ⟨i,σ3,H3,I3,st3,fr3,w3⟩
 rcases turn i n σ3 H3 w3 with ⟨stop,qn⟩|⟨go,N,hN,step⟩
 ·refine wpAny_passesOwn hp (thn (T.done X rfl rfl rfl hc i pins s3 σ3 H3 X.xe I3 (stat fr3) st3 stop) fun r s4 ⟨hr,I4⟩=>?_)
  subst hr
  exact wpAny_execs_nil ⟨σ3,H3,I4,qn⟩
 ·refine wpAny_passesOwn hp (thn (T.item X rfl rfl rfl hc i pins s3 σ3 H3 X.xe I3 (stat fr3) st3 go) fun r s4 ⟨u,hr,h4⟩=>?_)
  subst hr
  refine wpAny_passesOwn hp (thn h4 fun _ s5 ⟨x,H5,I5,r5,y5,st5,fr5⟩=>?_)
  have I5':=I5.pinned (stat fr5) (T.obj _ _ st5)
  refine wpAny_passesOwn hp (thn (hg _ s5 σ3 H5 x u _ I5' r5 (step x H5 y5)) fun _ s6 ⟨σ6,H6,I6,q6⟩=>?_)
  refine wpAny_passesOwn hp (thn (hb _ s6 σ6 H6 _ I6 q6) fun f s7 q7=>?_)
  have again:∀{σ7:St}{H7:Hp},Inv X (pins++Zea fp s5.heap) σ7 H7 s7->N σ7 H7->∃m,m<n/\∃i σ' H',Inv X pins σ' H' s7/\tn i s7.heap/\(∀b∈fp,H' b=none)/\W i m σ' H':=fun {σ7 H7} I7 n7=>by
   obtain⟨m',hm,w7⟩:=hN σ7 H7 n7
   refine⟨m',hm,i+1,σ7,H7,I7.unpinned,T.keep _ _ _ st5 fun b hb o e=>(I7.pin (b,o) (Zxb _ (Zxb _ (Vd hb e)))).1,fun b hb=>?_,w7⟩
   obtain⟨o,e,d⟩:=T.obj _ _ st5 b hb
   exact(I7.pin (b,o) (Zxb _ (Zxb _ (Vd hb e)))).2.1
  cases f with
  |next=>obtain⟨σ7,H7,I7,n7⟩:=q7;exact again I7 n7
  |cont=>obtain⟨σ7,H7,I7,n7⟩:=q7;exact again I7 n7
  |brk=>obtain⟨σ7,H7,I7,q7⟩:=q7;exact⟨σ7,H7,I7.unpinned,q7⟩
  |ret v=>obtain⟨x7,σ7,H7,I7,r7,q7⟩:=q7;exact⟨x7,σ7,H7,I7.unpinned,r7,q7⟩
end
noncomputable abbrev R2:=V->V->Hp->VK->Prop
def OpR(X:Cx)(f:Value->Value->Sem Value)(r:R2):Prop:=
 ∀(pins:List (Addr×Obj)) (s:Shared) (σ:St) (H:Hp) (x y:V) (v u:Value) (Q:VK),Inv X pins σ H s->J2 x v->J2 y u->r x y H Q ->
  wpAny (model X.prog X.w) X.A (f v u) (EP X pins σ Q) X.xe s
def UnR(X:Cx)(f:Value->Sem Value)(r:V->Hp->VK->Prop):Prop:=
 ∀(pins:List (Addr×Obj)) (s:Shared) (σ:St) (H:Hp) (x:V) (v:Value) (Q:VK),Inv X pins σ H s->J2 x v->r x H Q ->
  wpAny (model X.prog X.w) X.A (f v) (EP X pins σ Q) X.xe s
def Vs(X:Cx)(f:Value)(r:List V->Hp->VK->Prop):Prop:=
 ∀(pins:List (Addr×Obj)) (s:Shared) (σ:St) (H:Hp) (xs:List V) (us:List Value) (Q:VK),Inv X pins σ H s->ZU xs us->r xs H Q ->
  wpAny (model X.prog X.w) X.A (call f us) (EP X pins σ Q) X.xe s
noncomputable def tOp(r:R2)(ta tb:TE):TE:=fun σ H Q=>ta σ H fun x H1=>tb σ H1 fun y H2=>r x y H2 Q
noncomputable def tUn(r:V->Hp->VK->Prop)(ta:TE):TE:=fun σ H Q=>ta σ H fun x H1=>r x H1 Q
noncomputable def rI(C:Int->Int->Prop)(g:Int->Int->V):R2:=fun x y H Q=>∃i j,x=.int i/\y=.int j/\C i j/\Q (g i j) H
noncomputable def rI0(g:Int->Int->V):R2:=fun x y H Q=>∃i j,x=.int i/\y=.int j/\Q (g i j) H
def rU(g:Int->V):V->Hp->VK->Prop:=fun x H Q=>∃i,x=.int i/\Q (g i) H
section
variable {X:Cx}{a b:Expr}{ta tb:TE}{pos:Pos}
theorem Zn8(ha:PE X a ta)(hb:PE X b tb){pins:List (Addr×Obj)}{s:Shared}{σ:St}{H:Hp}{R:V->V->Hp->Prop}(I:Inv X pins σ H s)(h:ta σ H fun x H1=>tb σ H1 fun y H2=>R x y H2){Q:Value->Shared->Prop}{f:Value->Value->Sem Value}(hf:∀v u s2 x y H2,Inv X pins σ H2 s2->J2 x v->J2 y u->R x y H2->wpAny (model X.prog X.w) X.A (f v u) Q X.xe s2) :
  wpAny (model X.prog X.w) X.A (eval a X.env) (fun v s₁=>wpAny (model X.prog X.w) X.A (eval b X.env) (fun u s₂=>wpAny (model X.prog X.w) X.A (f v u) Q X.xe s₂) X.xe s₁) X.xe s:=by
 refine thn (ha pins s σ H _ I h) fun v s1 ⟨x,H1,I1,r1,q1⟩=>?_
 refine thn (hb pins s1 σ H1 _ I1 q1) fun u s2 ⟨y,H2,I2,r2,q2⟩=>?_
 exact hf v u s2 x y H2 I2 r1 r2 q2
theorem Z8{op:Operator}{r:R2}(ho:OpR X (binaryOp op) r)(ha:PE X a ta)(hb:PE X b tb):PE X (.BinOp a op b pos) (tOp r ta tb):=by
 intro pins s σ H Q I h
 exact wpAny_BinOp (Zn8 ha hb I h fun v u s2 x y H2 I2 rx ry q=>ho pins s2 σ H2 x y v u Q I2 rx ry q)
theorem ZlS{op:UnaryOp}{r:V->Hp->VK->Prop}(ho:UnR X (unaryOp op) r)(ha:PE X a ta):PE X (.UnaryOp op a pos) (tUn r ta):=by
 intro pins s σ H Q I h
 exact UnaryOp_ (thn (ha pins s σ H _ I h) fun v s1 ⟨x,H1,I1,r1,q1⟩=>ho pins s1 σ H1 x v Q I1 r1 q1)
theorem opI{f:Value->Value->Sem Value}{C:Int->Int->Prop}{g:Int->Int->Int}(rule:∀(i j:Int) (t u:Tok) (s:Shared) (Q:Value->Shared->Prop) (E:Value->Shared->Prop),C i j->Q (.int (g i j) s.toks) { s with toks:=s.toks+1 }->wpAny (model X.prog X.w) X.A (f (.int i t) (.int j u)) Q E s) :
  OpR X f (rI C fun i j=>.int (g i j)):=by
 intro pins s σ H x y v u Q I rx ry h
 obtain⟨i,j,rfl,rfl,hc,q⟩:=h
 obtain⟨t,rfl⟩:=rx
 obtain⟨t',rfl⟩:=ry
 exact rule i j t t' s _ _ hc ⟨.int (g i j),H,I.tok _,⟨_,rfl⟩,q⟩
theorem Zob{f:Value->Value->Sem Value}{g:Int->Int->Int}(rule:∀(i j:Int) (t u:Tok) (s:Shared) (Q:Value->Shared->Prop) (E:Value->Shared->Prop),Q (.int (g i j) s.toks) { s with toks:=s.toks+1 }->wpAny (model X.prog X.w) X.A (f (.int i t) (.int j u)) Q E s) :
  OpR X f (rI0 fun i j=>.int (g i j)):=by
 intro pins s σ H x y v u Q I rx ry h
 obtain⟨i,j,rfl,rfl,q⟩:=h
 obtain⟨t,rfl⟩:=rx
 obtain⟨t',rfl⟩:=ry
 exact rule i j t t' s _ _ ⟨.int (g i j),H,I.tok _,⟨_,rfl⟩,q⟩
theorem ZmO{f:Value->Value->Sem Value}{g:Int->Int->Bool}(rule:∀(i j:Int) (t u:Tok) (s:Shared) (Q:Value->Shared->Prop) (E:Value->Shared->Prop),Q (.bool (g i j)) s->wpAny (model X.prog X.w) X.A (f (.int i t) (.int j u)) Q E s) :
  OpR X f (rI0 fun i j=>.bl (g i j)):=by
 intro pins s σ H x y v u Q I rx ry h
 obtain⟨i,j,rfl,rfl,q⟩:=h
 obtain⟨t,rfl⟩:=rx
 obtain⟨t',rfl⟩:=ry
 exact rule i j t t' s _ _ ⟨.bl (g i j),H,I,rfl,q⟩
def Zlq(i j:Int):Prop:=0<=j/\j<=1000000/\i.natAbs<2^64
theorem J5:OpR X (binaryOp .Add) (rI0 fun i j=>.int (i+j)):=Zob fun _ _ _ _ _ _ _ q=>add_int q
theorem J3:OpR X (binaryOp .Sub) (rI0 fun i j=>.int (i-j)):=Zob fun _ _ _ _ _ _ _ q=>sub_int q
theorem J4:OpR X (binaryOp .Mod) (rI (fun _ j=>0<j) fun i j=>.int (i%j)):=opI fun i j _ _ _ _ _ hc q=>by
 have h1:(0:Int)<j:=hc
 exact mod_int' (by lia) (by rw[Int.fmod_eq_emod_of_nonneg i (by lia)];exact q)
theorem Zj2:OpR X (binaryOp .Pow) (rI Zlq fun i j=>.int (i^j.toNat)):=opI fun _ _ _ _ _ _ _ hc q=>pow_int_small hc.1 hc.2.1 hc.2.2 q
theorem unI{f:Value->Sem Value}{g:Int->Int}(rule:∀(i:Int) (t:Tok) (s:Shared) (Q:Value->Shared->Prop) (E:Value->Shared->Prop),Q (.int (g i) s.toks) { s with toks:=s.toks+1 }->wpAny (model X.prog X.w) X.A (f (.int i t)) Q E s) :
  UnR X f (rU fun i=>.int (g i)):=by
 intro pins s σ H x v Q I rx h
 obtain⟨i,rfl,q⟩:=h
 obtain⟨t,rfl⟩:=rx
 exact rule i t s _ _ ⟨.int (g i),H,I.tok _,⟨_,rfl⟩,q⟩
theorem Zjg:UnR X (unaryOp .USub) (rU fun i=>.int (-i)):=unI fun _ _ _ _ _ q=>neg_int q
variable {c:Expr}
theorem Zmz{pins:List (Addr×Obj)}{σ:St}{H:Hp}{s:Shared}{Q:VK}{k k':Bool}(I:Inv X pins σ H s)(q:Q (.bl k) H)(e:k=k'):EP X pins σ Q (.bool k') s:=by
 subst e
 exact⟨.bl k,H,I,rfl,q⟩
theorem Zi3:OpR X (compareOp .Lt) (rI0 fun i j=>.bl (decide (i<j))):=ZmO fun _ _ _ _ _ _ _ q=>lt_int q
theorem Zkm:OpR X (compareOp .LtE) (rI0 fun i j=>.bl (decide (i<=j))):=ZmO fun _ _ _ _ _ _ _ q=>le_int q
theorem Us:OpR X (compareOp .Gt) (rI0 fun i j=>.bl (decide (j<i))):=ZmO fun _ _ _ _ _ _ _ q=>gt_int q
theorem Znt:OpR X (compareOp .GtE) (rI0 fun i j=>.bl (decide (j<=i))):=ZmO fun _ _ _ _ _ _ _ q=>ge_int q
theorem Zg8:OpR X (compareOp .In) (fun x y H Q=>∃i j,x=.str i/\y=.str j/\Q (.bl (!(Builtin.Str.occurrences j i 0 j.length 1).isEmpty)) H):=by
 intro pins s σ H x y v u Q I rx ry h
 obtain⟨i,j,rfl,rfl,q⟩:=h
 obtain⟨t,rfl⟩:=rx
 obtain⟨t',rfl⟩:=ry
 exact in_str (Zmz I q rfl)
theorem Zz(b:Expr){op:CmpOp}(h:op≠.In:=by decide)(h2:op≠.NotIn:=by decide):behindInMarks op b=false:=by
 have e1:(op==CmpOp.In)=false:=by cases op<;>first|rfl|exact absurd rfl h
 have e2:(op==CmpOp.NotIn)=false:=by cases op<;>first|rfl|exact absurd rfl h2
 cases b<;>simp[behindInMarks,e1,e2]
theorem Jh{op:CmpOp}{r:R2}(ho:OpR X (compareOp op) r)(ha:PE X a ta)(hb:PE X b tb)(hm:behindInMarks op b=false):PE X (.Compare a [op] [b] pos) (tOp r ta tb):=by
 intro pins s σ H Q I h
 exact wpAny_Compare1 (Zn8 ha hb I h fun v u s2 x y H2 I2 rx ry q=>ho pins s2 σ H2 x y v u Q I2 rx ry q) hm
noncomputable def Zl2(t:TE):TT:=fun σ H Q=>t σ H fun x H'=>∃k,x=.bl k/\Q k H'
theorem Zx{op:CmpOp}{r:R2}(ho:OpR X (compareOp op) r)(ha:PE X a ta)(hb:PE X b tb)(hm:behindInMarks op b=false):PT X (.Compare a [op] [b] pos) (Zl2 (tOp r ta tb)):=by
 intro pins s σ H Q I h
 refine wpAny_isTrue_Compare1 (thn (ha pins s σ H _ I h) fun v s1 ⟨x,H1,I1,r1,q1⟩=>thn (hb pins s1 σ H1 _ I1 q1) fun u s2 ⟨y,H2,I2,r2,q2⟩ =>
  thn (ho pins s2 σ H2 x y v u _ I2 r1 r2 q2) fun c s3 ⟨z,H3,I3,r3,k,e,q3⟩=>?_) hm
 subst e
 cases r3
 exact wpAny_truthy_bool ⟨H3,I3,q3⟩
theorem ZaO:(sizeLine:Nat)<2^63:=by rw[sizeLine_eq];decide
theorem UJ{x:V}{us:List Value}(r:ZU [x] us):∃u,us=[u]/\J2 x u:=by
 cases r with
 |cons r1 r2=>cases r2;exact⟨_,rfl,r1⟩
theorem Zls{x y:V}{us:List Value}(r:ZU [x,y] us):∃u w',us=[u,w']/\J2 x u/\J2 y w':=by
 cases r with
 |cons r1 r2 =>
  cases r2 with
  |cons r3 r4=>cases r4;exact⟨_,_,rfl,r1,r3⟩
theorem ZhB:Vs X (.type "int") (fun xs H Q=>(∃i,xs=[.int i]/\Q (.int i) H)\/∃k,xs=[.bl k]/\Q (.int (if k then 1 else 0)) H):=by
 intro pins s σ H xs us Q I r h
 rcases h with ⟨i,rfl,q⟩|⟨k,rfl,q⟩
 ·obtain⟨u,rfl,t,rfl⟩:=UJ r
  exact call_int_int ⟨.int i,H,I,⟨_,rfl⟩,q⟩
 ·obtain⟨u,rfl,r1⟩:=UJ r
  cases r1
  exact call_int_bool ⟨.int (if k then 1 else 0),H,I.tok _,⟨_,rfl⟩,q⟩
theorem ZcF:Vs X (.type "str") (fun xs H Q=>∃i,xs=[.int i]/\i.natAbs.log2<1920/\Q (.str (toString i)) H):=by
 intro pins s σ H xs us Q I r h
 obtain⟨i,rfl,hz,q⟩:=h
 obtain⟨u,rfl,t,rfl⟩:=UJ r
 exact PySem.P.str_of_int hz ⟨.str _,H,I.tok _,⟨_,rfl⟩,q⟩
end
structure ZoD(h:Heap)(x dx C:Addr)(mA:Str->Option Value):Prop where
 obj:h.get? x=some (PySem.W.instObj C dx)
 ns:h.Ns1 dx mA
 ne:dx≠x
theorem ZgT{h:Heap}{dx:Addr}{mA:Str->Option Value}(n:h.Ns1 dx mA):∃od,h.get? dx=some od/\∀name,PySem.W.lookIn name od=some (mA name):=by
 obtain⟨o,es,ep,ho,hd,hk,_,hm⟩:=n
 refine⟨o,ho,fun name=>?_⟩
 have e:=hm name
 unfold nsFind findBy at e
 rw[<- Array.find?_toList] at e
 unfold PySem.W.lookIn
 rw[hd]
 dsimp only
 split
 ·rename_i y q
  rw[q] at e
  exact congrArg some e
 ·rename_i q
  rw[q] at e
  have a:es.toList.any (·.refKey)=false:=by
   rw[List.any_eq_false]
   intro y hy
   obtain⟨z,t,hkey⟩:=hk y (Array.mem_toList_iff.mp hy)
   simp[DictEntry.refKey,hkey]
  have a':¬es.toList.any (·.refKey)=true:=by rw[a];exact Bool.false_ne_true
  rw[if_neg a']
  exact congrArg some e
section
end
theorem ZhS.some_of{v:V}{o:Option Value}(r:ZhS (some v) o):∃u,o=some u/\J2 v u:=by
 cases o with
 |none=>exact(show False from r).elim
 |some u=>exact⟨u,rfl,r⟩
section
end
structure Cls(K:PySem.W.Frag)(C:Addr):Prop where
 pg:PySem.W.plainGet K C Str.empty=true
 hd:PySem.W.hasDictIn K C=true
 po:PySem.W.plainOver K C=true
 sa:PySem.W.findIn K (.ref C) "__setattr__"=some (some (.builtin "object.__setattr__"))
section
end
structure Q2(k:Nat)(A:Around):Prop where
 hd:A.handled=none
 dp:A.depth+3*k+5<recursionLimit
 un:A.units+16*k+200<cLine
theorem Q2.mono{j k:Nat}{A:Around}(r:Q2 k A)(h:j<=k):Q2 j A:=⟨r.hd,by have:=r.dp;lia,by have:=r.un;lia⟩
theorem Q2.deeper{k:Nat}{A:Around}(r:Q2 (k+1) A)(env:Env):Q2 k (A.deeper env):=
 ⟨r.hd,by have:=r.dp;show A.depth+1+3*k+5<_;lia,by have:=r.un;show A.units+3+16*k+200<_;lia⟩
theorem Q2.depth{k:Nat}{A:Around}(r:Q2 k A):A.depth<recursionLimit:=by have:=r.dp;lia
theorem Q2.units{k:Nat}{A:Around}(r:Q2 k A):A.units+64<cLine:=by have:=r.un;lia
noncomputable def Zf9:TA:=fun _ H Q=>Q [] H
noncomputable def Q6(ta:TE)(tr:TA):TA:=fun σ H Q=>ta σ H fun x H1=>tr σ H1 fun xs H2=>Q (x::xs) H2
section
variable {X:Cx}{e:Expr}{es:List Expr}{te:TE}{t:TA}{pos:Pos}
theorem Zg:PA X [] Zf9:=fun _ _ _ _ H Q I h=>Calls.spliced_nil ⟨[],H,I,.nil,h⟩
theorem Za(ha:PE X e te)(hr:PA X es t)(hs:starEach (e::es) X.env=(false,eval e X.env)::starEach es X.env:=by rfl):PA X (e::es) (Q6 te t):=by
 intro pos pins s σ H Q I h
 rw[hs]
 show wpAny _ _ (spliced ((false,eval e X.env)::backTo pos (starEach es X.env))) _ _ s
 refine Calls.spliced_cons (thn (ha pins s σ H _ I h) fun u s1 ⟨x,H1,I1,r1,q1⟩=>?_)
 exact thn (hr pos pins s1 σ H1 _ I1 q1) fun us s2 ⟨xs,H2,I2,r2,q2⟩=>⟨x::xs,H2,I2,.cons r1 r2,q2⟩
noncomputable def Znb(t:TA):TE:=fun σ H Q=>t σ H fun xs H1=>xs.length<=sizeLine/\∀p,H1 p=none->Q (.ref p) (upd H1 p (.tup xs))
noncomputable def ZmJ(t:TA):TE:=fun σ H Q=>t σ H fun xs H1=>xs.length<=sizeLine/\∀p,H1 p=none->Q (.ref p) (upd H1 p (.lst xs))
theorem VP{x1}(h:PA X es t):PE X (.Tuple es x1 pos) (Znb t):=by
 intro pins s σ H Q I hq
 refine wpAny_Tuple_spliced (thn (h pos pins s σ H _ I hq) fun us s1 ⟨xs,H1,I1,r,z,q⟩=>⟨by rw[<- r.length];exact z, ?_⟩)
 have hf:H1 s1.heap.objs.size=none:=I1.hok.fresh (Zxi _)
 refine⟨.ref s1.heap.objs.size,upd H1 s1.heap.objs.size (.tup xs),I1.laid (t':=s1.toks) (fun b u e=>Heap.get?_push_of_some _ e) (Zxi _) ?_,rfl,q _ hf⟩
 exact⟨z,us,r,⟨_,Heap.get?_push_size _ rfl,rfl,_,rfl⟩⟩
theorem VQ(h:PA X es t):PE X (.List es pos) (ZmJ t):=by
 intro pins s σ H Q I hq
 refine wpAny_List_spliced (thn (h pos pins s σ H _ I hq) fun us s1 ⟨xs,H1,I1,r,z,q⟩=>⟨by rw[<- r.length];exact z, ?_⟩)
 have hf:H1 s1.heap.objs.size=none:=I1.hok.fresh (Zxi _)
 refine⟨.ref s1.heap.objs.size,upd H1 s1.heap.objs.size (.lst xs),I1.laid (t':=s1.toks) (fun b u e=>Heap.get?_push_of_some _ e) (Zxi _) ?_,rfl,q _ hf⟩
 exact⟨z,us,0,r,Heap.get?_push_size _ rfl⟩
end
noncomputable abbrev Sp:=List V->Hp->VK->XK->Prop
noncomputable abbrev CXT:=List Env->Hp->Shared->XK->Value->Shared->Prop
structure ZmG(P:Program)(w:World)(K:PySem.W.Frag)(mg:Str->Option Value)(base:Heap)(A:Around)(outer:List Env)(s:Shared)(H:Hp):Prop where
 frames:A.frames=some outer
 mod:Mod K mg base
 bs:∀b o,base.get? b=some o->s.heap.get? b=some o/\H b=none
 bsz:base.objs.size<=s.heap.objs.size
 funs:s.heap.FunFrames base outer
 frf:∀b∈frs outer,H b=none
 hok:HOk P w H s.heap
 bare:AllBare s.gens
def CE(outer:List Env)(P:Program)(w:World)(H:Hp)(s:Shared)(Q:VK)(u:Value)(s':Shared):Prop:=
 ∃v H',s'.os=s.os/\AllBare s'.gens/\Un (frs outer) [] H H' s.heap s'.heap/\HOk P w H' s'.heap/\J2 v u/\Q v H'
def CR(CX:CXT)(outer:List Env)(P:Program)(w:World)(H:Hp)(s:Shared)(Q:VK)(E:XK)(r:Result)(s':Shared):Prop:=
 match r with
 |.ok (.ret u)=>CE outer P w H s Q u s'
 |.ok _=>False
 |.error e=>CX outer H s E e s'
structure Jv(P:Program)(w:World)(K:PySem.W.Frag)(mg:Str->Option Value)(base:Heap)(CX:CXT)(k:Nat)(f:Addr)(fd:FuncData)(ps:List Str)(sp:Sp):Prop where
 len:∀vs H Q E,sp vs H Q E->vs.length=ps.length
 run:∀(A:Around) (outer:List Env) (s:Shared) (H:Hp) (args:Args) (us:List Value) (vs:List V) (Q:VK) (E:XK),Q2 k A->ZmG P w K mg base A outer s H->BindsTo s fd args (ps.zip us)->ZU vs us->sp vs H Q E ->
  codeAny (model P w) A (.call (.ref f) args) (CR CX outer P w H s Q E) s
section
variable {X:Cx}{pins:List (Addr×Obj)}{σ:St}{H:Hp}{s s':Shared}
theorem Inv.env0(I:Inv X pins σ H s):ZmG X.prog X.w X.K X.mg X.base X.A X.stack s H:=
 ⟨I.ok.frames,I.ok.mod,I.bs,Zx2 I.ok.bsz I.sz,I.stack,I.stkFree,I.hok,I.bare⟩
theorem Inv.after{Q:VK}{u:Value}(I:Inv X pins σ H s)(h:CE X.stack X.prog X.w H s Q u s'):EP X pins σ Q u s':=by
 obtain⟨v,H',os,bare,un,hok,r,q⟩:=h
 obtain⟨hh,g,d,t,os'⟩:=s'
 obtain rfl:os'=s.os:=os
 exact⟨v,H',I.call (h':=hh) (g':=g) (d':=d) (t':=t) (ch:=[]) un hok bare (fun b z=>absurd z (by simp)),r,q⟩
end
noncomputable def Zl9(sp:Sp)(dvs:List V)(E:XK)(t:TA):TE:=fun σ H Q=>t σ H fun vs H1=>sp (vs++dvs) H1 Q E
def ZbL(K:W.Frag)(fd:FuncData)(ps:List Str)(ds:List Value):Prop:=
 ∀(s:Shared) (us:List Value),K.In s.heap->(us++ds).length=ps.length->BindsTo s fd ⟨us,[]⟩ (ps.zip (us++ds))
theorem ZbL.all{K:W.Frag}{fd:FuncData}{ps:List Str}(h:∀us:List Value,us.length=ps.length->bindArgs fd ⟨us,[]⟩=pure (ps.zip us)):ZbL K fd ps []:=fun s us _ hl=>by
 rw[ZxA] at hl ⊢
 exact .of_eq (h us hl)
def ZeH(CX:CXT)(X:Cx)(E:XK):Prop:=∀(pins:List (Addr×Obj)) (σ:St) (H:Hp) (s:Shared) (e:Value) (s':Shared),Inv X pins σ H s->CX X.stack H s E e s'->X.xe e s'
section
variable {X:Cx}{CX:CXT}{k:Nat}{f:Addr}{fd:FuncData}{ps:List Str}{sp:Sp}{dvs:List V}{ds:List Value}{E:XK}{x:Str}{p pos:Pos}{e:Expr}{es:List Expr}{t:TA}
theorem Zjo{pins:List (Addr×Obj)}{σ:St}{H:Hp}{s:Shared}{Q:VK}{us:List Value}{vs:List V}(F:Jv X.prog X.w X.K X.mg X.base CX k f fd ps sp)(hr:Q2 k X.A)(hb:ZbL X.K fd ps ds)(hd:ZU dvs ds)(hx:ZeH CX X E)(I:Inv X pins σ H s)(r:ZU vs us)(h:sp (vs++dvs) H Q E):wpAny (model X.prog X.w) X.A (call (.ref f) us) (EP X pins σ Q) X.xe s:=by
 have r2:ZU (vs++dvs) (us++ds):=r.append hd
 have hl:(us++ds).length=ps.length:=by rw[<- r2.length];exact F.len _ _ _ _ h
 refine wpAny_call (codeAny_mono (F.run X.A X.stack s H ⟨us,[]⟩ (us++ds) (vs++dvs) Q E hr I.env0 (hb s us I.kIn hl) r2 h) fun r s' hq=>?_)
 cases r with
 |error e=>exact hx pins σ H s e s' I hq
 |ok fl =>
  cases fl with
  |ret u=>exact I.after hq
  |next=>exact False.elim hq
  |brk=>exact False.elim hq
  |cont=>exact False.elim hq
theorem Zkd(F:Jv X.prog X.w X.K X.mg X.base CX k f fd ps sp)(hr:Q2 k X.A)(hg:Gl X x)(hm:X.mg x=some (.ref f))(hk:PySem.W.keepIn X.K (.ref f)=true)(hb:ZbL X.K fd ps ds)(hd:ZU dvs ds)(hx:ZeH CX X E)(ha:PA X (e::es) t)(hdb:(x==("__debug__":Str))=false:=by decide)(he:starEach (e::es) X.env=(false,eval e X.env)::starEach es X.env:=by rfl)(hpl:(backTo pos (starEach es X.env)).any (·.1)=false:=by rfl) :
  PE X (.Call (.Name x p) (e::es) [] pos) (Zl9 sp dvs E t):=by
 intro pins s σ H Q I h
 refine wpAny_Call_Name_kw (VV I hg hm ?_ hdb)
 refine PySem.W.callWith_K (h₀:=X.base) I.ok.mod.kin hk (thn (ha pos pins s σ H _ I h) fun us s1 ⟨vs,H1,I1,r,q⟩=>⟨I1.kIn, ?_⟩) he hpl
 exact Zjo F hr hb hd hx I1 r q
theorem Zil(F:Jv X.prog X.w X.K X.mg X.base CX k f fd ps sp)(hr:Q2 k X.A)(hg:Gl X x)(hm:X.mg x=some (.ref f))(hk:PySem.W.keepIn X.K (.ref f)=true)(hb:ZbL X.K fd ps ds)(hd:ZU dvs ds)(hx:ZeH CX X E)(hdb:(x==("__debug__":Str))=false:=by decide):PE X (.Call (.Name x p) [] [] pos) (Zl9 sp dvs E Zf9):=by
 intro pins s σ H Q I h
 refine wpAny_Call_Name_kw (VV I hg hm ?_ hdb)
 exact PySem.W.callWith_K0 I.kIn hk (Zjo (us:=[]) F hr hb hd hx I .nil h)
end
structure Zr(N P:List Str)(sc:Scope):Prop where
 kind:sc.kind=.function
 co:sc.isCoroutine=false
 gen:sc.isGenerator=false
 nd:N.Nodup
 pre:N.take P.length=P
 par:∀x∈P,sc.names.lookup x=some .local\/sc.names.lookup x=some .cell
 nofree:∀y∈sc.names,y.2≠.free
theorem ZcK{kindOf:Str->Option NameKind}{x:Str}:∀{binds:List (Str×Value)}{m:Str->Option Value},(∀v,(x,v) ∉ binds)->bindL kindOf binds m x=m x
 |[],_,_=>rfl
 |(n,v)::r,m,h=>by
  unfold bindL
  rw[ZcK fun w hw=>h w (Zxs _ hw)]
  split
  ·have:x≠n:=by rintro rfl;exact h v ZxH
   simp[this]
  ·rfl
theorem ZcM{kindOf:Str->Option NameKind}{x:Str}:∀{binds:List (Str×Value)}{m:Str->Option Value},(∀v,(x,v) ∉ binds)->bindC kindOf binds m x=m x
 |[],_,_=>rfl
 |(n,v)::r,m,h=>by
  unfold bindC
  rw[ZcM fun w hw=>h w (Zxs _ hw)]
  split
  ·rfl
  ·have:x≠n:=by rintro rfl;exact h v ZxH
   simp[this]
theorem ZcL{kindOf:Str->Option NameKind}{x:Str}{v:Value}:∀{P:List Str}{vs:List Value}{i:Nat}{m:Str->Option Value},P.Nodup->P[i]?=some x->vs[i]?=some v->kindOf x=some .local ->
  bindL kindOf (P.zip vs) m x=some v
 |[],_,_,_,_,h,_,_=>by simp at h
 |_::_,[],_,_,_,_,h,_=>by simp at h
 |p::P,w::vs,0,m,nd,h1,h2,hk=>by
  simp at h1 h2;subst h1;subst h2
  show bindL kindOf ((p,w)::P.zip vs) m p=_
  unfold bindL
  rw[ZcK fun v hv=>(Zyy.mp nd).1 (Zyz hv).1,if_pos hk]
  simp
 |p::P,w::vs,i+1,m,nd,h1,h2,hk=>by
  show bindL kindOf ((p,w)::P.zip vs) m x=_
  unfold bindL
  exact ZcL (i:=i) (Zyy.mp nd).2 (by simpa using h1) (by simpa using h2) hk
theorem ZcN{kindOf:Str->Option NameKind}{x:Str}{v:Value}:∀{P:List Str}{vs:List Value}{i:Nat}{m:Str->Option Value},P.Nodup->P[i]?=some x->vs[i]?=some v->kindOf x≠some .local ->
  bindC kindOf (P.zip vs) m x=some v
 |[],_,_,_,_,h,_,_=>by simp at h
 |_::_,[],_,_,_,_,h,_=>by simp at h
 |p::P,w::vs,0,m,nd,h1,h2,hk=>by
  simp at h1 h2;subst h1;subst h2
  show bindC kindOf ((p,w)::P.zip vs) m p=_
  unfold bindC
  rw[ZcM fun v hv=>(Zyy.mp nd).1 (Zyz hv).1,if_neg hk]
  simp
 |p::P,w::vs,i+1,m,nd,h1,h2,hk=>by
  show bindC kindOf ((p,w)::P.zip vs) m x=_
  unfold bindC
  exact ZcN (i:=i) (Zyy.mp nd).2 (by simpa using h1) (by simpa using h2) hk
noncomputable def Q8(N:List Str)(vs:List V):St:=vs.map some++List.replicate (N.length-vs.length) none
noncomputable def ZcP(CX:CXT)(P:Program)(w:World)(K:W.Frag)(mg:Str->Option Value)(base:Heap)(N:List Str)(qual:Str)(scope:Scope)(f:Addr)(cd:Value)(A:Around)(outer:List Env)(s:Shared)(H:Hp)(E:XK):Cx where
 prog:=P
 w:=w
 K:=K
 mg:=mg
 base:=base
 A:=A.deeper (envOfC qual scope s.heap.objs.size f cd)
 N:=N
 s₀:=s
 H₀:=H
 env:=envOfC qual scope s.heap.objs.size f cd
 outer:=outer
 stack:=envOfC qual scope s.heap.objs.size f cd::outer
 ex:=[]
 calm:=true
 fn:=fun _=>true
 pn:=[]
 xe:=fun e s'=>wpAny (model P w) (A.deeper (envOfC qual scope s.heap.objs.size f cd)) (leaving (envOfC qual scope s.heap.objs.size f cd) e) (fun _ s''=>CX outer H s E e s'') (fun e' s''=>CX outer H s E e' s'') s'
theorem ZeE{sc:Scope}{n:Nat}{x:Str}(h:sc.names.lookup x=some .cell):∃c,(cellsFrom n sc.names []).lookup x=some c:=by
 have q:=PySem.W.cellsFrom_some sc.names n [] (.inl h)
 exact Option.isSome_iff_exists.mp q
theorem Zhg{CX:CXT}{P:Program}{w:World}{K:W.Frag}{mg:Str->Option Value}{base:Heap}{N ps:List Str}{qual:Str}{scope:Scope}{f:Addr}{cd:Value}{A:Around}{outer:List Env}{s s1:Shared}{H:Hp}{E:XK}{us:List Value}{vs:List V}(S:Zr N ps scope)(hd:A.handled=none)(e0:ZmG P w K mg base A outer s H)(hl:vs.length=ps.length)(r:ZU vs us)(x:InCallC s s.heap.objs.size (bindL (envOfC qual scope s.heap.objs.size f cd).kindOf (ps.zip us) fun _=>none) (cellsFrom (s.heap.objs.size+1) scope.names []) (bindC (envOfC qual scope s.heap.objs.size f cd).kindOf (ps.zip us) fun _=>none) s1) :
  Inv (ZcP CX P w K mg base N qual scope f cd A outer s H E) [] (Q8 N vs) H s1:=by
 have hpl:ps.length<=N.length:=by have:=congrArg List.length S.pre;rw[ZxK] at this;lia
 obtain⟨h1,tk,rfl,hk⟩:=x.done
 have noA:∀b:Addr,b ∉ (ZcP CX P w K mg base N qual scope f cd A outer s H E).ex:=fun b z=>absurd (show b∈([]:List Addr) from z) (by simp)
 refine⟨⟨e0.mod,S.kind,rfl,rfl,Zxi _,fun y z c h1 h2=>?_,fun y hy=>?_,fun y c _ h=>?_,fun _=>hd,Around.frames_deeper e0.frames,.inr ⟨rfl,rfl⟩,fun b z=>absurd z (noA b),e0.bs,e0.bsz,fun b _ _=>noA b,fun b z=>absurd z (noA b),e0.funs,e0.frf⟩,
  rfl,e0.bare,Un.kept hk,⟨_,x.toInCall.ns,fun i y v h1 h2 h3=>?_⟩,fun y c h=>⟨_,x.cell y c h⟩,e0.hok.fresh (Zxi _),fun y c h=>?_,fun p hp=>absurd (show p∈([]:List (Addr×Obj)) from hp) (by simp),e0.hok.kept hk, ?_⟩
 ·exact name_of_addr x.apart (PySem.mem_of_lookup h1) (PySem.mem_of_lookup h2)
 ·have hy:scope.names.lookup y=some .cell\/scope.names.lookup y=some .free:=hy
  rcases hy with hy|hy
  ·exact ZeE hy
  ·exact absurd rfl (S.nofree _ (PySem.mem_of_lookup hy))
 ·exact Nat.le_of_lt (x.above y c (PySem.mem_of_lookup h))
 ·have hi:i<vs.length:=by
   unfold Q8 at h2
   by_cases hi:i<vs.length
   ·exact hi
   ·rw[Zxn (by simpa using hi)] at h2
    rw[Zyc] at h2
    split at h2<;>cases h2
  have ha:vs[i]?=some v:=by
   unfold Q8 at h2
   rw[Zxk (by simpa using hi),Zxm] at h2
   cases e:vs[i]? with
   |none=>rw[e] at h2;cases h2
   |some a=>rw[e] at h2;cases h2;rfl
  obtain⟨u,hu,rv⟩:=r.get ha
  have hp:ps[i]?=some y:=by
   rw[<- S.pre,ZxO (by lia)];exact h1
  have ndP:ps.Nodup:=by rw[<- S.pre];exact S.nd.sublist (List.take_sublist _ _)
  refine⟨u,rv, ?_⟩
  rcases S.par y (Zx3 hp) with k|k
  ·exact .inl ⟨k,ZcL ndP hp hu k⟩
  ·obtain⟨c,e⟩:=ZeE (n:=s.heap.objs.size+1) k
   refine .inr ⟨.inl k,c,e, ?_⟩
   have q:=x.cell y c e
   rw[ZcN ndP hp hu (by show scope.names.lookup y≠_;rw[k];decide)] at q
   exact q
 ·exact e0.hok.fresh (Nat.le_of_lt (x.above y c (PySem.mem_of_lookup h)))
 ·unfold Q8
  show _=N.length
  rw[Zxq,Zxc,Zyo]
  lia
theorem Zmx{CX:CXT}{P:Program}{w:World}{K:W.Frag}{mg:Str->Option Value}{base:Heap}{k:Nat}{f:Addr}{name qual:Str}{params:Arguments}{body:List Stmt}{scope:Scope}{dV kV doc pm cdv ct oc:Value}{an od:Option Addr}{osl:Array (Option Value)}{N ps:List Str}{sp:Sp}(lk:K.lookup f=some ⟨oc,od,.func (PySem.W.fnOf name qual params body scope dV kV doc pm an cdv ct),osl⟩)(hcd:PySem.W.codeIn K cdv qual=true)(S:Zr N ps scope)(len:∀vs H Q E,sp vs H Q E->vs.length=ps.length)(hbody:∀(A:Around) (outer:List Env) (s:Shared) (H:Hp) (vs:List V) (Q:VK) (E:XK),Q2 k (A.deeper (envOfC qual scope s.heap.objs.size f cdv))->sp vs H Q E ->
   ∃t,PSs (ZcP CX P w K mg base N qual scope f cdv A outer s H E) body t/\t { nx:=fun _ H'=>Q .non H',rt:=Q } (Q8 N vs) H) :
  Jv P w K mg base CX (k+1) f (PySem.W.fnOf name qual params body scope dV kV doc pm an cdv ct) ps sp:=by
 refine⟨len,fun A outer s H args us vs Q E hr e0 hb r hsp=>?_⟩
 have hl:=len _ _ _ _ hsp
 have KX:K.In s.heap:=e0.mod.kin.keeps fun b o e=>(e0.bs b o e).1
 have lim:s.heap.NoLimit:=e0.mod.nolimit.keeps fun b o e=>(e0.bs b o e).1
 have hkind:∀y∈ps.zip us,scope.names.lookup y.1=some .local\/(scope.names.lookup y.1=some .cell/\((cellsFrom (s.heap.objs.size+1) scope.names []).lookup y.1).isSome=true):=fun⟨n,v⟩ hy=>by
  rcases S.par n (Zyz hy).1 with q|q
  ·exact .inl q
  ·exact .inr ⟨q,PySem.W.cellsFrom_some _ _ _ (.inl q)⟩
 refine codeAny_call_function hr.depth (KX _ _ lk) rfl S.co S.gen rfl (PySem.W.codeRec_of KX hcd) (hb _ _ _ _ ?_)
 refine wpAny_newFunctionEnv_cells S.kind hkind fun env he s1 x=>?_
 subst he
 refine⟨lim.keeps x.toInCall.keep,codeAny_func ?_⟩
 obtain⟨t,ht,hq⟩:=hbody A outer s H vs Q E (hr.deeper _) hsp
 have I:Inv (ZcP CX P w K mg base N qual scope f cdv A outer s H E) [] (Q8 N vs) H s1:=Zhg S hr.hd e0 hl r x
 refine wpAny_mono (ht [] s1 (Q8 N vs) H _ I hq) (fun fl s' hs=>?_) fun e s' hs=>hs
 have fin:∀{σ':St}{H':Hp}{v:V}{u:Value},Inv (ZcP CX P w K mg base N qual scope f cdv A outer s H E) [] σ' H' s'->J2 v u->Q v H'->CE outer P w H s Q u s':=
  fun {σ' H' v u} J rv q=>⟨v,H',J.os,J.bare,J.base,J.hok,rv,q⟩
 cases fl with
 |ret u =>
  obtain⟨v,σ',H',J,rv,q⟩:=hs
  exact fin J rv q
 |next =>
  obtain⟨σ',H',J,q⟩:=hs
  exact fin (v:=V.non) (u:=Value.none) J rfl q
 |brk =>
  obtain⟨_,_,_,q⟩:=hs
  exact False.elim q
 |cont =>
  obtain⟨_,_,_,q⟩:=hs
  exact False.elim q
section
variable {X:Cx}{x:Str}{p pos:Pos}{e:Expr}{es:List Expr}{t:TA}{id T:String}{r:List V->Hp->VK->Prop}
noncomputable def tCB(r:List V->Hp->VK->Prop)(t:TA):TE:=fun σ H Q=>t σ H fun vs H1=>r vs H1 Q
theorem Zn(hc:Vs X (.builtin id) r)(hg:Gl X x)(hm:X.mg x=none)(hv:bootBuiltins x=some (.builtin id))(ha:PA X (e::es) t)(hn:x ≠ "__name__":=by decide)(hdb:(x==("__debug__":Str))=false:=by decide)(he:starEach (e::es) X.env=(false,eval e X.env)::starEach es X.env:=by rfl)(hpl:(backTo pos (starEach es X.env)).any (·.1)=false:=by rfl):PE X (.Call (.Name x p) (e::es) [] pos) (tCB r t):=by
 intro pins s σ H Q I h
 refine wpAny_Call_Name_kw (Zcx I hg hm hv ?_ hn hdb)
 exact PyProof.Rows.callWith_builtin1 (thn (ha pos pins s σ H _ I h) fun us s1 ⟨vs,H1,I1,r1,q1⟩=>hc pins s1 σ H1 vs us Q I1 r1 q1) he hpl
theorem J0(hc:Vs X (.type T) r)(hg:Gl X x)(hm:X.mg x=none)(hv:bootBuiltins x=some (.type T))(ha:PA X (e::es) t)(hn:x ≠ "__name__":=by decide)(hdb:(x==("__debug__":Str))=false:=by decide)(he:starEach (e::es) X.env=(false,eval e X.env)::starEach es X.env:=by rfl)(hpl:(backTo pos (starEach es X.env)).any (·.1)=false:=by rfl):PE X (.Call (.Name x p) (e::es) [] pos) (tCB r t):=by
 intro pins s σ H Q I h
 refine wpAny_Call_Name_kw (Zcx I hg hm hv ?_ hn hdb)
 exact PyProof.Rows.callWith_type1 (thn (ha pos pins s σ H _ I h) fun us s1 ⟨vs,H1,I1,r1,q1⟩=>hc pins s1 σ H1 vs us Q I1 r1 q1) he hpl
end
end L2
namespace HT
open PySem PyProof.Rows
noncomputable def Ji:List Int->List Int->Bool
 |[],[]=>false
 |[],_::_=>true
 |_::_,[]=>false
 |x::xs,y::ys=>if x=y then Ji xs ys else decide (x<y)
theorem Um(x y:Int)(xs ys:List Int):Ji (x::xs) (y::ys)=if x=y then Ji xs ys else decide (x<y):=rfl
theorem Zby:Ji [] []=false:=rfl
theorem Za0(y:Int)(ys:List Int):Ji [] (y::ys)=true:=rfl
theorem Za1(x:Int)(xs:List Int):Ji (x::xs) []=false:=rfl
theorem Ze4(A:Around)(s:Shared)(a:Int)(t:Tok)(c:Int)(u:Tok):∃e,SeqAt.EqAt A s (.int a t) (.int c u) e/\(e=true ↔ a=c):=
 ⟨(a==c),SeqAt.EqAt.int_int a t c u,by simp⟩
theorem ZdW(A:Around)(s:Shared)(a:Int)(t:Tok)(c:Int)(u:Tok)(prog:Program)(w:World)(E:Value->Shared->Prop)(Q:Value->Shared->Prop)(h:Q (.bool (decide (a<c))) s) :
  wpAny (model prog w) A (richCompare .Lt (.int a t) (.int c u)) Q E s:=
 (PyProof.Rows.lt_int h:wpAny (model prog w) A (compareOp .Lt (.int a t) (.int c u)) Q E s)
section
open PySem.SeqAt
open PySem.AutoSeq1 (wpAny_loadPart')
open PySem.MeetsSeq PySem.MeetsSeq2 PySem.MeetsSeq3
end
section
noncomputable def sIx(n d:Nat):Option Int->Nat
 |none=>d
 |some v=>if v<0 then (v+(n:Int)).toNat else min v.toNat n
end
end HT
namespace L2
open PySem PySem.Spec PyProof.Rows
noncomputable abbrev TO:=St->Hp->(Option Int->Hp->Prop)->Prop
def PO(X:Cx)(e:Option Expr)(t:TO):Prop:=
 ∀(pins:List (Addr×Obj)) (s:Shared) (σ:St) (H:Hp) (Q:Option Int->Hp->Prop),Inv X pins σ H s->t σ H Q ->
  wpAny (model X.prog X.w) X.A (evalPart e X.env) (fun u s'=>∃o H',Inv X pins σ H' s'/\IsPart u o/\Q o H') X.xe s
noncomputable def ZfT:TO:=fun _ H Q=>Q none H
noncomputable def Zl3(t:TE):TO:=fun σ H Q=>t σ H fun x H1=>∃i,x=.int i/\Q (some i) H1
theorem Ve{ns:List Int}:∀{us:List Value},ZU (ns.map V.int) us->IntsAre us ns:=by
 induction ns with
 |nil=>intro us r;rw[ZxT] at r;cases r;exact .nil
 |cons n ns ih =>
  intro us r
  rw[Zxf] at r
  cases r with
  |cons r1 r2 =>
   obtain⟨t,e⟩:=r1
   subst e
   exact .cons n t (ih r2)
section
variable {X:Cx}{e:Expr}{te:TE}{lo hi:Option Expr}{tl th:TO}{pos p2:Pos}
theorem Vl:PO X none ZfT:=by
 intro pins s σ H Q I h
 rw[evalPart_none]
 exact wpAny_pure ⟨none,H,I,.none,h⟩
theorem Vk(h:PE X e te):PO X (some e) (Zl3 te):=by
 intro pins s σ H Q I hw
 rw[evalPart_some]
 refine thn (h pins s σ H _ I hw) fun u s1 ⟨x,H1,I1,r1,q1⟩=>?_
 obtain⟨i,rfl,q⟩:=q1
 obtain⟨t,rfl⟩:=r1
 exact⟨some i,H1,I1,.int i t,q⟩
def SlR(X:Cx)(r:V->Option Int->Option Int->Hp->VK->Prop):Prop:=
 ∀(pins:List (Addr×Obj)) (s:Shared) (σ:St) (H:Hp) (x:V) (v vl vu:Value) (lo hi:Option Int) (sl:Addr) (Q:VK),Inv X pins σ H s->J2 x v->s.heap.IsSliceOf sl vl vu .none->IsPart vl lo->IsPart vu hi->r x lo hi H Q ->
  ∃T id,typeLookup (.type T) "__getitem__"=pure (some (.builtin id))/\s.TypeIs v T/\wpAny (model X.prog X.w) X.A (getItem v (.ref sl)) (EP X pins σ Q) X.xe s
noncomputable def tSl(r:V->Option Int->Option Int->Hp->VK->Prop)(te:TE)(tl th:TO):TE:=fun σ H Q=>te σ H fun x H1=>tl σ H1 fun l H2=>th σ H2 fun u H3=>r x l u H3 Q
theorem Jz{r:V->Option Int->Option Int->Hp->VK->Prop}(hr:SlR X r)(he:PE X e te)(hl:PO X lo tl)(hu:PO X hi th):PE X (.Subscript e (.Slice lo hi none p2) pos) (tSl r te tl th):=by
 intro pins s σ H Q I h
 refine Subscript_ (thn (he pins s σ H _ I h) fun v s1 ⟨x,H1,I1,r1,q1⟩=>?_)
 refine wpAny_Slice (thn (hl pins s1 σ H1 _ I1 q1) fun vl s2 ⟨l,H2,I2,pl,q2⟩=>thn (hu pins s2 σ H2 _ I2 q2) fun vu s3 ⟨u,H3,I3,pu,q3⟩=>?_)
 rw[evalPart_none]
 refine wpAny_pure ?_
 have I4:Inv X pins σ H3 { s3 with heap:=s3.heap.push { cls:=.type "slice",data:=.fields #[vl,vu,.none] } }:=I3.kept (t':=s3.toks) fun b ob q=>Heap.get?_push_of_some _ q
 obtain⟨T,id,hT,ht,hg⟩:=hr pins { s3 with heap:=s3.heap.push { cls:=.type "slice",data:=.fields #[vl,vu,.none] } } σ H3 x v vl vu l u s3.heap.objs.size Q I4 r1 (Heap.IsSliceOf.new ..) pl pu q3
 show wpAny (model X.prog X.w) X.A (subscriptTail e (.Slice lo hi none p2) v (.ref s3.heap.objs.size)) (EP X pins σ Q) X.xe { s3 with heap:=s3.heap.push { cls:=.type "slice",data:=.fields #[vl,vu,.none] } }
 exact tail_any (ops:=[.ref s3.heap.objs.size,v]) ht hT hg (by with_unfolding_all rfl)
noncomputable def Zln(xs:List V)(lo hi:Option Int):List V:=(xs.drop (HT.sIx xs.length 0 lo)).take (HT.sIx xs.length xs.length hi-HT.sIx xs.length 0 lo)
theorem Zd2(xs:List V)(lo hi:Option Int):(Zln xs lo hi).length<=xs.length:=by
 unfold Zln
 rw[ZxK,ZxL]
 lia
end
noncomputable def ixN(n:Nat)(i:Int):Option Nat:=if 0<=i then (if i<n then some i.toNat else none) else if -(n:Int)<=i then some (i+n).toNat else none
noncomputable def atI{α:Type}(xs:List α)(i:Int):Option α:=(ixN xs.length i).bind fun j=>xs[j]?
theorem Zhd{n:Nat}{i:Int}{j:Nat}(h:ixN n i=some j):seqIndex? i n=some j/\j<n/\-(n:Int)<=i/\i<n:=by
 unfold ixN at h
 by_cases h0:0<=i
 ·rw[if_pos h0] at h
  by_cases h1:i<n
  ·rw[if_pos h1] at h
   have e:i.toNat=j:=Option.some.inj h
   exact⟨by rw[seqIndex_of h0 h1,e],by lia,by lia,h1⟩
  ·rw[if_neg h1] at h;cases h
 ·rw[if_neg h0] at h
  by_cases h1:-(n:Int)<=i
  ·rw[if_pos h1] at h
   have e:(i+n).toNat=j:=Option.some.inj h
   exact⟨by rw[seqIndex_neg (by lia) h1,e],by lia,h1,by lia⟩
  ·rw[if_neg h1] at h;cases h
theorem ZdA{α:Type}{xs:List α}{i:Int}{v:α}(h:atI xs i=some v):∃j,seqIndex? i xs.length=some j/\xs[j]?=some v/\j<xs.length/\-(xs.length:Int)<=i/\i<xs.length:=by
 unfold atI at h
 cases e:ixN xs.length i with
 |none=>rw[e] at h;cases h
 |some j =>
  rw[e] at h
  obtain⟨h1,h2,h3,h4⟩:=Zhd e
  exact⟨j,h1,h,h2,h3,h4⟩
def Zlc(b:Expr):Prop:=∀o i,subscripted b false o i=operate [o,i] (getItem o i)
def IxR(X:Cx)(r:R2):Prop:=
 ∀(value slice:Expr) (pins:List (Addr×Obj)) (s:Shared) (σ:St) (H:Hp) (x y:V) (v u:Value) (Q:VK),Inv X pins σ H s->J2 x v->J2 y u->r x y H Q ->
  subscripted slice false v u=operate [v,u] (getItem v u)->wpAny (model X.prog X.w) X.A (subscriptTail value slice v u) (EP X pins σ Q) X.xe s
def MtR(X:Cx)(id:String)(r:V->List V->Hp->VK->Prop):Prop:=
 ∀(pins:List (Addr×Obj)) (s:Shared) (σ:St) (H:Hp) (x:V) (xs:List V) (v:Value) (us:List Value) (Q:VK),Inv X pins σ H s->J2 x v->ZU xs us->r x xs H Q ->
  wpAny (model X.prog X.w) X.A (call (.builtin id) (v::us)) (EP X pins σ Q) X.xe s
section
variable {X:Cx}{a b:Expr}{ta tb:TE}{pos:Pos}
theorem IxR.or{r r':R2}(h:IxR X r)(h':IxR X r'):IxR X (fun x y H Q=>r x y H Q\/r' x y H Q):=by
 intro value slice pins s σ H x y v u Q I rx ry q hs
 rcases q with q|q
 ·exact h value slice pins s σ H x y v u Q I rx ry q hs
 ·exact h' value slice pins s σ H x y v u Q I rx ry q hs
theorem JD{r:R2}(hr:IxR X r)(ha:PE X a ta)(hb:PE X b tb)(hs:Zlc b):PE X (.Subscript a b pos) (tOp r ta tb):=by
 intro pins s σ H Q I h
 exact Subscript_ (Zn8 ha hb I h fun v u s2 x y H2 I2 rx ry q=>hr a b pins s2 σ H2 x y v u Q I2 rx ry q (hs _ _))
noncomputable def ZnW(K:W.Frag):R2:=fun x y H Q=>∃p xs i v,x=.ref p/\y=.int i/\SqL K H p xs/\atI xs i=some v/\Q v H
noncomputable def ZnV(K:W.Frag):R2:=fun x y H Q=>∃p xs i v,x=.ref p/\y=.int i/\SqT K H p xs/\atI xs i=some v/\Q v H
noncomputable def Zng:R2:=fun x y H Q=>∃z i c,x=.str z/\y=.int i/\z.length<=sizeLine/\atI z.cps.toList i=some c/\Q (.str ⟨#[c]⟩) H
theorem Zkx:IxR X (ZnW X.K):=by
 intro value slice pins s σ H x y v u Q I rx ry h hs
 obtain⟨p,xs,i,z,rfl,rfl,hq,he,q⟩:=h
 cases rx
 obtain⟨t,rfl⟩:=ry
 obtain⟨its,r,pl,hz⟩:=I.list hq
 obtain⟨j,h1,h2,h3,h4,h5⟩:=ZdA he
 obtain⟨w,ew,rw'⟩:=r.get h2
 have hl:=r.length
 have hn:=ZaO
 have fin:EP X pins σ Q w s:=⟨z,H,I,rw',q⟩
 by_cases h0:0<=i
 ·have hj:i.toNat=j:=by
   rw[seqIndex_of h0 h5] at h1
   exact Option.some.inj h1
  exact item_listR pl.isList h0 (by lia) (by rw[hj];simpa using ew) fin hs
 ·have hj:(i+(its.toArray.size:Int)).toNat=j:=by
   rw[seqIndex_neg (by lia) h4] at h1
   rw[Zxh,<- hl]
   exact Option.some.inj h1
  exact subscriptTail_builtinR (x:=w) pl.isList.typeIs slot_list_getitem.lookup
   (wpAny_getItem_list_neg (Q:=fun r s'=>r=w/\EP X pins σ Q r s') pl.isList (by lia) (by rw[Zxh]<;>lia) (by lia) (by rw[hj];simpa using ew) ⟨rfl,fin⟩) hs
theorem Zmt:IxR X (ZnV X.K):=by
 intro value slice pins s σ H x y v u Q I rx ry h hs
 obtain⟨p,xs,i,z,rfl,rfl,hq,he,q⟩:=h
 cases rx
 obtain⟨t,rfl⟩:=ry
 obtain⟨its,r,pl,hz⟩:=I.tuple hq
 obtain⟨j,h1,h2,h3,h4,h5⟩:=ZdA he
 obtain⟨w,ew,rw'⟩:=r.get h2
 have hl:=r.length
 have hn:=ZaO
 have fin:EP X pins σ Q w s:=⟨z,H,I,rw',q⟩
 exact subscriptTail_builtinR (x:=w) pl.typeIs slot_tuple_getitem.lookup
  (getItem_tuple (j:=j) (Q:=fun r s'=>r=w/\EP X pins σ Q r s') pl (by lia) (by lia) (by rw[Zxh,<- hl];exact h1) (by simpa using ew) ⟨rfl,fin⟩) hs
theorem Zj6:IxR X Zng:=by
 intro value slice pins s σ H x y v u Q I rx ry h hs
 obtain⟨z,i,c,rfl,rfl,hz,he,q⟩:=h
 obtain⟨t,rfl⟩:=rx
 obtain⟨t',rfl⟩:=ry
 obtain⟨j,h1,h2,h3,h4,h5⟩:=ZdA he
 have hl:z.cps.toList.length=z.length:=by simp[Str.length]
 rw[hl] at h1 h4 h5
 have hn:=ZaO
 exact tail_any (typeIs_str s z t) slot_str_getitem.lookup (getItem_str (c:=c) (by
  have e1:decide (i < -(2^63:Int))=false:=decide_eq_false (by lia)
  have e2:decide (i ≥ 2^63)=false:=decide_eq_false (by lia)
  rw[e1,e2,Bool.or_false]) (by rw[h1];simpa using h2) ⟨.str ⟨#[c]⟩,H,I.tok _,⟨_,rfl⟩,q⟩) hs
noncomputable def rIx(K:W.Frag):R2:=fun x y H Q=>ZnW K x y H Q\/ZnV K x y H Q\/Zng x y H Q
theorem Zmu:IxR X (rIx X.K):=Zkx.or (Zmt.or Zj6)
theorem Zfo(its:List Value)(n j:Nat)(u:Value):Obj.mapSeq (·.setIfInBounds j u) { cls:=.type "list",data:=.seq its.toArray n }={ cls:=.type "list",data:=.seq (its.set j u).toArray n }:=by
 simp[Obj.mapSeq]
theorem Inv.lst{pins:List (Addr×Obj)}{σ:St}{H:Hp}{s:Shared}{p:Addr}{xs:List V}(I:Inv X pins σ H s)(h:H p=some (.lst xs)) :
  ∃(its:List Value) (n:Nat),ZU xs its/\s.heap.get? p=some { cls:=.type "list",data:=.seq its.toArray n }/\xs.length<=sizeLine:=by
 obtain⟨z,its,n,r,e⟩:=I.hok p _ h
 exact⟨its,n,r,e,z⟩
theorem Inv.lstUpd{pins:List (Addr×Obj)}{σ:St}{H:Hp}{s:Shared}{p:Addr}{xs ys:List V}{its its':List Value}{n n':Nat}{f:Obj->Obj}(I:Inv X pins σ H s)(h:H p=some (.lst xs))(ho:s.heap.get? p=some { cls:=.type "list",data:=.seq its.toArray n })(hf:f { cls:=.type "list",data:=.seq its.toArray n }={ cls:=.type "list",data:=.seq its'.toArray n' })(r:ZU ys its')(hz:ys.length<=sizeLine)(t:Nat) :
  Inv X pins σ (upd H p (.lst ys)) { s with heap:=s.heap.update p f,toks:=t }:=by
 have e:(s.heap.update p f).get? p=some { cls:=.type "list",data:=.seq its'.toArray n' }:=by
  rw[Heap.get?_update_self f ho (by rw[hf]<;>rfl),hf]
 refine I.write (x:=p) (e:=p) (by rw[h];trivial) (.inl rfl) (fun b u hb q=>(Heap.get?_update_other _ _ (Ne.symm hb)).trans q) ⟨_,e⟩ ?_
 exact⟨hz,its',n',r,e⟩
def ZlG:V->V->V->Hp->(Hp->Prop)->Prop:=fun o i v H Q=>∃p xs k j,o=.ref p/\i=.int k/\H p=some (.lst xs)/\ixN xs.length k=some j/\Q (upd H p (.lst (xs.set j v)))
theorem UN:Zoo X ZlG:=by
 intro pins s σ H o i v ov iv u Q I ro ri rv h
 obtain⟨p,xs,k,j,rfl,rfl,hp,hj,q⟩:=h
 cases ro
 obtain⟨t,rfl⟩:=ri
 obtain⟨its,n,r,ho,hz⟩:=I.lst hp
 obtain⟨h1,h2,h3,h4⟩:=Zhd hj
 have hl:=r.length
 have hn:=ZaO
 have I':Inv X pins σ (upd H p (.lst (xs.set j v))) { s with heap:=s.heap.update p (Obj.mapSeq (·.setIfInBounds j u)) }:=
  I.lstUpd hp ho (Zfo its n j u) (r.set rv j) (by rw[Zyd];exact hz) s.toks
 by_cases h0:0<=k
 ·have hk:k.toNat=j:=by
   rw[seqIndex_of h0 h4] at h1
   exact Option.some.inj h1
  exact PySem.W.ki_setAt ho h0 (by lia) (by rw[Zxh,<- hl];exact h4) (by rw[hk];exact⟨_,I',q⟩)
 ·have hk:(k+(its.toArray.size:Int)).toNat=j:=by
   rw[seqIndex_neg (by lia) h3] at h1
   rw[Zxh,<- hl]
   exact Option.some.inj h1
  exact PySem.W.ki_setBack ho (by lia) (by rw[Zxh,<- hl];exact h3) (by lia) (by rw[hk];exact⟨_,I',q⟩)
theorem Zcb(lo hi:Option Int)(n:Nat):(sliceBounds lo hi none n).1=((HT.sIx n 0 lo:Nat):Int)/\(sliceBounds lo hi none n).2.1=((HT.sIx n n hi:Nat):Int)/\(sliceBounds lo hi none n).2.2=1:=by
 refine⟨?_, ?_,rfl⟩
 ·cases lo with
  |none=>simp[sliceBounds,HT.sIx]
  |some i =>
   simp only[sliceBounds,HT.sIx,Option.getD_none,show (1:Int)>0 by decide,if_true]
   by_cases h:i<0
   ·simp only[h,if_true]<;>lia
   ·simp only[h,if_false]<;>lia
 ·cases hi with
  |none=>simp[sliceBounds,HT.sIx]
  |some i =>
   simp only[sliceBounds,HT.sIx,Option.getD_none,show (1:Int)>0 by decide,if_true]
   by_cases h:i<0
   ·simp only[h,if_true]<;>lia
   ·simp only[h,if_false]<;>lia
theorem Zbh(its:List Value)(lo hi:Option Int):slicePick its.toArray lo hi none=((its.drop (HT.sIx its.length 0 lo)).take (HT.sIx its.length its.length hi-HT.sIx its.length 0 lo)).toArray:=by
 obtain⟨h1,h2,h3⟩:=Zcb lo hi its.toArray.size
 unfold slicePick
 rw[h1,h2,h3]
 simp only[sliceRange_one,pick_run,Zxh]<;>rfl
def Zne(K:W.Frag):V->Option Int->Option Int->Hp->VK->Prop:=fun x lo hi H Q=>∃a xs,x=.ref a/\SqL K H a xs/\∀p,H p=none->Q (.ref p) (upd H p (.lst (Zln xs lo hi)))
theorem ZjU:SlR X (Zne X.K):=by
 intro pins s σ H x v vl vu lo hi sl Q I rx hs pl pu h
 obtain⟨a,xs,rfl,hx,q⟩:=h
 cases rx
 obtain⟨its,r,ht,hz⟩:=I.list hx
 have hlen:=r.length
 refine⟨"list",_,slot_list_getitem.lookup,ht.isList.typeIs, ?_⟩
 refine wpAny_getItem_list_slice ht.isList hs pl pu .none (by simp) ?_ (by rw[Zxh]<;>lia)
 rw[Zbh,<- hlen]
 refine⟨.ref s.heap.objs.size,_,I.laid (t':=s.toks) (o:=.lst (Zln xs lo hi)) (fun b ob q=>Heap.get?_push_of_some _ q) (Zxi _) ?_,rfl,q _ (I.hok.fresh (Zxi _))⟩
 exact⟨Zx2 (Zd2 xs lo hi) hz,_,0,(r.drop (HT.sIx xs.length 0 lo)).take (HT.sIx xs.length xs.length hi-HT.sIx xs.length 0 lo),Heap.get?_push_size _ rfl⟩
theorem ZcJ:Vs X (.builtin "len") (fun xs H Q=>∃p ys,xs=[.ref p]/\(SqL X.K H p ys\/SqT X.K H p ys)/\Q (.int ys.length) H):=by
 intro pins s σ H xs us Q I r h
 obtain⟨p,ys,rfl,hq,q⟩:=h
 obtain⟨u,rfl,rx⟩:=UJ r
 cases rx
 have hn:=ZaO
 rcases hq with hq|hq
 ·obtain⟨its,r',pl,hz⟩:=I.list hq
  have hlen:=r'.length
  exact Calls.call_len_list pl.isList (by simp only[Zxh]<;>lia) ⟨.int ys.length,H,I.tok _,⟨s.toks+1,by rw[Zxh,hlen]⟩,q⟩
 ·obtain⟨its,r',pl,hz⟩:=I.tuple hq
  have hlen:=r'.length
  exact len_tuple pl (by simp only[Zxh]<;>lia) ⟨.int ys.length,H,I.tok _,⟨s.toks+1,by rw[Zxh,hlen]⟩,q⟩
theorem ZcI:Vs X (.builtin "len") (fun xs H Q=>∃z,xs=[.str z]/\z.length<=sizeLine/\Q (.int z.length) H):=by
 intro pins s σ H xs us Q I r h
 obtain⟨z,rfl,hz,q⟩:=h
 obtain⟨u,rfl,t,rfl⟩:=UJ r
 have hn:=ZaO
 exact len_str (by lia) ⟨.int z.length,H,I.tok _,⟨_,rfl⟩,q⟩
theorem ZcH:Vs X (.type "list") (fun xs H Q=>∃p ys,xs=[.ref p]/\(SqL X.K H p ys\/SqT X.K H p ys)/\∀l,H l=none->Q (.ref l) (upd H l (.lst ys))):=by
 intro pins s σ H xs us Q I r h
 obtain⟨p,ys,rfl,hq,q⟩:=h
 obtain⟨u,rfl,rx⟩:=UJ r
 cases rx
 have fin:∀(its:List Value),ZU ys its->ys.length<=sizeLine->∀(h':Heap) (c':Nat),(∀b o',s.heap.get? b=some o'->h'.get? b=some o') ->
   h'.get? s.heap.objs.size=some { cls:=.type "list",dict:=none,data:=.seq its.toArray c',slots:=#[] }->EP X pins σ Q (.ref s.heap.objs.size) { s with heap:=h' }:=fun its r' hz h' c' kp e =>
  ⟨.ref s.heap.objs.size,_,I.laid (t':=s.toks) kp (Zxi _) (show JQ X.prog X.w _ h' _ (.lst ys) from ⟨hz,its,c',r',e⟩),rfl,q _ (I.hok.fresh (Zxi _))⟩
 rcases hq with hq|hq
 ·obtain⟨its,r',pl,hz⟩:=I.list hq
  have hlen:=r'.length
  obtain⟨o,ho,hc,n,hd⟩:=pl.isList
  exact call_list_seq p (.inl rfl) ho hc hd (fun h' c' kp e=>fin its r' hz h' c' kp e) (by simp only[Zxh]<;>lia)
 ·obtain⟨its,r',pl,hz⟩:=I.tuple hq
  have hlen:=r'.length
  obtain⟨o,ho,hc,n,hd⟩:=pl
  exact call_list_seq p (.inr rfl) ho hc hd (fun h' c' kp e=>fin its r' hz h' c' kp e) (by simp only[Zxh]<;>lia)
theorem ZbK:Vs X (.type "tuple") (fun xs H Q=>∃p ys,xs=[.ref p]/\((SqL X.K H p ys/\∀l,H l=none->Q (.ref l) (upd H l (.tup ys)))\/(SqT X.K H p ys/\Q (.ref p) H))):=by
 intro pins s σ H xs us Q I r h
 obtain⟨p,ys,rfl,h⟩:=h
 obtain⟨u,rfl,rx⟩:=UJ r
 cases rx
 rcases h with ⟨hq,q⟩|⟨hq,q⟩
 ·obtain⟨its,r',pl,hz⟩:=I.list hq
  have hlen:=r'.length
  refine call_tuple_list pl.isList (fun h' kp=>?_) (by simp only[Zxh]<;>lia)
  have I1:Inv X pins σ H { s with heap:=h' }:=I.kept (t':=s.toks) kp
  have I2:Inv X pins σ (upd H h'.objs.size (.tup ys)) { s with heap:=h'.push { cls:=.type "tuple",data:=.seq its.toArray } }:=
   I1.laid (t':=s.toks) (fun b o e=>Heap.get?_push_of_some _ e) (Zxi _) (show JQ X.prog X.w _ _ _ (.tup ys) from ⟨hz,its,r',IsTup.new _ _⟩)
  exact⟨.ref h'.objs.size,_,I2,rfl,q _ (I1.hok.fresh (Zxi _))⟩
 ·obtain⟨its,r',pl,hz⟩:=I.tuple hq
  exact call_tuple_same pl ⟨.ref p,H,I,rfl,q⟩
def tyV(K:W.Frag)(T:String)(x:V)(H:Hp):Prop:=match x with
 |.str _=>T = "str"
 |.int _=>T = "int"
 |.ref p=>(T = "list"/\∃xs,SqL K H p xs)\/(T = "tuple"/\∃o,K.lookup p=some o/\o.cls=.type "tuple"/\o.dict=none) \/
   (T = "dict"/\((∃kvs,H p=some (.dK kvs))\/∃kvs,H p=some (.dT kvs)))\/(T = "set"/\∃S n,H p=some (.set S n))
 |_=>False
theorem Zjh{pins:List (Addr×Obj)}{σ:St}{H:Hp}{s:Shared}{T:String}{x:V}{v:Value}(I:Inv X pins σ H s)(r:J2 x v)(ty:tyV X.K T x H) :
  s.TypeIs v T/\∀a,v=.ref a->∃ob,s.heap.get? a=some ob/\ob.dict=none:=by
 cases x with
 |str z =>
  obtain⟨t,rfl⟩:=r
  cases (show T = "str" from ty)
  exact⟨typeIs_str s z t,fun _ e=>nomatch e⟩
 |int i =>
  obtain⟨t,rfl⟩:=r
  cases (show T = "int" from ty)
  exact⟨typeIs_int s i t,fun _ e=>nomatch e⟩
 |ref p =>
  cases r
  rcases ty with ⟨rfl,xs,hq⟩|⟨rfl,o,hk,hc,hd⟩|⟨rfl,hk⟩|⟨rfl,S,n,hk⟩
  ·obtain⟨its,_,pl,_⟩:=I.list hq
   refine⟨pl.isList.typeIs,fun a e=>?_⟩
   cases e
   obtain⟨o,n,e,c,hd,_⟩:=pl
   exact⟨o,e,hd⟩
  ·refine⟨⟨o,I.kIn p o hk,hc⟩,fun a e=>?_⟩
   cases e
   exact⟨o,I.kIn _ o hk,hd⟩
  ·have z:∃o,s.heap.get? p=some o/\o.ExactDict:=by
    rcases hk with ⟨kvs,hk⟩|⟨kvs,hk⟩
    ·obtain⟨_,_,_,_,o,_,_,e,ex,_⟩:=I.hok p _ hk
     exact⟨o,e,ex⟩
    ·obtain⟨_,_,_,_,o,_,_,e,ex,_⟩:=I.hok p _ hk
     exact⟨o,e,ex⟩
   obtain⟨o,e,ex⟩:=z
   refine⟨⟨o,e,ex.1⟩,fun a e2=>?_⟩
   cases e2
   exact⟨o,e,ex.2.1⟩
  ·obtain⟨o,_,_,_,e,ex,_⟩:=I.hok p _ hk
   refine⟨⟨o,e,ex.1⟩,fun a e2=>?_⟩
   cases e2
   exact⟨o,e,ex.2.1⟩
 |_=>exact False.elim ty
noncomputable def ZnP(K:W.Frag)(T:String)(r:V->List V->Hp->VK->Prop)(to:TE):TE:=fun σ H Q=>to σ H fun x H1=>tyV K T x H1/\r x [] H1 Q
noncomputable def tBM(K:W.Frag)(T:String)(r:V->List V->Hp->VK->Prop)(to:TE)(t:TA):TE:=fun σ H Q=>to σ H fun x H1=>tyV K T x H1/\t σ H1 fun xs H2=>r x xs H2 Q
variable {o e:Expr}{es:List Expr}{to:TE}{t:TA}{name:Str}{apos cpos:Pos}{T id:String}{r:V->List V->Hp->VK->Prop}
theorem ZlV(pa:PlainAttrs T)(slot:Slot T name id)(hty:typeOf (.builtin id)=pure (.type "method_descriptor"))(hm:MtR X id r)(ho:PE X o to)(hbase:attributeBase o name X.env (eval o X.env)=eval o X.env:=by rfl)(hline:(apos.endLine==cpos.line)=true:=by rfl):PE X (.Call (.Attribute o name apos) [] [] cpos) (ZnP X.K T r to):=by
 intro pins s σ H Q I h
 refine wpAny_Call_method0_late hbase hline (thn (ho pins s σ H _ I h) fun v s1 ⟨x,H1,I1,r1,ty,q1⟩=>?_)
 obtain⟨h1,h2⟩:=Zjh I1 r1 ty
 exact⟨T,id,pa,slot,hty,h1,h2,Calls.callWith_builtin rfl (PySem.evalArgs_none (hm pins s1 σ H1 x [] v [] Q I1 r1 .nil q1))⟩
theorem Zax(pa:PlainAttrs T)(slot:Slot T name id)(hty:typeOf (.builtin id)=pure (.type "method_descriptor"))(hm:MtR X id r)(ho:PE X o to)(ha:PA X (e::es) t)(hbase:attributeBase o name X.env (eval o X.env)=eval o X.env:=by rfl)(hfew:((backTo cpos (starEach (e::es) X.env)).all (fun x=>!x.1)&&(backToKw cpos (keywordEach [] X.env)).all (fun x=>x.1.isSome)
   && decide ((e::es).length+([]:List Keyword).length+(if ([]:List Keyword).isEmpty then 0 else 1)<30))=true:=by rfl)(hline:(apos.endLine==cpos.line)=true:=by rfl)(hs:starEach (e::es) X.env=(false,eval e X.env)::starEach es X.env:=by rfl)(hplain:(backTo cpos (starEach es X.env)).any (·.1)=false:=by rfl) :
  PE X (.Call (.Attribute o name apos) (e::es) [] cpos) (tBM X.K T r to t):=by
 intro pins s σ H Q I h
 refine wpAny_Call_method_late hbase hfew hline rfl (thn (ho pins s σ H _ I h) fun v s1 ⟨x,H1,I1,r1,ty,q1⟩=>?_)
 obtain⟨h1,h2⟩:=Zjh I1 r1 ty
 refine⟨T,id,pa,slot,hty,h1,h2, ?_⟩
 have hA:=ha cpos pins s1 σ H1 _ I1 q1
 rw[hs] at hA ⊢
 refine Calls.callWith_builtin (by show (false || (backTo cpos (starEach es X.env)).any (·.1))=false;rw[hplain]<;>rfl) (Calls.evalArgs_plain ?_)
 exact thn hA fun us s2 ⟨vs,H2,I2,r2,q2⟩=>hm pins s2 σ H2 x vs v us Q I2 r1 r2 q2
end
def MtM(X:Cx)(id:String)(r:V->List V->Hp->VK->Prop):Prop:=
 ∀(pins:List (Addr×Obj)) (s:Shared) (σ:St) (H:Hp) (x:V) (xs:List V) (v:Value) (us:List Value) (Q:VK),Inv X pins σ H s->J2 x v->ZU xs us->r x xs H Q ->
  wpAny (model X.prog X.w) X.A (call (.builtin id) (v::us)) (EP X pins σ Q) X.xe s
theorem ZU.one:∀{x:V}{us:List Value},ZU [x] us->∃u,us=[u]/\J2 x u
 |_,_,.cons r .nil=>⟨_,rfl,r⟩
theorem ZU.zero:∀{us:List Value},ZU [] us->us=[]
 |_,.nil=>rfl
theorem ZU.dropLast{xs:List V}{us:List Value}(h:ZU xs us):ZU xs.dropLast us.dropLast:=by
 induction h with
 |nil=>exact .nil
 |cons r t ih =>
  cases t with
  |nil=>exact .nil
  |cons q t'=>exact .cons r ih
theorem ZU.rep{xs:List V}{us:List Value}(h:ZU xs us):∀k:Nat,ZU (List.replicate k xs).flatten (List.replicate k us).flatten
 |0=>.nil
 |k+1=>by
  rw[Zx8,Zx8,ZxP,ZxP]
  exact ZU.append h (ZU.rep h k)
theorem Zfx{α:Type}(l:List α):l.eraseIdx (l.length-1)=l.dropLast:=by
 induction l with
 |nil=>rfl
 |cons a r ih =>
  cases r with
  |nil=>rfl
  |cons b r =>
   have e:(a::b::r).length-1=((b::r).length-1)+1:=by
    have h1:(a::b::r).length=r.length+2:=rfl
    have h2:(b::r).length=r.length+1:=rfl
    lia
   rw[e,List.eraseIdx_cons_succ,ih]
   all_goals rfl
theorem Zc7(its:List Value):∀(k:Nat) (acc:List Value),
  List.foldl (fun x1 x2=>x1++x2) acc.toArray (List.replicate k its.toArray)=(acc++(List.replicate k its).flatten).toArray
 |0,acc=>by simp
 |k+1,acc=>by
  have e:acc.toArray++its.toArray=(acc++its).toArray:=by simp
  have e2:(acc++its)++(List.replicate k its).flatten=acc++(List.replicate (k+1) its).flatten:=by
   rw[Zx8,ZxP,ZxV]
  rw[<- e2,<- Zc7 its k (acc++its),<- e,Zx8,List.foldl_cons]
section
variable {X:Cx}{pins:List (Addr×Obj)}{σ:St}{H:Hp}{s:Shared}{l:Addr}{xs ys:List V}
theorem Inv.lset{its its':List Value}{n:Nat}{f:Array Value->Array Value}{t':Nat}(I:Inv X pins σ H s)(hH:H l=some (.lst xs))(e:s.heap.get? l=some { cls:=.type "list",data:=.seq its.toArray n })(hf:f its.toArray=its'.toArray)(hv:ZU ys its')(hz:ys.length<=sizeLine) :
  Inv X pins σ (upd H l (.lst ys)) { s with heap:=s.heap.update l (Obj.mapSeq f),toks:=t' }:=by
 have q:=PySem.IsL.update e f
 rw[hf] at q
 refine I.write (x:=l) (e:=l) (by rw[hH];exact trivial) (.inl rfl) (fun b' u hb hu=>(Heap.get?_update_other s.heap (Obj.mapSeq f) (Ne.symm hb)).trans hu) ⟨_,q⟩ ?_
 exact⟨hz,its',_,hv,q⟩
theorem Inv.lnew{its:List Value}{t':Nat}(I:Inv X pins σ H s)(hv:ZU ys its)(hz:ys.length<=sizeLine) :
  Inv X pins σ (upd H s.heap.objs.size (.lst ys)) { s with heap:=s.heap.push { cls:=.type "list",data:=.seq its.toArray },toks:=t' }:=
 I.laid (fun _ _ q=>Heap.get?_push_of_some _ q) (Zxi _) ⟨hz,its,0,hv,Heap.get?_push_size _ rfl⟩
theorem Inv.fresh(I:Inv X pins σ H s):H s.heap.objs.size=none:=I.hok.fresh (Zxi _)
theorem Inv.lstM(I:Inv X pins σ H s)(hH:H l=some (.lst xs)):xs.length<=sizeLine/\∃(its:List Value) (n:Nat),ZU xs its/\xs.length=its.length/\s.heap.get? l=some { cls:=.type "list",data:=.seq its.toArray n }:=by
 obtain⟨z,its,n,r,e⟩:=I.hok l _ hH
 exact⟨z,its,n,r,r.length,e⟩
theorem Zi5{n:Nat}(h:n<=sizeLine):Builtin.List.listTooLong n=false:=by
 unfold Builtin.List.listTooLong
 exact decide_eq_false (by lia)
end
section
variable {X:Cx}
def Zgi:V->List V->Hp->VK->Prop:=fun x vs H Q=>∃l xs y,x=.ref l/\vs=[y]/\H l=some (.lst xs)/\xs.length<sizeLine/\Q .non (upd H l (.lst (xs++[y])))
theorem UT:MtM X "list.append" Zgi:=by
 intro pins s σ H x vs v us Q I rx rv h
 obtain⟨l,xs,y,rfl,rfl,hH,hz,q⟩:=h
 cases rx
 obtain⟨u,rfl,ru⟩:=rv.one
 obtain⟨z,its,n,r,hl,e⟩:=I.lstM hH
 refine call_meets F.slot_list_append ⟨_,e,rfl⟩ F.entry_list_append (F.args_list_append_2 _ _) (PySem.list_append l its.toArray n u (by rw[Zxh];lia)) ⟨e, ?_⟩
 refine⟨.non,_,I.lset (its':=its++[u]) hH e (by simp) (r.append (.cons ru .nil)) ?_,rfl,q⟩
 rw[Zxq,ZxC]
 lia
def ZnU:V->List V->Hp->VK->Prop:=fun x vs H Q=>∃l xs y,x=.ref l/\vs=[]/\H l=some (.lst xs)/\xs[xs.length-1]?=some y/\Q y (upd H l (.lst xs.dropLast))
theorem Zmg:MtM X "list.pop" ZnU:=by
 intro pins s σ H x vs v us Q I rx rv h
 obtain⟨l,xs,y,rfl,rfl,hH,hy,q⟩:=h
 cases rx
 have hus:=rv.zero
 subst hus
 obtain⟨z,its,n,r,hl,e⟩:=I.lstM hH
 obtain⟨u,hu,ru⟩:=r.get hy
 have hy':its.toArray[its.toArray.size-1]?=some u:=by
  show its.toArray[its.length-1]?=some u
  rw[<- Array.getElem?_toList,<- hl]
  exact hu
 refine call_meets F.slot_list_pop ⟨_,e,rfl⟩ F.entry_list_pop (F.args_list_pop_1 _) (MeetsSeq.list_pop_last l its.toArray n u hy' (by rw[Zxh];lia)) ⟨e, ?_⟩
 refine⟨y,_,I.lset (its':=its.dropLast) hH e ?_ r.dropLast ?_,ru,q⟩
 ·show its.toArray.eraseIdxIfInBounds (its.toArray.size-1)=its.dropLast.toArray
  rw[Zxh,List.eraseIdxIfInBounds_toArray,Zfx]
 ·rw[List.length_dropLast]
  lia
noncomputable def ZnT:R2:=fun x y H Q=>∃l k xs,x=.ref l/\y=.int k/\H l=some (.lst xs)/\-(2^63)<=k/\k<2^63/\xs.length*k.toNat<=sizeLine /\
 ∀p,H p=none->Q (.ref p) (upd H p (.lst (List.replicate k.toNat xs).flatten))
theorem ZgU{α:Type}(xs:List α)(k:Nat):(List.replicate k xs).flatten.length=k*xs.length:=by
 induction k with
 |zero=>simp
 |succ k ih=>rw[Zx8,ZxP,Zxq,ih,Nat.succ_mul,Nat.add_comm]
theorem Zmc:OpR X (binaryOp .Mult) ZnT:=by
 intro pins s σ H x y v u Q I rx ry h
 obtain⟨l,k,xs,rfl,rfl,hH,h1,h2,hz,q⟩:=h
 cases rx
 obtain⟨t,rfl⟩:=ry
 obtain⟨z,its,n,r,hl,e⟩:=I.lstM hH
 have hlen:its.toArray.size*k.toNat<=sizeLine:=by rw[Zxh,<- hl];exact hz
 have hcap:¬its.toArray.size*k.toNat>(2^63-1)/8:=by
  have:(sizeLine:Nat)<=(2^63-1)/8:=by decide
  lia
 have hfit:¬(!Builtin.List.listFitsIndex k)=true:=by
  rw[fitsIndex_both h1 h2]
  exact Bool.false_ne_true
 have hlong:¬Builtin.List.listTooLong (its.toArray.size*k.toNat)=true:=by
  rw[Zi5 hlen]
  exact Bool.false_ne_true
 have hnew:List.foldl (fun x1 x2=>x1++x2) #[] (List.replicate (if its.toArray.isEmpty=true then 0 else k.toNat) its.toArray)=(List.replicate k.toNat its).flatten.toArray:=by
  have f0:∀m:Nat,List.foldl (fun x1 x2=>x1++x2) #[] (List.replicate m its.toArray)=(List.replicate m its).flatten.toArray:=fun m=>by
   have:=Zc7 its m []
   rw[Zye] at this
   exact this
  rw[f0]
  cases its with
  |nil=>simp
  |cons a r'=>rw[if_neg (by simp)]
 refine wpAny_binaryOp_repeat_ref (T := "list") (U := "int") (by decide) ⟨_,e,rfl⟩ (fun s'=>typeIs_int s' k t) noFill_list_mul F.fills_int_mul F.slot_int_rmul repeat_list F.slot_int_index.lookup
  (call_meets F.slot_int_rmul (typeIs_int s k t) F.entry_int_rmul (F.args_int_rmul_2 _ _) (int___rmul___int_list k t l its.toArray n)
   ⟨e,rfl,⟨_,e,rfl⟩,call_meets F.slot_list_mul ⟨_,e,rfl⟩ F.entry_list_mul (F.args_list_mul_2 _ _) (AutoListH.list___mul___list_int_3 l its.toArray n k t hfit hcap hlong) ⟨e, ?_⟩⟩)
 rw[hnew]
 exact⟨.ref _,_,I.lnew (t':=s.toks) (r.rep k.toNat) (by rw[ZgU,Nat.mul_comm];exact hz),rfl,q _ I.fresh⟩
end
section
set_option maxRecDepth 100000 in
end
section
end
end L2
namespace Att
open PySem PySem.W PySem.Calls PyProof.Rows
theorem Zak{P:Params}{h:Heap}:∀(ns:List Int) (vs:List Value),WellAll P h vs (ns.map WData.int)->IntsAre vs ns:=by
 intro ns
 induction ns with
 |nil =>
  intro vs w
  rw[ZxT] at w
  cases w
  exact .nil
 |cons n ns ih =>
  intro vs w
  rw[Zxf] at w
  cases w with
  |cons a b =>
   cases a
   exact .cons _ _ (ih _ b)
theorem Zgd{l:OpenLaw}{n:Nat}(hn:l.most=some n){P:Params}{h:Heap}{args:List WData}{vals:List Value}(hpre:l.row.toRowW.claim.pre args=true)(hwl:WellAll P h vals args) :
  ∃a vs ns,vals=[Value.ref a]/\args=[WData.list (ns.map WData.int)]/\h.get? a=some { cls:=.type "list",data:=.seq vs.toArray }/\IntsAre vs ns/\ns.length<=n:=by
 have hsh:WShape.hasAll [] args [.list .int]=true:=(pre_splitW hpre).1
 have hc:l.pre.holds [] { args:=args }=true:=(pre_splitW hpre).2
 obtain⟨d,r,rfl,h1,h2⟩:=hasAllW_cons hsh
 obtain rfl:=hasAllW_nil h2
 obtain⟨xs,rfl,h3⟩:=hasW_list h1
 obtain⟨ns,rfl⟩:=items_int h3
 have hlen:ns.length<=n:=by
  unfold OpenLaw.pre at hc
  have h4:(WTm.not (.lt (.lit (.int (n:Int))) (.len (.arg 0)))).holds [] { args:=[.list (ns.map .int)] }=true:=by
   have h4:=(holds_andW hc).1
   rw[hn] at h4
   exact h4
  have h5:=condW_of h4 (w_not (w_lt w_lit (w_len_list (w_arg rfl))))
  rw[Zxc] at h5
  refine Nat.le_of_not_lt fun q=>?_
  have q':(n:Int)<((ns.length:Nat):Int):=by lia
  first
   |(rw[decide_eq_true q'] at h5;exact absurd h5 (by decide))
   |(simp at h5;lia)
 cases hwl with
 |cons w1 w2 =>
  cases w2
  cases w1 with
  |list ho hall=>exact⟨_,_,ns,rfl,rfl,ho,Zak ns _ hall,hlen⟩
theorem Zgk(l:OpenLaw)(args:List WData):l.row.toRowW.claim.post args (.bool true) args=true:=
 postW_of (r:=l.row.toRowW) (X:=(true==true))
  (show WShape.has [] (.bool true) .bool=true by first|rfl|decide|simp[WShape.has,WShape.arms,WShape.armsAll])
  (show (WTm.eq .res (.lit (.bool true))).value [] { args:=args,res:=some (.bool true),after:=args }=some (.bool (true==true)) from w_eq_bool (w_res rfl) w_lit) rfl
theorem Zd9{l:OpenLaw}{n:Nat}{q:Program}{loose:List Str}{XP:(Str->Option Value)->Heap->Prop}{YP:World->Heap->Prop}{d:DefRec}(hn:l.most=some n)(hdf:d.params.defaults=[])(call:∀(w:World) (s₀ s₁:Shared) (mg mb:Str->Option Value) (fa:Addr) (o:Obj) (pm cd doc:Value) (a:Addr) (vs:List Value) (ns:List Int),
   Ground q loose [] XP w s₀ mg mb s₁.heap->YP w s₁.heap ->
   s₁.heap.get? fa=some o->o.data=.func (docDef d.name d.params d.body d.scope pm cd doc)->s₁.heap.CodeRec cd d.name->mg d.name=some (.ref fa) ->
   s₁.heap.get? a=some { cls:=.type "list",data:=.seq vs.toArray }->IntsAre vs ns->ns.length<=n->s₁.gens=#[] ->
   codeAny (model l.prog w) callerA (.call (.ref fa) ⟨[.ref a],[]⟩) (fun r s'=>r=.ok (.ret (.bool true))/\OldK s₁.heap s'.heap/\s'.os=s₁.os/\AllBare s'.gens) s₁) :
  WalkO q loose XP YP l.row.toRowW d [] (fun f vs=>PySem.call f vs):=by
 intro w s₀ s₁ mg mb G Y fa o pm cd doc dV kV ho hd hcd hD hmg hg args vals as hpre hlay hrd hwl hlo
 obtain rfl:dV=.none:=Dflts.none hD hdf
 obtain rfl:kV=.none:=Dflts.noKw hD
 obtain⟨a,vs,ns,rfl,rfl,hobj,hints,hlen⟩:=Zgd hn hpre hwl
 refine enter_call (codeAny_mono (call w s₀ s₁ mg mb fa o pm cd doc a vs ns G Y ho (fd_plain hd) hcd hmg hobj hints hlen hg) fun r s' hq=>?_)
 obtain⟨rfl,h2,h3,h4⟩:=hq
 exact⟨.inl ⟨.bool true,.bool true,[],rfl,fun _=>rfl,.bool true,Zgk l _,fun _=>⟨List.Pairwise.nil,fun _ hm=>(nomatch hm)⟩⟩,h2,h3,h4⟩
section
end
end Att
namespace L2
open PySem PySem.Spec PyProof.Rows
theorem ZbS:∀{vs:List Value}{ns:List Int},IntsAre vs ns->ZU (ns.map V.int) vs
 |_,_,.nil=>.nil
 |_,_,.cons n t h=>.cons ⟨t,rfl⟩ (ZbS h)
def ZmC(H:Hp):Prop:=∀b,H b=none\/∃o xs,H b=some (.frz o (.lst xs))
theorem Zi7{P:Program}{w:World}{K:W.Frag}{mg mb:Str->Option Value}{CX:CXT}{k:Nat}{fa a:Addr}{fd:FuncData}{x:Str}{sp:Sp}{s₁:Shared}{vs:List Value}{ns:List Int}(KX:K.In s₁.heap)(hns:s₁.heap.Ns mainGlobals mg)(hb:s₁.heap.Ns builtinsNs mb)(hbb:∀x:Str,x ≠ "__name__"->mb x=bootBuiltins x)(hlim:s₁.heap.NoLimit)(hg:s₁.gens=#[])(ha:s₁.heap.get? a=some { cls:=.type "list",data:=.seq vs.toArray })(hi:IntsAre vs ns)(hl:ns.length<=sizeLine)(hr:Q2 k callerA)(F:∀base:Heap,K.In base->base.Ns mainGlobals mg->Jv P w K mg base CX k fa fd [x] sp)(hbind:∀(s:Shared) (u:Value),BindsTo s fd ⟨[u],[]⟩ [(x,u)])(hsp:∀H:Hp,ZmC H->SqL K H a (ns.map V.int)->sp [.ref a] H (fun v _=>v=.bl true) fun _ _ _=>False)(hCX:∀H e s',CX [] H s₁ (fun _ _ _=>False) e s'->False) :
  codeAny (model P w) callerA (.call (.ref fa) ⟨[.ref a],[]⟩) (fun r s'=>r=.ok (.ret (.bool true))/\OldK s₁.heap s'.heap/\s'.os=s₁.os/\AllBare s'.gens) s₁:=by
 have rv:=ZbS hi
 have lenV:=hi.length
 have core:∀H:Hp,ZmC H->SqL K H a (ns.map V.int)->HOk P w H s₁.heap->(∀b,H b≠none->b=a)->(H a≠none->K.lookup a=none) ->
   codeAny (model P w) callerA (.call (.ref fa) ⟨[.ref a],[]⟩) (fun r s'=>r=.ok (.ret (.bool true))/\OldK s₁.heap s'.heap/\s'.os=s₁.os/\AllBare s'.gens) s₁:=by
  intro H hO hS hok hA hK
  have base_of:∀{b:Addr}{o:Obj},s₁.heap.get? b=some o->H b=none->(ZiF s₁.heap H).get? b=some o:=fun e n=>ZiE e n
  have noA:∀{b:Addr}{o:Obj}{es:Array DictEntry}{ep:Nat},s₁.heap.get? b=some o->o.data=.dict es ep->H b=none:=fun {b o es ep} e d=>by
   cases q:H b with
   |none=>rfl
   |some u =>
    have e':b=a:=hA b (by rw[q];simp)
    subst e'
    rw[ha] at e;cases e
    have d':Data.seq vs.toArray _=Data.dict es ep:=d
    cases d'
  have nsK:∀{b:Addr}{m:Str->Option Value},s₁.heap.Ns b m->(ZiF s₁.heap H).Ns b m:=fun {b m} ⟨o,es,ep,e,d,r⟩=>⟨o,es,ep,base_of e (noA e d),d,r⟩
  have hKb:K.In (ZiF s₁.heap H):=fun b o e=>base_of (KX b o e) (by
   cases q:H b with
   |none=>rfl
   |some u =>
    have e':b=a:=hA b (by rw[q];simp)
    subst e'
    rw[hK (by rw[q];simp)] at e;cases e)
  have hM:Mod K mg (ZiF s₁.heap H):=⟨hKb,nsK hns,⟨mb,nsK hb,hbb⟩,let ⟨mc,h1,h2⟩:=hlim;⟨mc,nsK h1,h2⟩⟩
  have e0:ZmG P w K mg (ZiF s₁.heap H) callerA [] s₁ H:=⟨rfl,hM,fun b o e=>Zko e,Nat.le_of_eq (Zhi _ _),trivial,fun b hb=>absurd (show b∈([]:List Addr) from hb) (by simp),hok,.of_eq hg⟩
  refine codeAny_mono ((F _ hKb (nsK hns)).run callerA [] s₁ H ⟨[.ref a],[]⟩ [.ref a] [.ref a] _ _ hr e0 (hbind s₁ (.ref a)) (.cons rfl .nil) (hsp H hO hS)) fun r s' h=>?_
  cases r with
  |error e=>exact(hCX H e s' h).elim
  |ok fl =>
   cases fl with
   |next=>exact False.elim h
   |brk=>exact False.elim h
   |cont=>exact False.elim h
   |ret u =>
    obtain⟨v,H',os,bare,un,hok',r',q⟩:=h
    have q':v=.bl true:=q
    subst q'
    obtain rfl:u=Value.bool true:=r'
    refine⟨rfl,OldK.of_keep fun b o e=>?_,os,bare⟩
    cases q:H b with
    |none=>exact un.keep b o e q (by intro z;exact absurd (show b∈([]:List Addr) from z) (by simp)) (by simp)
    |some u =>
     rcases hO b with z|⟨ob,xs,z⟩
     ·rw[q] at z;cases z
     ·have z2:=un.frzs b ob _ z
      obtain⟨e1,_⟩:=hok b _ z
      obtain⟨e2,_⟩:=hok' b _ z2
      rw[e] at e1;cases e1
      exact e2
 cases hk:K.lookup a with
 |some o =>
  have e:=KX a o hk
  rw[ha] at e
  cases e
  refine core (fun _=>none) (fun _=>.inl rfl) (.inr ⟨_,vs.toArray,_,hk,rfl,rfl,rfl,by rw[Zxh,lenV];exact hl,by simpa using rv⟩) (fun b u z=>by have z':(none:Option HO)=some u:=z;cases z') (fun b z=>absurd rfl z) fun z=>absurd rfl z
 |none =>
  refine core (fun b=>if b=a then some (.frz { cls:=.type "list",data:=.seq vs.toArray } (.lst (ns.map V.int))) else none) (fun b=>?_) (.inl (.inr ⟨{ cls:=.type "list",data:=.seq vs.toArray },if_pos rfl⟩)) (fun b u z=>?_) (fun b z=>?_) fun _=>hk
  ·by_cases hb:b=a
   ·exact .inr ⟨_,_,if_pos hb⟩
   ·exact .inl (if_neg hb)
  ·by_cases hb:b=a
   ·have z':=(if_pos hb).symm.trans z
    cases z'
    subst hb
    exact⟨ha,by rw[Zxc];exact hl,vs,_,rv,ha⟩
   ·have z':=(if_neg hb).symm.trans z
    cases z'
  ·by_cases hb:b=a
   ·exact hb
   ·exact absurd (if_neg hb) z
noncomputable abbrev KOf{K:W.Frag}{h:Heap}(_:K.In h):W.Frag:=K
theorem ZjP{l:PySem.W.OpenLaw}{n k:Nat}{q:Program}{loose:List Str}{XP:(Str->Option Value)->Heap->Prop}{YP:World->Heap->Prop}{d:DefRec}{K:Params->W.Frag}{CX:World->CXT}{sp:World->Sp}{x:Str}(hn:l.most=some n)(hn2:n<=sizeLine)(hdf:d.params.defaults=[])(hr:Q2 k callerA)(hY:∀(w:World) (h:Heap),YP w h->(K w.params).In h)(F:∀(w:World) (mg:Str->Option Value) (fa:Addr) (h:Heap),(K w.params).In h->h.Ns mainGlobals mg->mg d.name=some (.ref fa) ->
   ∃fd:FuncData,(∀(s:Shared) (u:Value),BindsTo s fd ⟨[u],[]⟩ [(x,u)]) /\
    ∀base:Heap,(K w.params).In base->base.Ns mainGlobals mg->Jv l.prog w (K w.params) mg base (CX w) k fa fd [x] (sp w))(hsp:∀(w:World) (H:Hp) (a:Addr) (ns:List Int),ns.length<=n->ZmC H->SqL (K w.params) H a (ns.map V.int)->sp w [.ref a] H (fun v _=>v=.bl true) fun _ _ _=>False)(hCX:∀(w:World) (H:Hp) (s:Shared) (e:Value) (s':Shared),CX w [] H s (fun _ _ _=>False) e s'->False) :
  PySem.W.WalkO q loose XP YP l.row.toRowW d [] (fun f vs=>PySem.call f vs):=by
 refine Att.Zd9 hn hdf fun w s₀ s₁ mg mb fa o pm cd doc a vs ns G Y ho hd hcd hmg hobj hints hlen hg=>?_
 have KX:=hY w _ Y
 obtain⟨fd,hb,hF⟩:=F w mg fa _ KX G.T.g hmg
 exact Zi7 KX G.T.g G.T.b G.T.builtins G.T.nolimit hg hobj hints (Zx2 hlen hn2) hr hF hb (fun H hO hS=>hsp w H a ns hlen hO hS) fun H e s'=>hCX w H s₁ e s'
theorem ZhW{l:PySem.W.OpenLaw}{n k:Nat}{q:Program}{loose:List Str}{XP:(Str->Option Value)->Heap->Prop}{YP:World->Heap->Prop}{d:DefRec}{K:Params->W.Frag}{CX:CXT}{sp:W.Frag->Sp}{x:Str}(hn:l.most=some n)(hn2:n<=sizeLine)(hdf:d.params.defaults=[])(hr:Q2 k callerA)(hY:∀(w:World) (h:Heap),YP w h->(K w.params).In h)(F:∀(w:World) (mg:Str->Option Value) (fa:Addr) (h:Heap),(K w.params).In h->h.Ns mainGlobals mg->mg d.name=some (.ref fa) ->
   ∃fd:FuncData,(∀(s:Shared) (u:Value),BindsTo s fd ⟨[u],[]⟩ [(x,u)]) /\
    ∀base:Heap,(K w.params).In base->base.Ns mainGlobals mg->Jv l.prog w (K w.params) mg base CX k fa fd [x] (sp (K w.params)))(hsp:∀(K:PySem.W.Frag) (H:Hp) (a:Addr) (ns:List Int),ns.length<=n->ZmC H->SqL K H a (ns.map V.int)->sp K [.ref a] H (fun v _=>v=.bl true) fun _ _ _=>False)(hCX:∀(H:Hp) (s:Shared) (e:Value) (s':Shared),CX [] H s (fun _ _ _=>False) e s'->False) :
  PySem.W.WalkO q loose XP YP l.row.toRowW d [] (fun f vs=>PySem.call f vs):=
 ZjP (K:=K) (CX:=fun _=>CX) (sp:=fun w=>sp (K w.params)) hn hn2 hdf hr hY F (fun w H a ns h1 h2 h3=>hsp (K w.params) H a ns h1 h2 h3) fun _ H s e s'=>hCX H s e s'
noncomputable def JR(s:Stmt)(j:Nat):Stmt:=match s with
 |.ClassDef _ _ _ body _ _ _ _ _ _ _=>body.getD j (.Pass ⟨0,0,0,0⟩)
 |_=>.Pass ⟨0,0,0,0⟩
noncomputable def Zs(s:Stmt):Arguments:=match s with
 |.FunctionDef _ a _ _ _ _ _ _ _ _=>a
 |_=>{ posonlyargs:=[],args:=[],vararg:=none,kwonlyargs:=[],kw_defaults:=[],kwarg:=none,defaults:=[] }
noncomputable def Zo(s:Stmt):List Stmt:=match s with
 |.FunctionDef _ _ b _ _ _ _ _ _ _=>b
 |_=>[]
noncomputable def Zd(s:Stmt):Scope:=match s with
 |.FunctionDef _ _ _ _ _ _ sc _ _ _=>sc
 |_=>{ kind:=.function,names:=[],isGenerator:=false,isCoroutine:=false }
noncomputable abbrev CX0:CXT:=fun _ _ _ _ _ _=>False
noncomputable abbrev E0:XK:=fun _ _ _=>False
theorem ZlW{X:Cx}:ZeH CX0 X E0:=fun _ _ _ _ _ _ _ h=>h.elim
structure Fun(K:PySem.W.Frag)(x qual:Str)(st:Stmt)(f:Addr)(fd:FuncData):Prop where
 ex:∃(oc:Value) (od:Option Addr) (kV doc pm:Value) (an:Option Addr) (cdv ct:Value) (osl:Array (Option Value)),
  fd=PySem.W.fnOf x qual (Zs st) (Zo st) (Zd st) .none kV doc pm an cdv ct/\K.lookup f=some ⟨oc,od,.func fd,osl⟩/\PySem.W.codeIn K cdv qual=true
 kp:PySem.W.keepIn K (.ref f)=true
section
variable {P:Program}{w:World}{K:W.Frag}{mg:Str->Option Value}{base:Heap}
theorem Fun.ok{x qual:Str}{st:Stmt}{f:Addr}{fd:FuncData}{N ps:List Str}{k:Nat}{sp:Sp}(F:Fun K x qual st f fd)(S:Zr N ps (Zd st))(len:∀vs H Q E,sp vs H Q E->vs.length=ps.length)(hbody:∀(cdv:Value) (A:Around) (outer:List Env) (s:Shared) (H:Hp) (vs:List V) (Q:VK) (E:XK),Q2 k (A.deeper (envOfC qual (Zd st) s.heap.objs.size f cdv))->sp vs H Q E ->
   ∃t,PSs (ZcP CX0 P w K mg base N qual (Zd st) f cdv A outer s H E).nox (Zo st) t/\t { nx:=fun _ H'=>Q .non H',rt:=Q } (Q8 N vs) H):Jv P w K mg base CX0 (k+1) f fd ps sp:=by
 obtain⟨oc,od,kV,doc,pm,an,cdv,ct,osl,rfl,lk,hcd⟩:=F.ex
 refine Zmx lk hcd S len fun A outer s H vs Q E hr hsp=>?_
 obtain⟨t,h,q⟩:=hbody cdv A outer s H vs Q E hr hsp
 exact⟨t,h.nox,q⟩
theorem Fun.binds{x qual:Str}{st:Stmt}{f:Addr}{fd:FuncData}{ps:List Str}(F:Fun K x qual st f fd)(h:∀(kV doc pm:Value) (an:Option Addr) (cdv ct:Value) (us:List Value),us.length=ps.length->bindArgs (PySem.W.fnOf x qual (Zs st) (Zo st) (Zd st) .none kV doc pm an cdv ct) ⟨us,[]⟩=pure (ps.zip us)):ZbL K fd ps []:=by
 obtain⟨oc,od,kV,doc,pm,an,cdv,ct,osl,rfl,lk,hcd⟩:=F.ex
 exact .all (h kV doc pm an cdv ct)
theorem Z0{x qual:Str}{st:Stmt}{f:Addr}{oc:Value}{od an:Option Addr}{osl:Array (Option Value)}{kV doc pm cdv ct:Value}(l:K.lookup f=some ⟨oc,od,.func (PySem.W.fnOf x qual (Zs st) (Zo st) (Zd st) .none kV doc pm an cdv ct),osl⟩)(c:PySem.W.codeIn K cdv qual=true)(k:PySem.W.keepIn K (.ref f)=true):Fun K x qual st f (PySem.W.fnOf x qual (Zs st) (Zo st) (Zd st) .none kV doc pm an cdv ct):=⟨⟨oc,od,kV,doc,pm,an,cdv,ct,osl,rfl,l,c⟩,k⟩
variable {X:Cx}
theorem pv(i:Nat){x:Str}{pos:Pos}(hN:X.N[i]?=some x:=by rfl)(hv:Vis X.env.scope x:=by first|exact Or.inl rfl|exact Or.inr (Or.inl rfl)|exact Or.inr (Or.inr rfl))(hd:(x==("__debug__":Str))=false:=by decide)(hcd:(x==("__classdict__":Str))=false:=by decide):PE X (.Name x pos) (ZeR i):=ZlR hN hv hd hcd
end
def Z9(H H':Hp):Prop:=∀b o,H b=some o->H' b=some o
theorem Z9.refl(H:Hp):Z9 H H:=fun _ _ h=>h
theorem Z9.trans{H H1 H2:Hp}(a:Z9 H H1)(b:Z9 H1 H2):Z9 H H2:=fun c o h=>b c o (a c o h)
theorem Z9.free{H H':Hp}(e:Z9 H H'){l:Addr}(h:H' l=Option.none):H l=Option.none:=by
 cases q:H l with
 |none=>rfl
 |some o =>
  rw[e l o q] at h
  cases h
end L2
set_option maxHeartbeats 4000000
namespace L2
open PySem PySem.Spec PyProof.Rows
noncomputable def Zh5(scope:Scope)(env:Env):List (Str×Addr):=
 ((scope.names.filter fun p=>p.2==.free).reverse).map fun p=>(p.1,(env.cells.lookup p.1).getD 0)
theorem UU{β:Type}:∀{l:List (Str×β)}{a:Str}{b:β},(a,b)∈l->∃c,l.lookup a=some c
 |[],_,_,h=>absurd h (by simp)
 |(n,v)::r,a,b,h=>by
  cases e:a==n with
  |true=>exact⟨v,by simp[Zxw,e]⟩
  |false =>
   rcases Zxd.mp h with z|z
   ·cases z;simp at e
   ·obtain⟨c,hc⟩:=UU z
    exact⟨c,by simp[Zxw,e,hc]⟩
theorem ZR{env:Env}:∀{names:List (Str×NameKind)}{y:Str}{k:NameKind},(∀p∈names,p.2≠.cell) ->
  (names.map fun(n,k)=>if (k==NameKind.free&&env.scope.kind==.function&&env.kindOf n==some .cell) then (n,NameKind.cell) else (n,k)).lookup y=some k ->
  (k=.local->names.lookup y=some .local)/\(k=.cell\/k=.free->names.lookup y=some .free)
 |[],_,_,_,h=>by simp at h
 |(n,k0)::r,y,k,nc,h=>by
  have ih:=@ZR env r y k (fun p hp=>nc p (Zxs _ hp))
  have nc0:=nc (n,k0) ZxH
  have h':List.lookup y ((if (k0==NameKind.free&&env.scope.kind==.function&&env.kindOf n==some .cell)=true then (n,NameKind.cell) else (n,k0))::(r.map fun(n,k)=>if (k==NameKind.free&&env.scope.kind==.function&&env.kindOf n==some .cell) then (n,NameKind.cell) else (n,k)))=some k:=h
  cases hx:y==n with
  |true =>
   by_cases hc:(k0==NameKind.free&&env.scope.kind==.function&&env.kindOf n==some .cell)=true
   ·rw[if_pos hc] at h'
    simp only[Zxw,hx] at h'
    have hk:NameKind.cell=k:=Option.some.inj h'
    subst hk
    have hf:k0=.free:=by
     simp only[Bool.and_eq_true] at hc
     exact beq_iff_eq.mp hc.1.1
    subst hf
    exact⟨(fun z=>nomatch z),fun _=>by simp[Zxw,hx]⟩
   ·rw[if_neg hc] at h'
    simp only[Zxw,hx] at h'
    have hk:k0=k:=Option.some.inj h'
    subst hk
    refine⟨fun z=>by subst z;simp[Zxw,hx],fun z=>?_⟩
    rcases z with z|z
    ·exact absurd z nc0
    ·subst z;simp[Zxw,hx]
  |false =>
   by_cases hc:(k0==NameKind.free&&env.scope.kind==.function&&env.kindOf n==some .cell)=true
   ·rw[if_pos hc] at h'
    simp only[Zxw,hx] at h'
    have:=ih h'
    simpa[Zxw,hx] using this
   ·rw[if_neg hc] at h'
    simp only[Zxw,hx] at h'
    have:=ih h'
    simpa[Zxw,hx] using this
noncomputable def Zd3(N:List Str)(sc scope:Scope)(x:Str):Bool:=
 (scope.names.all fun p=>!(p.2==.cell))&&(scope.kind==.function)&&(scope.names.all fun p=>!(p.2==.local) || scope.names.lookup p.1==some .local)&&(scope.names.lookup x==some .local)
  && (N.all fun y=>!(scope.names.lookup y==some .local))&&(scope.names.all fun p=>!(p.2==.free) || sc.names.lookup p.1==some .cell || sc.names.lookup p.1==some .free)
structure Zbb(N:List Str)(sc scope:Scope)(x:Str):Prop where
 nc:∀p∈scope.names,p.2≠.cell
 kind:scope.kind=.function
 locs:∀p∈scope.names,p.2=.local->scope.names.lookup p.1=some .local
 var:scope.names.lookup x=some .local
 noN:∀y∈N,scope.names.lookup y≠some .local
 fr:∀p∈scope.names,p.2=.free->sc.names.lookup p.1=some .cell\/sc.names.lookup p.1=some .free
theorem Zbb.of{N:List Str}{sc scope:Scope}{x:Str}(h:Zd3 N sc scope x=true):Zbb N sc scope x:=by
 unfold Zd3 at h
 simp only[Bool.and_eq_true,Zxz,Bool.or_eq_true,Bool.not_eq_true',beq_iff_eq,beq_eq_false_iff_ne] at h
 obtain⟨⟨⟨⟨⟨h1,h2⟩,h3⟩,h4⟩,h5⟩,h6⟩:=h
 refine⟨h1,h2,fun p hp e=>?_,h4,h5,fun p hp e=>?_⟩
 ·rcases h3 p hp with z|z
  ·exact absurd e z
  ·exact z
 ·rcases h6 p hp with (z|z)|z
  ·exact absurd e z
  ·exact .inl z
  ·exact .inr z
section
variable {X:Cx}{pins:List (Addr×Obj)}{σ:St}{H:Hp}{s:Shared}
theorem Inv.adopt{D:Addr}{ys:List V}{its:List Value}{n:Nat}(I:Inv X pins σ H s)(hn:H D=none)(h1:X.s₀.heap.objs.size<=D)(hL:D≠X.env.locals)(hc:∀x c,X.env.cells.lookup x=some c->c≠D)(hp:∀p∈X.pn++pins,p.1≠D)(ho:s.heap.get? D=some { cls:=.type "list",data:=.seq its.toArray n })(r:ZU ys its)(hz:ys.length<=sizeLine):Inv X pins σ (upd H D (.lst ys)) s:=by
 refine I.step (h':=s.heap) (g':=s.gens) (d':=s.drawn) (t':=s.toks) (ch:=[D]) (fun b hb=>?_) (fun b o _ _ _ e _=>e) (fun b o _ _ _ e _=>⟨o.slots,e⟩) (fun b o hb _ e=>?_) (fun b o _ e=>⟨o,e⟩)
  (fun b xs e=>?_) (fun b o u e=>?_) (fun b ps e=>⟨#[], ?_⟩) (fun m hm=>hm) (fun b u e=>?_) I.bare
 ·have e:b=D:=by simpa using hb
  subst e
  exact⟨.inr h1,hL,hc,hp⟩
 ·rw[Zv (by simpa using hb)];exact e
 ·rw[Zv (Z2 e hn)];exact e
 ·rw[Zv (Z2 e hn)];exact e
 ·rw[Zv (Z2 e hn),e];simp
 ·by_cases hb:b=D
  ·subst hb
   rw[ZE] at e;cases e
   exact⟨hz,its,n,r,ho⟩
  ·rw[Zv hb] at e
   exact(I.hok b u e).stay (fun c v _ q=>q) (fun c q=>by rw[Zv (Z2 q hn)];exact q) fun c xs q=>by rw[Zv (Z2 q hn)];exact q
variable {scope:Scope}
theorem ZeD{y:Str}(h:scope.names.lookup y=some .free):∃c,(Zh5 scope X.env).lookup y=some c:=by
 have hm:=PySem.mem_of_lookup h
 refine UU (b:=(X.env.cells.lookup y).getD 0) ?_
 unfold Zh5
 exact Zxr.mpr ⟨(y,.free),List.mem_reverse.mpr (Zyw.mpr ⟨hm,rfl⟩),rfl⟩
end
end L2
namespace HL
open PySem PyProof.Rows
section
open PySem.SeqAt
open PySem.AutoSeq1 (wpAny_loadPart')
open PySem.MeetsSeq PySem.MeetsSeq2 PySem.MeetsSeq3 SeqRoads2
theorem VE:∀{vs:List Value}{ns:List Int}{i:Nat} (_:IntsAre vs ns) (h1:i<vs.length) (h2:i<ns.length),∃t,vs[i]=Value.int ns[i] t
 |_,_,0,.cons n t _,_,_=>⟨t,rfl⟩
 |_,_,i+1,.cons n t h,h1,h2=>by
  obtain⟨u,e⟩:=VE (i:=i) h (by simpa using h1) (by simpa using h2)
  exact⟨u,by simpa using e⟩
theorem Zkt(l b:Addr)(items items2:Array Value)(n n2:Nat)(dd dd2:Option Addr)(sl sl2:Array (Option Value))(ns ms:List Int)(hi:IntsAre items.toList ns)(hj:IntsAre items2.toList ms)(k:Nat) :
  ∀i:Nat,min items.size items2.size-i=k->i<=min items.size items2.size->Meets (Builtin.«list.__eq__.loop» ⟨[.ref l,.ref b,rawInt i,rawInt 0],[]⟩)
   (fun A R s=>s.heap.get? l=some { cls:=.type "list",dict:=dd,data:=.seq items n,slots:=sl }/\s.heap.get? b=some { cls:=.type "list",dict:=dd2,data:=.seq items2 n2,slots:=sl2 } /\
    R (.ok (.ret (.bool (HT.Ji (ns.drop i) (ms.drop i))))) s):=by
 have z1:items.size=ns.length:=by rw[<- hi.length];simp
 have z2:items2.size=ms.length:=by rw[<- hj.length];simp
 induction k with
 |zero =>
  intro i hk hle prog w A R s h
  obtain⟨hp,g,d,tk,os⟩:=s;obtain⟨hl,hb,h⟩:=h
  have hmin:min items.size items2.size=i:=by lia
  have fin:HT.Ji (ns.drop i) (ms.drop i)=decide (items.size<items2.size):=by
   rw[z1,z2] at hmin ⊢
   by_cases h1:ns.length<=i
   ·rw[Zyk h1]
    by_cases h2:ms.length<=i
    ·rw[Zyk h2,HT.Zby]
     exact(decide_eq_false (by lia)).symm
    ·rw[Zx5 (by lia),HT.Za0]
     exact(decide_eq_true (by lia)).symm
   ·rw[Zx5 (by lia),Zyk (l:=ms) (by lia),HT.Za1]
    exact(decide_eq_false (by lia)).symm
  rw[fin] at h
  wp_walk using wpAny_loadPart' hl,wpAny_loadPart' hb
  by_cases h1:items.size<=i
  ·have hi1:items[((i:Nat):Int).toNat]?=none:=by simp;lia
   rw[hi1]
   cases h2:items2[((i:Nat):Int).toNat]? <;>
   ·wp_walk using wpAny_loadPart' hl,wpAny_loadPart' hb
    exact h
  ·have hi1:items[((i:Nat):Int).toNat]?=some (items[i]'(by lia)):=by simp
   have hi2:items2[((i:Nat):Int).toNat]?=none:=by simp;lia
   rw[hi1,hi2]
   wp_walk using wpAny_loadPart' hl,wpAny_loadPart' hb
   exact h
 |succ k ih =>
  intro i hk hle prog w A R s h
  obtain⟨hp,g,d,tk,os⟩:=s;obtain⟨hl,hb,h⟩:=h
  wp_walk using wpAny_loadPart' hl,wpAny_loadPart' hb
  have hlt:i<items.size:=by lia
  have hlt2:i<items2.size:=by lia
  have hn1:i<ns.length:=by lia
  have hn2:i<ms.length:=by lia
  have hi1:items[((i:Nat):Int).toNat]?=some items[i]:=by simp[hlt]
  have hi2:items2[((i:Nat):Int).toNat]?=some items2[i]:=by simp[hlt2]
  have hc:((i:Int)+1)=((i+1:Nat):Int):=by push_cast;rfl
  obtain⟨t,e1⟩:∃t,items[i]=Value.int ns[i] t:=by
   obtain⟨t,e⟩:=VE hi (i:=i) (by simpa using hlt) hn1
   exact⟨t,by simpa using e⟩
  obtain⟨u,e2⟩:∃t,items2[i]=Value.int ms[i] t:=by
   obtain⟨t,e⟩:=VE hj (i:=i) (by simpa using hlt2) hn2
   exact⟨t,by simpa using e⟩
  rw[Zx5 hn1,Zx5 hn2,HT.Um] at h
  rw[hi1,hi2,e1,e2]
  obtain⟨e,he,hiff⟩:=HT.Ze4 A.in1 ⟨hp,g,d,tk,os⟩ ns[i] t ms[i] u
  refine wpAny_bind (he prog w _ _ ?_)
  cases e with
  |true =>
   rw[if_pos (hiff.mp rfl)] at h
   wp_walk
   rw[hc]
   exact⟨plainId_quiet plain_eq_loop _,codeAny_builtin entry_eq_loop (by
    rw[Around.under_plainId plain_eq_loop _]
    exact ih (i+1) (by lia) (by lia) prog w A R _ ⟨hl,hb,h⟩)⟩
  |false =>
   rw[if_neg (fun q=>absurd (hiff.mpr q) Bool.false_ne_true)] at h
   wp_walk using wpAny_loadPart' hl,wpAny_loadPart' hb
   rw[hi1,hi2,e1,e2]
   have hri:=HT.ZdW A.in1 ⟨hp,g,d,tk,os⟩ ns[i] t ms[i] u prog w
   wp_walk using hri
   exact h
theorem Zcv(l b:Addr)(items items2:Array Value)(n n2:Nat)(dd dd2:Option Addr)(sl sl2:Array (Option Value))(ns ms:List Int)(hi:IntsAre items.toList ns)(hj:IntsAre items2.toList ms) :
  Meets (Builtin.«list.__lt__» ⟨[.ref l,.ref b],[]⟩)
   (fun _ R s=>s.heap.get? l=some { cls:=.type "list",dict:=dd,data:=.seq items n,slots:=sl }/\s.heap.get? b=some { cls:=.type "list",dict:=dd2,data:=.seq items2 n2,slots:=sl2 } /\
    R (.ok (.ret (.bool (HT.Ji ns ms)))) s):=by
 intro prog w A R s h
 obtain⟨hp,g,d,tk,os⟩:=s;obtain⟨hl,hb,h⟩:=h
 have f3:=AutoSeq1.sub_list_list
 wp_walk using wpAny_loadPart' hl,wpAny_loadPart' hb
 exact⟨plainId_quiet plain_eq_loop _,codeAny_builtin entry_eq_loop (by
  rw[Around.under_plainId plain_eq_loop _]
  exact Zkt l b items items2 n n2 dd dd2 sl sl2 ns ms hi hj _ 0 rfl (Zym _) prog w A R _ ⟨hl,hb,by simpa using h⟩)⟩
end
section
variable {prog:Program}{w:World}{A:Around}{E:Value->Shared->Prop}{s:Shared}
theorem ZaG{l b:Addr}{items items2:Array Value}{ns ms:List Int}{Q:Value->Shared->Prop}(hl:s.heap.IsList l items)(hb:s.heap.IsList b items2)(hi:IntsAre items.toList ns)(hj:IntsAre items2.toList ms)(hu:A.units<cLine)(h:Q (.bool (HT.Ji ns ms)) s):wpAny (model prog w) A (richCompare .Lt (.ref l) (.ref b)) Q E s:=by
 obtain⟨⟨cls,dd,data,sl⟩,ho,hc,n,hd⟩:=id hl
 obtain⟨⟨cls2,dd2,data2,sl2⟩,ho2,hc2,n2,hd2⟩:=id hb
 simp only at hc hd hc2 hd2
 subst hc hd hc2 hd2
 exact richCompare_meets_room (op:=.Lt) ⟨_,ho,rfl⟩ ⟨_,ho2,rfl⟩ PySem.F.slot_list_lt PySem.F.entry_list_lt (PySem.F.args_list_lt_2 _ _) (Zcv l b items items2 n n2 dd dd2 sl sl2 ns ms hi hj)
  ⟨ho,ho2,show Value.bool (HT.Ji ns ms)≠Value.notImplemented/\Q (.bool (HT.Ji ns ms)) s from ⟨(fun x=>nomatch x),h⟩⟩ hu
end
end HL
namespace L2
open PySem PySem.Spec PyProof.Rows
section
variable {X:Cx}
theorem ZbQ{ns:List Int}{its:List Value}(r:ZU (ns.map V.int) its){j:Nat}(h:j<its.length):∃t,its[j]=Value.int (ns.getD j 0) t:=by
 have hl:=r.length
 rw[Zxc] at hl
 obtain⟨t,e⟩:=HL.VE (Ve r) h (by lia)
 exact⟨t,by rw[e,ZwZ,Zxa (by lia)];rfl⟩
theorem Zfy{A:Around}{s:Shared}{ns ms:List Int}{its its2:List Value}(r:ZU (ns.map V.int) its)(r2:ZU (ms.map V.int) its2)(j:Nat)(h1:j<its.toArray.size)(h2:j<its2.toArray.size) :
  SeqAt.EqAt A s its.toArray[j] its2.toArray[j] (ns.getD j 0==ms.getD j 0):=by
 obtain⟨t,e⟩:=ZbQ r (j:=j) (by simpa using h1)
 obtain⟨u,e2⟩:=ZbQ r2 (j:=j) (by simpa using h2)
 have a1:its.toArray[j]=Value.int (ns.getD j 0) t:=by simpa using e
 have a2:its2.toArray[j]=Value.int (ms.getD j 0) u:=by simpa using e2
 rw[a1,a2]
 exact SeqAt.EqAt.int_int _ t _ u
theorem ZdE:∀{ns ms:List Int},ns.length=ms.length->((List.range ns.length).all fun j=>ns.getD j 0==ms.getD j 0)=decide (ns=ms):=by
 intro ns ms hl
 rw[Bool.eq_iff_iff,Zxz,decide_eq_true_iff]
 constructor
 ·intro h
  apply Zy9 hl
  intro i h1 h2
  have:=beq_iff_eq.mp (h i (ZxQ.mpr h1))
  rw[ZwZ,ZwZ,Zxa h1,Zxa h2] at this
  exact this
 ·intro h i _
  rw[h];simp
theorem Zdx{s:Shared}{a b:Addr}{ns ms:List Int}{its its2:List Value}{A:Around}(hu:A.units<cLine)(p1:s.heap.IsList a its.toArray)(p2:s.heap.IsList b its2.toArray)(r1:ZU (ns.map V.int) its)(r2:ZU (ms.map V.int) its2) :
  SeqAt.RcAt A s (.ref a) (.ref b) (decide (ns=ms)):=by
 have l1:=r1.length
 have l2:=r2.length
 rw[Zxc] at l1 l2
 by_cases hl:ns.length=ms.length
 ·have:=SeqAt.RcAt.lists (A:=A) p1 p2 (by simp;lia) hu (fun j h1 h2=>Zfy (A:=A.in1) (s:=s) r1 r2 j h1 h2)
  rw[Zxh,<- l1,ZdE hl] at this
  exact this
 ·have:=SeqAt.RcAt.lists_lengths (A:=A) p1 p2 (by simp;lia) hu
  rw[show decide (ns=ms)=false from decide_eq_false (fun e=>hl (by rw[e]))]
  exact this
theorem Zcq{l:Addr}{i:Int}{its:List Value}(r:ZU [V.ref l,V.int i] its):∃t,its=[Value.ref l,Value.int i t]:=by
 obtain⟨u,w',rfl,r1,t,rfl⟩:=Zls r
 cases r1
 exact⟨t,rfl⟩
theorem ZiU(hc:X.calm=true):Vs X (.builtin "sum") (fun xs H Q=>∃p,∃ns:List Int,xs=[.ref p]/\SqL X.K H p (ns.map V.int)/\Q (.int ns.sum) H):=by
 intro pins s σ H xs us Q I r h
 obtain⟨p,ns,rfl,hq,q⟩:=h
 obtain⟨u,rfl,rx⟩:=UJ r
 cases rx
 obtain⟨its,r',pl,hz⟩:=I.list hq
 have hi:IntsAre its ns:=Ve r'
 obtain⟨xs,hx⟩:=hi.allInts.items
 have hl':s.heap.IsList p (intItems xs):=hx▸pl.isList
 refine sum_intListG (I.ok.hd hc) hl' fun h' tk t' hk=>?_
 have e1:ns=xs.toList.map (·.1):=by
  rw[<- nums_intItems,<- hx]
  exact(show numsOf its.toArray.toList=ns from hi.numsOf).symm
 have e2:preSum (numAt xs) xs.size=ns.sum:=by
  rw[preSum_eq,Zyl (by simp),e1]
 rw[e2]
 exact⟨.int ns.sum,H,I.kept hk,⟨_,rfl⟩,q⟩
theorem Zat:∀{bs:List Bool}{us:List Value},ZU (bs.map V.bl) us->LSm.BoolsAre us bs
 |[],_,.nil=>.nil
 |b::bs,_,.cons r t=>by
  cases r
  exact .cons b (Zat t)
theorem ZiV(hc:X.calm=true):Vs X (.builtin "all") (fun xs H Q=>∃p,∃bs:List Bool,xs=[.ref p]/\SqL X.K H p (bs.map V.bl)/\Q (.bl (bs.all id)) H):=by
 intro pins s σ H xs us Q I r h
 obtain⟨p,bs,rfl,hq,q⟩:=h
 obtain⟨u,rfl,rx⟩:=UJ r
 cases rx
 obtain⟨its,r',pl,hz⟩:=I.list hq
 have hb:=Zat r'
 have hlt:p<s.heap.objs.size:=by obtain⟨_,e,_⟩:=pl.isList;exact Heap.lt_size e
 refine call_all_walk (wpAny_pyIter_list pl.isList ?_)
 refine⟨s.heap.objs.size,[s.heap.objs.size,p],[s.heap.objs.size],its.toArray.size,_,_,fun i=>(bs[i]?).getD true,rfl,Walks.list (A:=X.A.in1) (I.ok.hd hc) _ p (Zxv hlt) its.toArray,
  ⟨⟨_,Heap.get?_push_size _ rfl,rfl,rfl⟩,pl.isList.push _⟩,fun i v s' Q' E' hP hQ=>?_,fun h' tk hk=>?_⟩
 ·obtain⟨b,e,rfl⟩:=hb.get i v (by simpa using hP)
  dsimp only at hQ
  rw[e,ZyA] at hQ
  exact wpAny_truthy_bool hQ
 ·rw[Zxh,hb.length,LSm.range_all]
  exact⟨.bl (bs.all id),H,I.kept (LSm.kept_iter hk),rfl,q⟩
end
end L2
namespace HL
open PySem PyProof.Rows
section
variable {prog:Program}{w:World}{A:Around}{R:Result->Shared->Prop}{I:Addr}{fp wr:List Addr}{n:Nat}{P:Nat->Value->Prop}{St:Nat->Heap->Prop}
def Zor(prog:Program)(w:World)(A:Around)(P:Nat->Value->Prop)(bt:Nat->Nat->Bool)(wr:List Addr)(S:Addr)(hb:Heap):Prop:=
 ∀i j vi vj (s:Shared) (Q:Value->Shared->Prop) (E:Value->Shared->Prop),P i vi->P j vj->(∀b o,b ∉ wr->b≠S->hb.get? b=some o->s.heap.get? b=some o)->Q (.bool (bt i j)) s ->
  wpAny (model prog w) A (richCompare .Lt vi vj) Q E s
theorem ZgM(W:Walks prog w A.in1 I fp wr n P St)(bt:Nat->Nat->Bool)(S:Addr)(hSf:S ∉ fp)(hb:Heap)(hcmp:Zor prog w A.in1 P bt wr S hb) :
  ∀(k j:Nat) (s:Shared) (vb:Value) (c:Nat),n-(j+1)=k->j+1<=n->St (j+1) s.heap->P (argBest bt j) vb ->
  s.heap.get? S=some { cls:=.type "list",dict:=none,data:=.seq #[vb,vb] c,slots:=#[] }->(∀b o,b ∉ wr->b≠S->hb.get? b=some o->s.heap.get? b=some o) ->
  (∀v h' tk,P (argBest bt (n-1)) v->(∀b o,b ∉ wr->b≠S->hb.get? b=some o->h'.get? b=some o)->R (.ok (.ret v)) { s with heap:=h',toks:=tk }) ->
  codeAny (model prog w) A (.builtin "min.loop" ⟨[.ref I,.none,.ref S],[]⟩) R s:=by
 have hSw:S ∉ wr:=by intro h;exact hSf (W.sub _ h)
 have hnm:(toString "min" ++ toString ".loop":String) = "min.loop":=by decide
 intro k
 induction k with
 |zero =>
  intro j s vb c hk hj hst hPb hS hold hR
  have hjn:j+1=n:=by lia
  refine codeAny_builtin F.entry_min_loop ?_
  rw[Around.under_plainId F.plain_min_loop]
  show wpAny _ A.in1 (seqItems? (.ref S) >>= _) _ _ s
  refine wpAny_bind (wpAny_seqItems hS rfl ?_)
  show wpAny _ A.in1 (tryCatch (pyNext (.ref I)) _ >>= _) _ _ s
  refine wpAny_bind (wpAny_tryCatch (W.done s _ _ (hjn▸hst) fun h' tk hk'=>?_))
  have hS':=hk' S _ hSw hS
  show wpAny _ A.in1 (updateSeq S (fun _=>#[]) >>= _) _ _ _
  refine wpAny_bind (wpAny_updateSeq hS' rfl (wpAny_bind (wpAny_letGo (wpAny_pure ?_))))
  refine hR vb _ tk (by rw[<- hjn];exact hPb) fun b o hbw hbS e=>?_
  exact(Heap.get?_update_other _ _ (Ne.symm hbS)).trans (hk' b o hbw (hold b o hbw hbS e))
 |succ k ih =>
  intro j s vb c hk hj hst hPb hS hold hR
  have hltn:j+1<n:=by lia
  refine codeAny_builtin F.entry_min_loop ?_
  rw[Around.under_plainId F.plain_min_loop]
  show wpAny _ A.in1 (seqItems? (.ref S) >>= _) _ _ s
  refine wpAny_bind (wpAny_seqItems hS rfl ?_)
  show wpAny _ A.in1 (tryCatch (pyNext (.ref I)) _ >>= _) _ _ s
  refine wpAny_bind (wpAny_tryCatch (W.item (j+1) s _ _ hltn hst fun v h' tk hP hst' hk'=>?_))
  have hS':=hk' S _ hSw hS
  have hold':∀b o,b ∉ wr->b≠S->hb.get? b=some o->h'.get? b=some o:=fun b o hbw hbS e=>hk' b o hbw (hold b o hbw hbS e)
  show wpAny _ A.in1 (tryCatch (holding [v,v] (richCompare .Lt v vb >>= _)) _ >>= _) _ _ _
  refine wpAny_bind (wpAny_tryCatch (wpAny_holding (wpAny_bind (hcmp (j+1) (argBest bt j) v vb { s with heap:=h',toks:=tk } _ _ hP hPb hold' ?_))))
  refine wpAny_bind (wpAny_holding (wpAny_truthy_bool ?_))
  refine wpAny_bind (wpAny_letGo (wpAny_pure ?_))
  cases hbt:bt (j+1) (argBest bt j) with
  |true =>
   simp only[if_true]
   refine wpAny_bind (wpAny_updateSeq hS' rfl (wpAny_bind (wpAny_letGo ?_)))
   rw[hnm]
   refine wpAny_pure ⟨plainId_quiet F.plain_min_loop _,ih (j+1) _ v _ (by lia) hltn (W.frame _ _ _ hst' fun b hbf o e=>?_) (by simp only[argBest,hbt,if_true];exact hP) (Heap.get?_update_self _ hS' rfl) (fun b o hbw hbS e=>?_)
    fun v' h'' tk'' hP' hk''=>hR v' h'' tk'' hP' hk''⟩
   ·exact(Heap.get?_update_other _ _ (fun z:S=b=>hSf (by rw[z];exact hbf))).trans e
   ·exact(Heap.get?_update_other _ _ (Ne.symm hbS)).trans (hold' b o hbw hbS e)
  |false =>
   simp only[Bool.false_eq_true,if_false]
   refine wpAny_bind (wpAny_letGo ?_)
   rw[hnm]
   exact wpAny_pure ⟨plainId_quiet F.plain_min_loop _,ih (j+1) _ vb c (by lia) hltn hst' (by simp only[argBest,hbt,Bool.false_eq_true,if_false];exact hPb) hS' hold' fun v' h'' tk'' hP' hk''=>hR v' h'' tk'' hP' hk''⟩
end
section
variable {prog:Program}{w:World}{A:Around}{E:Value->Shared->Prop}{s:Shared}
theorem ZcG{x:Value}{Q:Value->Shared->Prop}(h:wpAny (model prog w) A.in1 (pyIter x) (fun it s₂=>∃I fp wr n P St bt,it=.ref I/\Walks prog w A.in1 I fp wr n P St/\St 0 s₂.heap/\(∀b∈fp,b<s₂.heap.objs.size)/\0<n/\Zor prog w A.in1 P bt wr s₂.heap.objs.size s₂.heap /\
   ∀v h' tk,P (argBest bt (n-1)) v->(∀b o,b ∉ wr->s₂.heap.get? b=some o->h'.get? b=some o)->Q v { s₂ with heap:=h',toks:=tk }) E s) :
  wpAny (model prog w) A (call (.builtin "min") [x]) Q E s:=by
 have hnm:(toString "min" ++ toString ".loop":String) = "min.loop":=by decide
 refine call_function_tree F.kind_min F.plain_min F.entry_min (F.args_min1 _) ?_
 show wpAny _ A.in1 (Builtin.Builtins.bindParams "min" ["key", "default"] 0 ⟨[],[]⟩ >>= _) _ _ s
 refine wpAny_bind (wpAny_of_eq (show Builtin.Builtins.bindParams "min" ["key", "default"] 0 ⟨[],[]⟩=pure [none,none] from rfl) (wpAny_bind (wpAny_pure ?_)))
 refine wpAny_bind (wpAny_mono h (fun it s₂ h₂=>?_) fun _ _ e=>e)
 obtain⟨I,fp,wr,n,P,St,bt,rfl,W,hst,hfp,hn,hcmp,hQ⟩:=h₂
 refine wpAny_bind (wpAny_newObj_type ?_)
 have hSf:s₂.heap.objs.size ∉ fp:=fun z=>absurd (hfp _ z) (ZxE _)
 have hSw:s₂.heap.objs.size ∉ wr:=fun z=>hSf (W.sub _ z)
 rw[hnm]
 refine wpAny_pure ⟨plainId_quiet F.plain_min_loop _, ?_⟩
 generalize hs3:({ s₂ with heap:=s₂.heap.push { cls:=.type "list",dict:=none,data:=.seq ([]:List Value).toArray } }:Shared)=s3
 have k3:∀b o,s₂.heap.get? b=some o->s3.heap.get? b=some o:=fun b o e=>by rw[<- hs3];exact Heap.get?_push_of_some _ e
 have st3:St 0 s3.heap:=W.frame _ _ _ hst fun b _ o e=>k3 b o e
 have hS3:s3.heap.get? s₂.heap.objs.size=some { cls:=.type "list",dict:=none,data:=.seq #[] 0,slots:=#[] }:=by rw[<- hs3];exact Heap.get?_push_size _ rfl
 have e3:∀h' tk,({ s3 with heap:=h',toks:=tk }:Shared)={ s₂ with heap:=h',toks:=tk }:=fun h' tk=>by rw[<- hs3]
 refine codeAny_builtin F.entry_min_loop ?_
 rw[Around.under_plainId F.plain_min_loop]
 show wpAny _ A.in1 (seqItems? (.ref s₂.heap.objs.size) >>= _) _ _ s3
 refine wpAny_bind (wpAny_seqItems hS3 rfl ?_)
 show wpAny _ A.in1 (tryCatch (pyNext (.ref I)) _ >>= _) _ _ s3
 refine wpAny_bind (wpAny_tryCatch (W.item 0 s3 _ _ hn st3 fun v h' tk hP hst' hk'=>?_))
 have hS':=hk' _ _ hSw hS3
 show wpAny _ A.in1 (updateSeq s₂.heap.objs.size (fun _=>#[v,v]) >>= _) _ _ _
 refine wpAny_bind (wpAny_updateSeq hS' rfl ?_)
 rw[hnm]
 refine wpAny_pure ⟨plainId_quiet F.plain_min_loop _,ZgM W bt s₂.heap.objs.size hSf s₂.heap hcmp _ 0 _ v _ rfl hn (W.frame _ _ _ hst' fun b hbf o e=>?_) hP (Heap.get?_update_self _ hS' rfl) (fun b o hbw hbS e=>?_) fun v' h'' tk'' hP' hk''=>?_⟩
 ·exact(Heap.get?_update_other _ _ (fun z:s₂.heap.objs.size=b=>hSf (by rw[z];exact hbf))).trans e
 ·exact(Heap.get?_update_other _ _ (Ne.symm hbS)).trans (hk' b o hbw (k3 b o e))
 ·have:=hQ v' h'' tk'' hP' fun b o hbw e=>hk'' b o hbw (Zxv (Heap.lt_size e)) e
  rw[<- e3] at this
  exact this
end
section
open PySem.SeqAt
open PySem.AutoSeq1 (wpAny_loadPart')
open PySem.MeetsSeq PySem.MeetsSeq2 PySem.MeetsSeq3
theorem Zkg(l b a1 a2:Addr)(i j:Int)(t u:Tok)(n n2:Nat)(dd dd2:Option Addr)(sl sl2:Array (Option Value))(e c:Bool) :
  Meets (Builtin.«tuple.__lt__» ⟨[.ref l,.ref b],[]⟩)
   (fun A R s=>s.heap.get? l=some { cls:=.type "tuple",dict:=dd,data:=.seq #[.ref a1,.int i t] n,slots:=sl }/\s.heap.get? b=some { cls:=.type "tuple",dict:=dd2,data:=.seq #[.ref a2,.int j u] n2,slots:=sl2 } /\
    EqAt A.in1 s (.ref a1) (.ref a2) e/\(∀(prog:Program) (w:World) (E:Value->Shared->Prop) (Q:Value->Shared->Prop),Q (.bool c) s->wpAny (model prog w) A.in1 (richCompare .Lt (.ref a1) (.ref a2)) Q E s) /\
    R (.ok (.ret (.bool (if e=true then decide (i<j) else c)))) s):=
 .of_wp fun prog w A R s h=>by
  obtain⟨hp,g,d,tk,os⟩:=s;obtain⟨hl,hb,he,hc,h⟩:=h
  have f2:=AutoSeq1.sub_tuple_tuple
  wp_walk using wpAny_loadPart' hl,wpAny_loadPart' hb,wpAny_forIn_list _ (fun Zcf b s'=>b.1=none/\s'=⟨hp,g,d,tk,os⟩ /\
   ((Zcf=[(Value.ref a1,Value.ref a2),(Value.int i t,Value.int j u)])\/(e=true/\Zcf=[(Value.int i t,Value.int j u)])\/(e=true/\i=j/\Zcf=[]))) _
  case turn =>
   rintro⟨y,x⟩ Zcf b s' ⟨hb',rfl,h1|⟨h0,h1⟩|⟨_,_,h1⟩⟩
   ·injection h1 with hyx hrest
    injection hyx with hy hx
    subst hy hx
    refine wpAny_bind (he prog w _ _ ?_)
    cases e with
    |true =>
     wp_walk
     exact⟨rfl,rfl,.inr (.inl ⟨rfl,hrest⟩)⟩
    |false =>
     have hri:=hc prog w
     wp_walk using hri
     exact⟨_,rfl,by simpa using h⟩
   ·injection h1 with hyx hrest
    injection hyx with hy hx
    subst hy hx
    rw[if_pos h0] at h
    obtain⟨e',he',hiff⟩:=HT.Ze4 A.in1 ⟨hp,g,d,tk,os⟩ i t j u
    refine wpAny_bind (he' prog w _ _ ?_)
    cases e' with
    |true =>
     wp_walk
     exact⟨rfl,rfl,.inr (.inr ⟨h0,hiff.mp rfl,hrest⟩)⟩
    |false =>
     have hri:=HT.ZdW A.in1 ⟨hp,g,d,tk,os⟩ i t j u prog w
     wp_walk using hri
     exact⟨_,rfl,by simpa using h⟩
   ·cases h1
  case fin =>
   rintro⟨b1,b2⟩ s' ⟨hb',rfl,h1|⟨h0,h1⟩|⟨h0,hij,h1⟩⟩
   ·cases h1
   ·cases h1
   ·simp only at hb'
    subst hb'
    rw[if_pos h0] at h
    wp_walk
    exact⟨_,rfl,by simpa[Builtin.Tuple.tupleCompareSizes,hij] using h⟩
  case h =>
   exact⟨rfl,rfl,.inl rfl⟩
end
end HL
namespace HL
open PySem
theorem Vv:∀a:List Int,HT.Ji a a=false
 |[]=>rfl
 |x::xs=>by rw[HT.Um,if_pos rfl];exact Vv xs
theorem U4:∀{a b c:List Int},HT.Ji a b=true->HT.Ji b c=true->HT.Ji a c=true
 |[],[],_,h,_=>by simp[HT.Ji] at h
 |[],_::_,[],_,h=>by simp[HT.Ji] at h
 |[],_::_,_::_,_,_=>rfl
 |_::_,[],_,h,_=>by simp[HT.Ji] at h
 |_::_,_::_,[],_,h=>by simp[HT.Ji] at h
 |x::xs,y::ys,z::zs,h1,h2=>by
  rw[HT.Um] at h1 h2 ⊢
  by_cases e1:x=y
  ·rw[if_pos e1] at h1
   subst e1
   by_cases e2:x=z
   ·rw[if_pos e2] at h2 ⊢
    exact U4 h1 h2
   ·rw[if_neg e2] at h2 ⊢
    exact h2
  ·rw[if_neg e1] at h1
   have h1':=of_decide_eq_true h1
   by_cases e2:y=z
   ·subst e2
    rw[if_neg e1]
    exact h1
   ·rw[if_neg e2] at h2
    have h2':=of_decide_eq_true h2
    rw[if_neg (by lia)]
    exact decide_eq_true (by lia)
theorem U5:∀{a b:List Int},HT.Ji a b=false->HT.Ji b a=false->a=b
 |[],[],_,_=>rfl
 |[],_::_,h,_=>by simp[HT.Ji] at h
 |_::_,[],_,h=>by simp[HT.Ji] at h
 |x::xs,y::ys,h1,h2=>by
  rw[HT.Um] at h1 h2
  by_cases e:x=y
  ·subst e
   rw[if_pos rfl] at h1 h2
   rw[U5 h1 h2]
  ·rw[if_neg e] at h1
   rw[if_neg (Ne.symm e)] at h2
   have:=of_decide_eq_false h1
   have:=of_decide_eq_false h2
   lia
noncomputable def Je(a b:List Int×Int):Bool:=if a.1=b.1 then decide (a.2<b.2) else HT.Ji a.1 b.1
theorem JT(a:List Int×Int):Je a a=false:=by unfold Je;rw[if_pos rfl];exact decide_eq_false (by lia)
theorem VS{a b c:List Int×Int}(h1:Je a b=true)(h2:Je b c=true):Je a c=true:=by
 unfold Je at *
 by_cases e1:a.1=b.1
 ·rw[if_pos e1] at h1
  rw[e1]
  by_cases e2:b.1=c.1
  ·rw[if_pos e2] at h2 ⊢
   have:=of_decide_eq_true h1
   have:=of_decide_eq_true h2
   exact decide_eq_true (by lia)
  ·rw[if_neg e2] at h2 ⊢
   exact h2
 ·rw[if_neg e1] at h1
  by_cases e2:b.1=c.1
  ·rw[if_pos e2] at h2
   rw[<- e2,if_neg e1]
   exact h1
  ·rw[if_neg e2] at h2
   have h3:=U4 h1 h2
   by_cases e3:a.1=c.1
   ·rw[e3,Vv] at h3;cases h3
   ·rw[if_neg e3];exact h3
theorem UF{bt:Nat->Nat->Bool}(irr:∀i,bt i i=false)(tr:∀i j k,bt i j=true->bt j k=true->bt i k=true):∀n,argBest bt n<=n/\∀j,j<=n->bt j (argBest bt n)=false
 |0=>⟨Zxi _,fun j hj=>by rw[Nat.le_zero.mp hj];exact irr 0⟩
 |n+1=>by
  obtain⟨h1,h2⟩:=UF irr tr n
  unfold argBest
  by_cases hb:bt (n+1) (argBest bt n)=true
  ·rw[if_pos hb]
   refine⟨Zxi _,fun j hj=>?_⟩
   by_cases hj':j=n+1
   ·rw[hj'];exact irr _
   ·cases hc:bt j (n+1) with
    |false=>rfl
    |true=>have:=tr _ _ _ hc hb;rw[h2 j (by lia)] at this;cases this
  ·rw[if_neg hb]
   refine⟨Nat.le_succ_of_le h1,fun j hj=>?_⟩
   by_cases hj':j=n+1
   ·rw[hj'];exact Bool.eq_false_iff.mpr hb
   ·exact h2 j (by lia)
end HL
namespace L2
open PySem PySem.Spec PyProof.Rows
section
variable {X:Cx}
theorem ZiC{ns ms:List Int}(e:ns.map V.int=ms.map V.int):ns=ms:=by
 have:=congrArg (List.map fun v=>match v with|V.int i=>i|_=>0) e
 simpa[ZxD,Function.comp_def] using this
noncomputable abbrev PT4:=Addr×Addr×List Int×Int
theorem Zh7(hu:X.A.units+1<cLine)(hc:X.calm=true)(hu3:X.A.units+3<cLine):Vs X (.builtin "min") (fun xs H Q=>∃p,∃ts:List PT4,xs=[.ref p]/\SqL X.K H p (ts.map fun t=>V.ref t.1) /\
  (∀t∈ts,SqT X.K H t.1 [.ref t.2.1,.int t.2.2.2]/\SqL X.K H t.2.1 (t.2.2.1.map V.int))/\0<ts.length/\∀t,t∈ts->(∀u∈ts,HL.Je (u.2.2.1,u.2.2.2) (t.2.2.1,t.2.2.2)=false)->Q (.ref t.1) H):=by
 intro pins s σ H xs us Q I r h
 obtain⟨p,ts,rfl,hq,hall,hne,q⟩:=h
 obtain⟨u,rfl,rx⟩:=UJ r
 cases rx
 obtain⟨its,r',pl,hz⟩:=I.list hq
 have hlen:=r'.length
 rw[Zxc] at hlen
 have hlt:p<s.heap.objs.size:=by obtain⟨_,e,_⟩:=pl.isList;exact Heap.lt_size e
 have item:∀i v,its[i]?=some v->∃t:PT4,ts[i]?=some t/\v=Value.ref t.1:=fun i v hv=>by
  have hi:i<its.length:=(Zx0.mp hv).1
  have hx:(ts.map fun t=>V.ref t.1)[i]?=some (V.ref (ts[i]'(by lia)).1):=by simp[Zxa (show i<ts.length by lia)]
  obtain⟨w,hw,rw'⟩:=r'.get hx
  rw[hv] at hw;cases hw
  exact⟨ts[i]'(by lia),Zxa (by lia),rw'⟩
 let d0:PT4:=(0,0,[],0)
 let key:Nat->List Int×Int:=fun i=>((ts.getD i d0).2.2.1,(ts.getD i d0).2.2.2)
 refine HL.ZcG (wpAny_pyIter_list pl.isList ?_)
 refine⟨s.heap.objs.size,[s.heap.objs.size,p],[s.heap.objs.size],its.toArray.size,_,_,fun i j=>HL.Je (key i) (key j),rfl,Walks.list (A:=X.A.in1) (I.ok.hd hc) _ p (Zxv hlt) its.toArray,
  ⟨⟨_,Heap.get?_push_size _ rfl,rfl,rfl⟩,pl.isList.push _⟩,fun b hb=>?_,by rw[Zxh];lia, ?_,fun v h' tk hv hk=>?_⟩
 ·show b<(s.heap.push _).objs.size
  rw[Heap.size_push]
  rcases Zxd.mp hb with rfl|hb
  ·exact Zyp _
  ·rw[Zx7.mp hb];exact ZxW hlt
 ·intro i j vi vj s' Q' E' hi hj hk hQ
  obtain⟨t,et,rfl⟩:=item i vi (by simpa using hi)
  obtain⟨t',et',rfl⟩:=item j vj (by simpa using hj)
  have k':∀b o,s.heap.get? b=some o->s'.heap.get? b=some o:=fun b o e=>by
   have hb:=Heap.lt_size e
   exact hk b o (by simp;exact Zxv hb) (by show b≠(s.heap.push _).objs.size;rw[Heap.size_push];exact Zxv (ZxW hb)) (Heap.get?_push_of_some _ e)
  obtain⟨hT,hL⟩:=hall t (Zx3 et)
  obtain⟨hT',hL'⟩:=hall t' (Zx3 et')
  have I':Inv X pins σ H { s with heap:=s'.heap,toks:=s'.toks }:=I.kept k'
  obtain⟨z,r1,p1,_⟩:=I'.tuple hT
  obtain⟨z2,r2,p2,_⟩:=I'.tuple hT'
  obtain⟨c,rfl⟩:=Zcq r1
  obtain⟨c',rfl⟩:=Zcq r2
  obtain⟨m,r3,p3,_⟩:=I'.list hL
  obtain⟨m2,r4,p4,_⟩:=I'.list hL'
  have ek:key i=(t.2.2.1,t.2.2.2):=by show ((ts.getD i d0).2.2.1,(ts.getD i d0).2.2.2)=_;rw[ZwZ,et];rfl
  have ek':key j=(t'.2.2.1,t'.2.2.2):=by show ((ts.getD j d0).2.2.1,(ts.getD j d0).2.2.2)=_;rw[ZwZ,et'];rfl
  have hEq:SeqAt.EqAt X.A.in1.in1 s' (.ref t.2.1) (.ref t'.2.1) (decide (t.2.2.1=t'.2.2.1)):=by
   by_cases hab:t.2.1=t'.2.1
   ·rw[<- hab] at hL' ⊢
    rw[decide_eq_true (ZiC (I'.list_inj hL hL'))]
    exact SeqAt.EqAt.same _
   ·exact SeqAt.EqAt.of_refs hab (Zdx (by show X.A.units+1+1<cLine;lia) p3.isList p4.isList r3 r4)
  have hLt:∀(prog:Program) (w:World) (E:Value->Shared->Prop) (Q:Value->Shared->Prop),Q (.bool (HT.Ji t.2.2.1 t'.2.2.1)) s'->wpAny (model prog w) X.A.in1.in1 (richCompare .Lt (.ref t.2.1) (.ref t'.2.1)) Q E s':=fun prog w E Q hq =>
   HL.ZaG p3.isList p4.isList (by simpa using Ve r3) (by simpa using Ve r4) (by show X.A.units+1+1<cLine;lia) hq
  obtain⟨⟨cls,dd,data,sl⟩,ho,hc1,n,hd⟩:=id p1
  obtain⟨⟨cls2,dd2,data2,sl2⟩,ho2,hc2,n2,hd2⟩:=id p2
  simp only at hc1 hd hc2 hd2
  subst hc1 hd hc2 hd2
  have hv:(if decide (t.2.2.1=t'.2.2.1)=true then decide (t.2.2.2<t'.2.2.2) else HT.Ji t.2.2.1 t'.2.2.1)=HL.Je (key i) (key j):=by
   rw[ek,ek']
   unfold HL.Je
   by_cases e:t.2.2.1=t'.2.2.1
   ·rw[if_pos (decide_eq_true e),if_pos e]
   ·rw[if_neg (by simp[e]),if_neg e]
  have hQ2:Q' (Value.bool (if decide (t.2.2.1=t'.2.2.1)=true then decide (t.2.2.2<t'.2.2.2) else HT.Ji t.2.2.1 t'.2.2.1)) s':=by rw[hv];exact hQ
  exact richCompare_meets_room (op:=.Lt) ⟨_,ho,rfl⟩ ⟨_,ho2,rfl⟩ PySem.F.slot_tuple_lt PySem.F.entry_tuple_lt (PySem.F.args_tuple_lt_2 _ _)
   (HL.Zkg t.1 t'.1 t.2.1 t'.2.1 t.2.2.2 t'.2.2.2 c c' n n2 dd dd2 sl sl2 (decide (t.2.2.1=t'.2.2.1)) (HT.Ji t.2.2.1 t'.2.2.1))
   ⟨ho,ho2,hEq,hLt,⟨(fun x=>nomatch x),hQ2⟩⟩ (by show X.A.units+1<cLine;lia)
 ·obtain⟨t,et,rfl⟩:=item _ v (by simpa using hv)
  obtain⟨b1,b2⟩:=HL.UF (bt:=fun i j=>HL.Je (key i) (key j)) (fun i=>HL.JT _) (fun i j k=>HL.VS) (its.toArray.size-1)
  rw[Zxh] at b1 b2
  refine⟨.ref t.1,H,I.kept (LSm.kept_iter hk),rfl,q t (Zx3 et) fun u hu=>?_⟩
  obtain⟨j,hj,rfl⟩:=Zya hu
  have:=b2 j (by lia)
  have ek:key (argBest (fun i j=>HL.Je (key i) (key j)) (its.length-1))=(t.2.2.1,t.2.2.2):=by
   show ((ts.getD _ d0).2.2.1,(ts.getD _ d0).2.2.2)=_
   rw[ZwZ,et];rfl
  rw[ek] at this
  have ej:key j=(ts[j].2.2.1,ts[j].2.2.2):=by
   show ((ts.getD j d0).2.2.1,(ts.getD j d0).2.2.2)=_
   rw[ZwZ,Zxa hj];rfl
  rw[ej] at this
  exact this
def ZlH(K:W.Frag):List V->Hp->VK->Prop:=fun xs H Q=>∃p,∃ts:List PT4,xs=[.ref p]/\SqL K H p (ts.map fun t=>V.ref t.1) /\
  (∀t∈ts,SqT K H t.1 [.ref t.2.1,.int t.2.2.2]/\SqL K H t.2.1 (t.2.2.1.map V.int))/\0<ts.length/\∀t,t∈ts->(∀u∈ts,HL.Je (u.2.2.1,u.2.2.2) (t.2.2.1,t.2.2.2)=false)->Q (.ref t.1) H
end
def Dfn(K:W.Frag)(mg:Str->Option Value)(x:Str)(st:Stmt):Prop:=∃f fd,Fun K x x st f fd/\mg x=some (.ref f)
noncomputable abbrev Zt(x:Str)(st:Stmt)(ps:List Str):Prop:=∀(kV doc pm:Value) (an:Option Addr) (cdv ct:Value) (us:List Value),us.length=ps.length ->
 bindArgs (PySem.W.fnOf x x (Zs st) (Zo st) (Zd st) .none kV doc pm an cdv ct) ⟨us,[]⟩=pure (ps.zip us)
def Ok(P:Program)(w:World)(K:W.Frag)(mg:Str->Option Value)(base:Heap)(k:Nat)(x:Str)(ps:List Str)(sp:Sp):Prop:=
 ∃f fd,Jv P w K mg base CX0 k f fd ps sp/\mg x=some (.ref f)/\PySem.W.keepIn K (.ref f)=true/\ZbL K fd ps []
theorem VD{P:Program}{w:World}{K:W.Frag}{mg:Str->Option Value}{base:Heap}{k:Nat}{x:Str}{st:Stmt}{ps:List Str}{sp:Sp}(d:Dfn K mg x st)(b:Zt x st ps)(h:∀{f fd},Fun K x x st f fd->Jv P w K mg base CX0 k f fd ps sp):Ok P w K mg base k x ps sp:=by
 obtain⟨f,fd,F,hm⟩:=d
 exact⟨f,fd,h F,hm,F.kp,F.binds b⟩
section
variable {X:Cx}{k:Nat}{x:Str}{ps:List Str}{sp:Sp}{p pos:Pos}{e:Expr}{es:List Expr}{t:TA}
noncomputable def ZaC(sp:Sp)(t:TA):TE:=fun σ H Q=>t σ H fun vs H1=>sp vs H1 Q E0
theorem Zq(G:Ok X.prog X.w X.K X.mg X.base k x ps sp)(hr:Q2 k X.A)(hg:Gl X x)(ha:PA X (e::es) t)(hdb:(x==("__debug__":Str))=false:=by decide)(he:starEach (e::es) X.env=(false,eval e X.env)::starEach es X.env:=by rfl)(hpl:(backTo pos (starEach es X.env)).any (·.1)=false:=by rfl):PE X (.Call (.Name x p) (e::es) [] pos) (ZaC sp t):=by
 obtain⟨f,fd,F,hm,hk,hb⟩:=G
 intro pins s σ H Q I h
 refine Zkd (CX:=CX0) (E:=E0) (dvs:=[]) F hr hg hm hk hb .nil ZlW ha hdb he hpl pins s σ H Q I ?_
 have e:(fun vs H1=>sp (vs++[]) H1 Q E0)=fun vs H1=>sp vs H1 Q E0:=by funext vs H1;rw[ZxA]
 show t σ H (fun vs H1=>sp (vs++[]) H1 Q E0)
 rw[e]
 exact h
theorem Zcm(G:Ok X.prog X.w X.K X.mg X.base k x ps sp)(hr:Q2 k X.A)(hg:Gl X x)(hdb:(x==("__debug__":Str))=false:=by decide):PE X (.Call (.Name x p) [] [] pos) (ZaC sp Zf9):=by
 obtain⟨f,fd,F,hm,hk,hb⟩:=G
 exact Zil (CX:=CX0) (E:=E0) (dvs:=[]) F hr hg hm hk hb .nil ZlW hdb
theorem Ui{i:Int}(hm:∃t,X.mg x=some (.int i t))(hg:Gl X x)(hd:(x==("__debug__":Str))=false:=by decide):PE X (.Name x pos) (tC (.int i)):=by
 obtain⟨t,hm⟩:=hm
 exact QY (v:=.int i) hg hm ⟨t,rfl⟩ hd
end
theorem Zh9{X:Cx}:Vs X (.builtin "len") (fun xs H Q=>∃p ys,xs=[.ref p]/\(SqL X.K H p ys\/SqT X.K H p ys)/\Q (.int ys.length) H):=ZcJ
theorem ZX:bootBuiltins "len"=some (.builtin "len"):=by decide +kernel
theorem ZF:bootBuiltins "isinstance"=some (.builtin "isinstance"):=by decide +kernel
theorem Uz:bootBuiltins "sum"=some (.builtin "sum"):=by decide +kernel
theorem ZeG:bootBuiltins "all"=some (.builtin "all"):=by decide +kernel
theorem ZhI:bootBuiltins "min"=some (.builtin "min"):=by decide +kernel
theorem Ub:bootBuiltins "list"=some (.type "list"):=by decide +kernel
theorem ZhC:bootBuiltins "int"=some (.type "int"):=by decide +kernel
theorem ZkO:bootBuiltins "bool"=some (.type "bool"):=by decide +kernel
theorem QL:bootBuiltins "tuple"=some (.type "tuple"):=by decide +kernel
section
variable {X:Cx}{K:W.Frag}
theorem ZL(e:X.K=K:=by rfl):IxR X (rIx K):=by subst e;exact Zmu
theorem Z4(e:X.K=K:=by rfl):Vs X (.builtin "len") (fun xs H Q=>∃p ys,xs=[.ref p]/\(SqL K H p ys\/SqT K H p ys)/\Q (.int ys.length) H):=by subst e;exact Zh9
theorem Jo(hc:X.calm=true)(e:X.K=K:=by rfl):Vs X (.builtin "sum") (fun xs H Q=>∃p,∃ns:List Int,xs=[.ref p]/\SqL K H p (ns.map V.int)/\Q (.int ns.sum) H):=by subst e;exact ZiU hc
theorem Qe(hc:X.calm=true)(e:X.K=K:=by rfl):Vs X (.builtin "all") (fun xs H Q=>∃p,∃bs:List Bool,xs=[.ref p]/\SqL K H p (bs.map V.bl)/\Q (.bl (bs.all id)) H):=by subst e;exact ZiV hc
theorem Qv(e:X.K=K:=by rfl):Vs X (.type "list") (fun xs H Q=>∃p ys,xs=[.ref p]/\(SqL K H p ys\/SqT K H p ys)/\∀l,H l=none->Q (.ref l) (upd H l (.lst ys))):=by subst e;exact ZcH
theorem Jy(e:X.K=K:=by rfl):SlR X (Zne K):=by subst e;exact ZjU
theorem Jq{tg l:Expr}{tl:TE}(hl:PE X l tl)(e:X.K=K:=by rfl):PI X tg l (ZiD K tl):=by subst e;exact ZjZ hl
variable {u:TS}{H:Hp}{b:TA}
theorem Zex{n:Nat}{k:Int}(h0:0<=k)(h1:k<n):ixN n k=some k.toNat:=by unfold ixN;rw[if_pos h0,if_pos h1]
theorem Z9.upd{H H':Hp}{p:Addr}{o:HO}(h:Z9 H H')(hp:H p=none):Z9 H (upd H' p o):=fun b u e=>by
 rw[Zv (Z2 e hp)]
 exact h b u e
theorem Z9.new{H:Hp}{p:Addr}{o:HO}(hp:H p=none):Z9 H (L2.upd H p o):=Z9.upd (Z9.refl H) hp
theorem UV{n:Nat}(h:n<=1000):n<=sizeLine:=Zx2 h (by decide)
end
inductive Sh where
 |dk (ks:List Key)|dt (ks:List (List Key))|ob (n:Str) (fs:List Str)
  |jk
  |ls
inductive PV where
 |non|bl (b:Bool)|int (i:Int)|str (x:Str)|lst (xs:List PV)|tup (xs:List PV)
  |exc (n:Str)
  |exa (n:Str) (i:Int)
  |box (p:Option Addr) (s:Sh) (xs:List PV)
  |fz (xs:List PV)
mutual
noncomputable def PV.flat:PV->Bool
 |.lst _=>false
 |.tup xs=>PV.flats xs
 |.non=>true
 |.bl _=>true
 |.int _=>true
 |.str _=>true
 |.exc _=>true
 |.exa _ _=>true
 |.box _ _ _=>false
 |.fz xs=>PV.flats xs
noncomputable def PV.flats:List PV->Bool
 |[]=>true
 |x::xs=>x.flat&&PV.flats xs
end
def KL(K:W.Frag)(a:Addr)(xs:List V):Prop:=
 ∃(o:Obj) (its:Array Value) (n:Nat),K.lookup a=some o/\o.cls=.type "list"/\o.dict=none/\o.data=.seq its n/\its.size<=sizeLine/\ZU xs its.toList
noncomputable def ImO:HO->Prop
 |.tup _=>True
 |.frz _ _=>True
 |.xd _=>True
 |_=>False
def Im(K:W.Frag)(H:Hp)(a:Addr)(u:HO):Prop:=H a=some u/\ImO u
noncomputable def Lvo:HO->Prop
 |.lst _=>True
 |.dK _=>True
 |.dT _=>True
 |.ins _ _ _=>True
 |_=>False
noncomputable abbrev LvO:={ u:HO // Lvo u }
def Za6(K:W.Frag)(n:Str)(C:Addr):Prop:=PySem.W.nsIn K mainGlobals n=some (some (.ref C))
def Zlh(K:W.Frag)(H:Hp)(n:Str)(v:V):Prop:=∃a o C,v=.ref a/\Im K H a (.frz o (.own a))/\o.cls=.ref C/\o.dict=none/\PySem.W.notCls o=true/\Za6 K n C
def Zli(K:W.Frag)(H:Hp)(n:Str)(i:Int)(v:V):Prop:=∃a o C d fs,v=.ref a/\Im K H a (.frz o (.own a))/\Im K H d (.xd fs)/\o.cls=.ref C/\o.dict=some d/\PySem.W.notCls o=true/\Za6 K n C/\fs=[(("at":Str),V.int i)]
noncomputable def Zlr(K:W.Frag):Sh->List V->HO->Prop
 |.dk ks,vs,u=>ks.length=vs.length/\u=.dK (ks.zip vs)
 |.dt ks,vs,u=>ks.length=vs.length/\u=.dT (ks.zip vs)
 |.ob n fs,vs,u=>fs.length=vs.length/\∃C dx,u=.ins C dx (fs.zip vs)/\Za6 K n C
 |.jk,vs,u=>vs=[]/\∃ws,u=.lst ws
 |.ls,vs,u=>u=.lst vs
def ZnB(p:Option Addr)(a:Addr):Prop:=match p with
 |none=>True
 |some b=>a=b
theorem Zlr.lv{K:W.Frag}{s:Sh}{vs:List V}{u:HO}(h:Zlr K s vs u):Lvo u:=by
 cases s with
 |dk ks=>obtain⟨_,rfl⟩:=h;trivial
 |dt ks=>obtain⟨_,rfl⟩:=h;trivial
 |ob n fs=>obtain⟨_,C,dx,rfl,_⟩:=h;trivial
 |jk=>obtain⟨_,ws,rfl⟩:=h;trivial
 |ls=>cases h;trivial
theorem Zeq{u o:HO}(h:Lvo u)(h':ImO o):o≠u:=by
 intro e;subst e
 cases o<;>first|exact h|exact h'
def FzL(K:W.Frag)(H:Hp)(a:Addr)(vs:List V):Prop:=∃o,Im K H a (.frz o (.lst vs))
mutual
noncomputable def Rep(K:W.Frag)(H:Hp)(S:Addr->Prop):PV->V->Prop
 |.non,v=>v=.non
 |.bl b,v=>v=.bl b
 |.int i,v=>v=.int i
 |.str x,v=>v=.str x
 |.exc n,v=>Zlh K H n v
 |.exa n i,v=>Zli K H n i v
 |.box p s xs,v=>∃a vs u,v=.ref a/\(Rd H a u/\S a)/\(ZnB p a/\Zlr K s vs u)/\Reps K H S xs vs
 |.lst xs,v=>∃a vs,v=.ref a/\((Rd H a (.lst vs)/\S a)\/KL K a vs)/\Reps K H S xs vs
 |.tup xs,v=>∃a vs,v=.ref a/\Im K H a (.tup vs)/\Reps K H S xs vs
 |.fz xs,v=>∃a vs,v=.ref a/\FzL K H a vs/\Reps K H S xs vs
noncomputable def Reps(K:W.Frag)(H:Hp)(S:Addr->Prop):List PV->List V->Prop
 |[],vs=>vs=[]
 |x::xs,vs=>∃v r,vs=v::r/\Rep K H S x v/\Reps K H S xs r
end
mutual
noncomputable def V0(K:W.Frag)(H:Hp):PV->V->List Addr->Prop
 |.non,v,F=>v=.non/\F=[]
 |.bl b,v,F=>v=.bl b/\F=[]
 |.int i,v,F=>v=.int i/\F=[]
 |.str x,v,F=>v=.str x/\F=[]
 |.exc n,v,F=>Zlh K H n v/\F=[]
 |.exa n i,v,F=>Zli K H n i v/\F=[]
 |.box p s xs,v,F=>∃a vs u G,v=.ref a/\H a=some u/\(ZnB p a/\Zlr K s vs u)/\Trees K H xs vs G/\a ∉ G/\F=a::G
 |.lst xs,v,F=>∃a vs G,v=.ref a/\H a=some (.lst vs)/\Trees K H xs vs G/\a ∉ G/\F=a::G
 |.tup xs,v,F=>∃a vs,v=.ref a/\Im K H a (.tup vs)/\Trees K H xs vs F
 |.fz xs,v,F=>∃a vs,v=.ref a/\FzL K H a vs/\Trees K H xs vs F
noncomputable def Trees(K:W.Frag)(H:Hp):List PV->List V->List Addr->Prop
 |[],vs,F=>vs=[]/\F=[]
 |x::xs,vs,F=>∃v r G1 G2,vs=v::r/\V0 K H x v G1/\Trees K H xs r G2/\(∀a∈G1,a ∉ G2)/\F=G1++G2
end
section
variable {K:W.Frag}{H H':Hp}{S S':Addr->Prop}
mutual
theorem Rep.mono(h1:∀a u,S a->Rd H a u->Rd H' a u/\S' a)(h2:∀a u,Im K H a u->Im K H' a u):∀{x:PV}{v:V},Rep K H S x v->Rep K H' S' x v
 |.non,_,h=>h
 |.bl _,_,h=>h
 |.int _,_,h=>h
 |.str _,_,h=>h
 |.exc n,_,h=>let ⟨a,o,C,e1,e2,e3⟩:=h;⟨a,o,C,e1,h2 a _ e2,e3⟩
 |.exa n i,_,h=>let ⟨a,o,C,d,fs,e1,e2,e2',e3⟩:=h;⟨a,o,C,d,fs,e1,h2 a _ e2,h2 d _ e2',e3⟩
 |.box p s xs,_,h=>by
  obtain⟨a,vs,u,rfl,⟨n1,n2⟩,hb,hr⟩:=h
  exact⟨a,vs,u,rfl,h1 a u n2 n1,hb,Reps.mono h1 h2 hr⟩
 |.lst xs,_,h=>by
  obtain⟨a,vs,rfl,hn,hr⟩:=h
  refine⟨a,vs,rfl, ?_,Reps.mono h1 h2 hr⟩
  rcases hn with ⟨n1,n2⟩|n
  ·exact .inl (h1 a _ n2 n1)
  ·exact .inr n
 |.tup xs,_,h=>by
  obtain⟨a,vs,rfl,hn,hr⟩:=h
  exact⟨a,vs,rfl,h2 a _ hn,Reps.mono h1 h2 hr⟩
 |.fz xs,_,h=>by
  obtain⟨a,vs,rfl,⟨o,hn⟩,hr⟩:=h
  exact⟨a,vs,rfl,⟨o,h2 a _ hn⟩,Reps.mono h1 h2 hr⟩
theorem Reps.mono(h1:∀a u,S a->Rd H a u->Rd H' a u/\S' a)(h2:∀a u,Im K H a u->Im K H' a u):∀{xs:List PV}{vs:List V},Reps K H S xs vs->Reps K H' S' xs vs
 |[],_,h=>h
 |x::xs,_,h=>by
  obtain⟨v,r,rfl,h3,h4⟩:=h
  exact⟨v,r,rfl,Rep.mono h1 h2 h3,Reps.mono h1 h2 h4⟩
end
mutual
theorem V0.mono:∀{x:PV}{v:V}{F:List Addr},(∀a∈F,∀o,H a=some o->H' a=some o)->(∀a vs,Im K H a vs->Im K H' a vs)->V0 K H x v F->V0 K H' x v F
 |.non,_,_,_,_,h=>h
 |.bl _,_,_,_,_,h=>h
 |.int _,_,_,_,_,h=>h
 |.str _,_,_,_,_,h=>h
 |.exc n,_,_,_,h2,h=>let ⟨⟨a,o,C,e1,e2,e3⟩,e4⟩:=h;⟨⟨a,o,C,e1,h2 a _ e2,e3⟩,e4⟩
 |.exa n i,_,_,_,h2,h=>let ⟨⟨a,o,C,d,fs,e1,e2,e2',e3⟩,e4⟩:=h;⟨⟨a,o,C,d,fs,e1,h2 a _ e2,h2 d _ e2',e3⟩,e4⟩
 |.box p s xs,_,_,h1,h2,h=>by
  obtain⟨a,vs,u,G,rfl,ha,hb,ht,hn,rfl⟩:=h
  exact⟨a,vs,u,G,rfl,h1 a (by simp) _ ha,hb,Trees.mono (fun b hb o e=>h1 b (by simp[hb]) o e) h2 ht,hn,rfl⟩
 |.lst xs,_,_,h1,h2,h=>by
  obtain⟨a,vs,G,rfl,ha,ht,hn,rfl⟩:=h
  exact⟨a,vs,G,rfl,h1 a (by simp) _ ha,Trees.mono (fun b hb o e=>h1 b (by simp[hb]) o e) h2 ht,hn,rfl⟩
 |.tup xs,_,_,h1,h2,h=>by
  obtain⟨a,vs,rfl,ha,ht⟩:=h
  exact⟨a,vs,rfl,h2 a _ ha,Trees.mono h1 h2 ht⟩
 |.fz xs,_,_,h1,h2,h=>by
  obtain⟨a,vs,rfl,⟨o,ha⟩,ht⟩:=h
  exact⟨a,vs,rfl,⟨o,h2 a _ ha⟩,Trees.mono h1 h2 ht⟩
theorem Trees.mono:∀{xs:List PV}{vs:List V}{F:List Addr},(∀a∈F,∀o,H a=some o->H' a=some o)->(∀a vs,Im K H a vs->Im K H' a vs)->Trees K H xs vs F->Trees K H' xs vs F
 |[],_,_,_,_,h=>h
 |x::xs,_,_,h1,h2,h=>by
  obtain⟨v,r,G1,G2,rfl,h3,h4,hd,rfl⟩:=h
  exact⟨v,r,G1,G2,rfl,V0.mono (fun b hb o e=>h1 b (by simp[hb]) o e) h2 h3,Trees.mono (fun b hb o e=>h1 b (by simp[hb]) o e) h2 h4,hd,rfl⟩
end
mutual
theorem V0.rep:∀{x:PV}{v:V}{F:List Addr},(∀a∈F,S a)->V0 K H x v F->Rep K H S x v
 |.non,_,_,_,h=>h.1
 |.bl _,_,_,_,h=>h.1
 |.int _,_,_,_,h=>h.1
 |.str _,_,_,_,h=>h.1
 |.exc _,_,_,_,h=>h.1
 |.exa _ _,_,_,_,h=>h.1
 |.box p s xs,_,_,h1,h=>by
  obtain⟨a,vs,u,G,rfl,ha,hb,ht,hn,rfl⟩:=h
  exact⟨a,vs,u,rfl,⟨.inl ha,h1 a (by simp)⟩,hb,Trees.reps (fun b hb=>h1 b (by simp[hb])) ht⟩
 |.lst xs,_,_,h1,h=>by
  obtain⟨a,vs,G,rfl,ha,ht,hn,rfl⟩:=h
  exact⟨a,vs,rfl,.inl ⟨.inl ha,h1 a (by simp)⟩,Trees.reps (fun b hb=>h1 b (by simp[hb])) ht⟩
 |.tup xs,_,_,h1,h=>by
  obtain⟨a,vs,rfl,ha,ht⟩:=h
  exact⟨a,vs,rfl,ha,Trees.reps h1 ht⟩
 |.fz xs,_,_,h1,h=>by
  obtain⟨a,vs,rfl,ha,ht⟩:=h
  exact⟨a,vs,rfl,ha,Trees.reps h1 ht⟩
theorem Trees.reps:∀{xs:List PV}{vs:List V}{F:List Addr},(∀a∈F,S a)->Trees K H xs vs F->Reps K H S xs vs
 |[],_,_,_,h=>h.1
 |x::xs,_,_,h1,h=>by
  obtain⟨v,r,G1,G2,rfl,h3,h4,hd,rfl⟩:=h
  exact⟨v,r,rfl,V0.rep (fun b hb=>h1 b (by simp[hb])) h3,Trees.reps (fun b hb=>h1 b (by simp[hb])) h4⟩
end
mutual
theorem V0.alive:∀{x:PV}{v:V}{F:List Addr},V0 K H x v F->∀a∈F,∃vs:LvO,H a=some vs.1
 |.non,_,_,h=>by rw[h.2];simp
 |.bl _,_,_,h=>by rw[h.2];simp
 |.int _,_,_,h=>by rw[h.2];simp
 |.str _,_,_,h=>by rw[h.2];simp
 |.exc _,_,_,h=>by rw[h.2];simp
 |.exa _ _,_,_,h=>by rw[h.2];simp
 |.box p s xs,_,_,h=>by
  obtain⟨a,vs,u,G,rfl,ha,hb,ht,hn,rfl⟩:=h
  intro b hb'
  rcases Zxd.mp hb' with rfl|hb'
  ·exact⟨⟨u,hb.2.lv⟩,ha⟩
  ·exact Trees.alive ht b hb'
 |.lst xs,_,_,h=>by
  obtain⟨a,vs,G,rfl,ha,ht,hn,rfl⟩:=h
  intro b hb
  rcases Zxd.mp hb with rfl|hb
  ·exact⟨⟨.lst vs,trivial⟩,ha⟩
  ·exact Trees.alive ht b hb
 |.tup xs,_,_,h=>by
  obtain⟨a,vs,rfl,ha,ht⟩:=h
  exact Trees.alive ht
 |.fz xs,_,_,h=>by
  obtain⟨a,vs,rfl,ha,ht⟩:=h
  exact Trees.alive ht
theorem Trees.alive:∀{xs:List PV}{vs:List V}{F:List Addr},Trees K H xs vs F->∀a∈F,∃vs:LvO,H a=some vs.1
 |[],_,_,h=>by rw[h.2];simp
 |x::xs,_,_,h=>by
  obtain⟨v,r,G1,G2,rfl,h3,h4,hd,rfl⟩:=h
  intro b hb
  rcases Zxg.mp hb with hb|hb
  ·exact V0.alive h3 b hb
  ·exact Trees.alive h4 b hb
end
mutual
theorem Rep.tree:∀{x:PV}{v:V},x.flat=true->Rep K H S x v->V0 K H x v []
 |.non,_,_,h=>⟨h,rfl⟩
 |.bl _,_,_,h=>⟨h,rfl⟩
 |.int _,_,_,h=>⟨h,rfl⟩
 |.str _,_,_,h=>⟨h,rfl⟩
 |.exc _,_,_,h=>⟨h,rfl⟩
 |.exa _ _,_,_,h=>⟨h,rfl⟩
 |.box p s xs,_,f,_=>by simp[PV.flat] at f
 |.lst xs,_,f,_=>by simp[PV.flat] at f
 |.tup xs,_,f,h=>by
  obtain⟨a,vs,rfl,ha,ht⟩:=h
  exact⟨a,vs,rfl,ha,Reps.trees (by simpa[PV.flat] using f) ht⟩
 |.fz xs,_,f,h=>by
  obtain⟨a,vs,rfl,ha,ht⟩:=h
  exact⟨a,vs,rfl,ha,Reps.trees (by simpa[PV.flat] using f) ht⟩
theorem Reps.trees:∀{xs:List PV}{vs:List V},PV.flats xs=true->Reps K H S xs vs->Trees K H xs vs []
 |[],_,_,h=>⟨h,rfl⟩
 |x::xs,_,f,h=>by
  obtain⟨v,r,rfl,h3,h4⟩:=h
  simp only[PV.flats,Bool.and_eq_true] at f
  exact⟨v,r,[],[],rfl,Rep.tree f.1 h3,Reps.trees f.2 h4,by simp,rfl⟩
end
theorem Rep.any(h:Rep K H S x v):Rep K H (fun _=>True) x v:=Rep.mono (fun a vs _ r=>⟨r,trivial⟩) (fun a vs r=>r) h
theorem Reps.any(h:Reps K H S xs vs):Reps K H (fun _=>True) xs vs:=Reps.mono (fun a vs _ r=>⟨r,trivial⟩) (fun a vs r=>r) h
theorem Rep.flatS{x:PV}{v:V}(f:x.flat=true)(h:Rep K H S x v):Rep K H S' x v:=V0.rep (F:=[]) (by simp) (Rep.tree f h)
theorem Reps.length:∀{xs:List PV}{vs:List V},Reps K H S xs vs->vs.length=xs.length
 |[],_,h=>by rw[h];rfl
 |x::xs,_,h=>by
  obtain⟨v,r,rfl,h3,h4⟩:=h
  simp[Reps.length h4]
theorem Trees.length{xs:List PV}{vs:List V}{F:List Addr}(h:Trees K H xs vs F):vs.length=xs.length:=(Trees.reps (S:=fun _=>True) (fun _ _=>trivial) h).length
theorem Reps.get:∀{xs:List PV}{vs:List V}{i:Nat}{x:PV},Reps K H S xs vs->xs[i]?=some x->∃v,vs[i]?=some v/\Rep K H S x v
 |[],_,_,_,_,e=>by simp at e
 |y::xs,_,0,x,h,e=>by
  obtain⟨v,r,rfl,h3,h4⟩:=h
  simp at e;subst e
  exact⟨v,rfl,h3⟩
 |y::xs,_,i+1,x,h,e=>by
  obtain⟨v,r,rfl,h3,h4⟩:=h
  obtain⟨w,e1,e2⟩:=Reps.get (i:=i) h4 (by simpa using e)
  exact⟨w,by simpa using e1,e2⟩
theorem Reps.append:∀{xs ys:List PV}{vs ws:List V},Reps K H S xs vs->Reps K H S ys ws->Reps K H S (xs++ys) (vs++ws)
 |[],_,_,_,h,h'=>by rw[h];exact h'
 |x::xs,_,_,_,h,h'=>by
  obtain⟨v,r,rfl,h3,h4⟩:=h
  exact⟨v,r++_,rfl,h3,Reps.append h4 h'⟩
theorem Reps.one{x:PV}{v:V}(h:Rep K H S x v):Reps K H S [x] [v]:=⟨v,[],rfl,h,rfl⟩
theorem Reps.take:∀{xs:List PV}{vs:List V} (n:Nat),Reps K H S xs vs->Reps K H S (xs.take n) (vs.take n)
 |_,_,0,_=>by simp[Reps]
 |[],_,n+1,h=>by rw[h];rfl
 |y::xs,_,n+1,h=>by
  obtain⟨w,r,rfl,h3,h4⟩:=h
  exact⟨w,r.take n,rfl,h3,Reps.take n h4⟩
theorem Reps.drop:∀{xs:List PV}{vs:List V} (n:Nat),Reps K H S xs vs->Reps K H S (xs.drop n) (vs.drop n)
 |_,_,0,h=>h
 |[],_,n+1,h=>by rw[h];rfl
 |y::xs,_,n+1,h=>by
  obtain⟨w,r,rfl,h3,h4⟩:=h
  exact Reps.drop n h4
theorem Trees.append:∀{xs ys:List PV}{vs ws:List V}{F G:List Addr},Trees K H xs vs F->Trees K H ys ws G->(∀a∈F,a ∉ G)->Trees K H (xs++ys) (vs++ws) (F++G)
 |[],_,_,_,_,_,h,h',_=>by rw[h.1,h.2];exact h'
 |x::xs,_,_,_,_,_,h,h',hd=>by
  obtain⟨v,r,G1,G2,rfl,h3,h4,hd',rfl⟩:=h
  refine⟨v,r++_,G1,G2++_,rfl,h3,Trees.append h4 h' (fun a ha=>hd a (by simp[ha])),fun a ha z=>?_,by simp⟩
  rcases Zxg.mp z with z|z
  ·exact hd' a ha z
  ·exact hd a (by simp[ha]) z
theorem Trees.one{x:PV}{v:V}{F:List Addr}(h:V0 K H x v F):Trees K H [x] [v] F:=⟨v,[],F,[],rfl,h,⟨rfl,rfl⟩,by simp,by simp⟩
theorem PV.flats_all:∀{xs:List PV},PV.flats xs=true ↔ ∀x∈xs,x.flat=true
 |[]=>by simp[PV.flats]
 |x::xs=>by simp[PV.flats,PV.flats_all (xs:=xs)]
theorem PV.flats_ints(ns:List Int):PV.flats (ns.map PV.int)=true:=PV.flats_all.mpr (by simp[PV.flat])
theorem Rd.same(e:Z9 H H')(h:Rd H a u):Rd H' a u:=by
 rcases h with h|⟨o,h⟩
 ·exact .inl (e _ _ h)
 ·exact .inr ⟨o,e _ _ h⟩
theorem Z9.im(e:Z9 H H'){k:HO}(h:Im K H a k):Im K H' a k:=⟨e _ _ h.1,h.2⟩
theorem Im.sqT{vs:List V}(h:Im K H a (.tup vs)):SqT K H a vs:=.inl (.inl h.1)
theorem Rep.same(e:Z9 H H')(h:Rep K H S x v):Rep K H' S x v:=Rep.mono (fun a vs s r=>⟨r.same e,s⟩) (fun a vs r=>e.im r) h
theorem Reps.same(e:Z9 H H')(h:Reps K H S xs vs):Reps K H' S xs vs:=Reps.mono (fun a vs s r=>⟨r.same e,s⟩) (fun a vs r=>e.im r) h
theorem V0.same(e:Z9 H H')(h:V0 K H x v F):V0 K H' x v F:=V0.mono (fun a _ o q=>e a o q) (fun a vs r=>e.im r) h
theorem Trees.same(e:Z9 H H')(h:Trees K H xs vs F):Trees K H' xs vs F:=Trees.mono (fun a _ o q=>e a o q) (fun a vs r=>e.im r) h
theorem Im.putL{p:Addr}{us:LvO}{o:HO}{k:HO}(hp:H p=some us.1)(h:Im K H a k):Im K (upd H p o) a k:=
 ⟨by rw[Zv (Zmf h.1 hp (Zeq us.2 h.2))];exact h.1,h.2⟩
theorem Trees.putL{p:Addr}{us:LvO}{o:HO}(hp:H p=some us.1)(hS:p ∉ F)(h:Trees K H xs vs F):Trees K (upd H p o) xs vs F:=
 Trees.mono (fun a ha o q=>by
  have hne:a≠p:=fun z=>hS (z▸ha)
  rw[Zv hne];exact q) (fun a vs r=>Im.putL hp r) h
theorem Trees.put{p:Addr}{us:List V}{o:HO}(hp:H p=some (.lst us))(hS:p ∉ F)(h:Trees K H xs vs F):Trees K (upd H p o) xs vs F:=Trees.putL (us:=⟨.lst us,trivial⟩) hp hS h
end
inductive Md|U|P|S|T|O
 deriving DecidableEq
def NO(B:Addr->Prop)(F:Nat->List Addr)(R:List Addr)(a:Addr):Prop:=B a/\a ∉ R/\∀i,a ∉ F i
def Qi(K:W.Frag)(H:Hp)(S:Addr->Prop)(m:Md)(x:PV)(o:Option (Option V))(G:List Addr):Prop:=match m with
 |.U=>G=[]
 |.P=>G=[]/\∃v,o=some (some v)/\x.flat=true/\Rep K H (fun _=>True) x v
 |.S=>G=[]/\∃v,o=some (some v)/\Rep K H S x v
 |.T=>∃a vs xs,o=some (some (.ref a))/\x=.lst xs/\H a=some (.lst vs)/\Reps K H S xs vs/\G=[a]
 |.O=>∃v,o=some (some v)/\V0 K H x v G
structure Ag(K:PySem.W.Frag)(B:Addr->Prop)(H0 H:Hp)(σ:St)(Γ:List Md)(ρ:List PV)(F:Nat->List Addr)(R:List Addr):Prop where
 same:Z9 H0 H
 own:∀a,H0 a=none->B a
 young:∀i,∀a∈F i,H0 a=none
 youngR:∀a∈R,H0 a=none
 live:∀i,∀a∈F i,∃vs:LvO,H a=some vs.1
 liveR:∀a∈R,∃vs:LvO,H a=some vs.1
 disj:∀i j,i≠j->∀a∈F i,a ∉ F j
 disjR:∀i,∀a∈F i,a ∉ R
 lenS:σ.length=Γ.length
 lenR:ρ.length=Γ.length
 slot:∀i,Qi K H (NO B F R) (Γ.getD i .U) (ρ.getD i .non) σ[i]? (F i)
theorem Qi.mono{K:W.Frag}{H H':Hp}{S S':Addr->Prop}{m:Md}{x:PV}{o:Option (Option V)}{G:List Addr}(h:Qi K H S m x o G)(h1:∀a u,S a->Rd H a u->Rd H' a u/\S' a)(h2:∀a u,Im K H a u->Im K H' a u)(h3:∀a∈G,∀u,H a=some u->H' a=some u):Qi K H' S' m x o G:=by
 cases m with
 |U=>exact h
 |P =>
  obtain⟨e,v,h4,h5,h6⟩:=h
  exact⟨e,v,h4,h5,V0.rep (F:=[]) (by simp) (V0.mono (by simp) h2 (Rep.tree h5 h6))⟩
 |S =>
  obtain⟨e,v,h4,h5⟩:=h
  exact⟨e,v,h4,Rep.mono h1 h2 h5⟩
 |T =>
  obtain⟨a,vs,xs,h4,h5,h6,h7,rfl⟩:=h
  exact⟨a,vs,xs,h4,h5,h3 a (by simp) _ h6,Reps.mono h1 h2 h7,rfl⟩
 |O =>
  obtain⟨v,h4,h5⟩:=h
  exact⟨v,h4,V0.mono (fun a ha o q=>h3 a ha o q) h2 h5⟩
section
variable {K:W.Frag}{B:Addr->Prop}{H0 H H':Hp}{σ:St}{Γ:List Md}{ρ:List PV}{F:Nat->List Addr}{R R':List Addr}
theorem Ag.grow(A:Ag K B H0 H σ Γ ρ F R)(e:Z9 H H'):Ag K B H0 H' σ Γ ρ F R:=
 ⟨A.same.trans e,A.own,A.young,A.youngR,fun i a ha=>let ⟨vs,q⟩:=A.live i a ha;⟨vs,e _ _ q⟩,fun a ha=>let ⟨vs,q⟩:=A.liveR a ha;⟨vs,e _ _ q⟩,A.disj,A.disjR,A.lenS,A.lenR,
  fun i=>(A.slot i).mono (fun a vs s r=>⟨r.same e,s⟩) (fun a vs r=>e.im r) fun a ha vs q=>e _ _ q⟩
theorem Ag.less(A:Ag K B H0 H σ Γ ρ F R)(h:∀a∈R',a∈R):Ag K B H0 H σ Γ ρ F R':=
 ⟨A.same,A.own,A.young,fun a ha=>A.youngR a (h a ha),A.live,fun a ha=>A.liveR a (h a ha),A.disj,fun i a ha z=>A.disjR i a ha (h a z),A.lenS,A.lenR,
  fun i=>(A.slot i).mono (fun a vs s r=>⟨r,s.1,fun z=>s.2.1 (h a z),s.2.2⟩) (fun a vs r=>r) fun a ha vs q=>q⟩
theorem Ag.more{G:List Addr}(A:Ag K B H0 H σ Γ ρ F R)(e:Z9 H H')(hf:∀a∈G,H a=none)(hl:∀a∈G,∃vs:LvO,H' a=some vs.1):Ag K B H0 H' σ Γ ρ F (G++R):=by
 refine⟨A.same.trans e,A.own,A.young,fun a ha=>?_,fun i a ha=>let ⟨vs,q⟩:=A.live i a ha;⟨vs,e _ _ q⟩,fun a ha=>?_,A.disj,fun i a ha z=>?_,A.lenS,A.lenR,fun i=>?_⟩
 ·rcases Zxg.mp ha with z|z
  ·exact A.same.free (hf a z)
  ·exact A.youngR a z
 ·rcases Zxg.mp ha with z|z
  ·exact hl a z
  ·obtain⟨vs,q⟩:=A.liveR a z
   exact⟨vs,e _ _ q⟩
 ·rcases Zxg.mp z with z|z
  ·obtain⟨vs,q⟩:=A.live i a ha
   rw[hf a z] at q;cases q
  ·exact A.disjR i a ha z
 ·refine(A.slot i).mono (fun a vs s r=>⟨r.same e,s.1,fun z=>?_,s.2.2⟩) (fun a vs r=>e.im r) fun a ha vs q=>e _ _ q
  rcases Zxg.mp z with z|z
  ·have:=hf a z
   rcases r with r|⟨o,r⟩<;>(rw[this] at r;cases r)
  ·exact s.2.1 z
theorem Ag.fresh(A:Ag K B H0 H σ Γ ρ F R){p:Addr}(hp:H p=none):p ∉ R/\(∀i,p ∉ F i)/\H0 p=none/\B p:=by
 refine⟨fun z=>?_,fun i z=>?_,A.same.free hp,A.own p (A.same.free hp)⟩
 ·obtain⟨vs,q⟩:=A.liveR p z
  rw[hp] at q;cases q
 ·obtain⟨vs,q⟩:=A.live i p z
  rw[hp] at q;cases q
theorem Ag.new{p:Addr}{xs:List V}(A:Ag K B H0 H σ Γ ρ F R)(hp:H p=none):Ag K B H0 (upd H p (.lst xs)) σ Γ ρ F (p::R):=
 A.more (G:=[p]) (Z9.new hp) (fun a ha=>by rw[Zx7.mp ha];exact hp) fun a ha=>⟨⟨.lst xs,trivial⟩,by rw[Zx7.mp ha,ZE]⟩
theorem Ag.newB{p:Addr}{u:HO}(hu:Lvo u)(A:Ag K B H0 H σ Γ ρ F R)(hp:H p=none):Ag K B H0 (upd H p u) σ Γ ρ F (p::R):=
 A.more (G:=[p]) (Z9.new hp) (fun a ha=>by rw[Zx7.mp ha];exact hp) fun a ha=>⟨⟨u,hu⟩,by rw[Zx7.mp ha,ZE]⟩
theorem Ag.getO{i:Nat}(A:Ag K B H0 H σ Γ ρ F R)(h:Γ[i]?=some .O):∃v,σ[i]?=some (some v)/\V0 K H (ρ.getD i .non) v (F i):=by
 have:=A.slot i
 rw[ZwZ,h] at this
 exact this
theorem Ag.getT{i:Nat}(A:Ag K B H0 H σ Γ ρ F R)(h:Γ[i]?=some .T):∃a vs xs,σ[i]?=some (some (.ref a))/\ρ.getD i .non=.lst xs/\H a=some (.lst vs)/\Reps K H (NO B F R) xs vs/\F i=[a]:=by
 have:=A.slot i
 rw[ZwZ (l:=Γ),h] at this
 exact this
theorem Ag.getS{i:Nat}(A:Ag K B H0 H σ Γ ρ F R)(h:Γ[i]?=some .S):∃v,σ[i]?=some (some v)/\Rep K H (NO B F R) (ρ.getD i .non) v:=by
 have:=A.slot i
 rw[ZwZ (l:=Γ),h] at this
 exact this.2
theorem Ag.getP{i:Nat}(A:Ag K B H0 H σ Γ ρ F R)(h:Γ[i]?=some .P):∃v,σ[i]?=some (some v)/\(ρ.getD i .non).flat=true/\Rep K H (fun _=>True) (ρ.getD i .non) v:=by
 have:=A.slot i
 rw[ZwZ (l:=Γ),h] at this
 exact this.2
theorem Ag.getA{i:Nat}{m:Md}(A:Ag K B H0 H σ Γ ρ F R)(h:Γ[i]?=some m)(hm:m≠.U):∃v,σ[i]?=some (some v)/\Rep K H (fun _=>True) (ρ.getD i .non) v:=by
 cases m with
 |U=>exact absurd rfl hm
 |P=>obtain⟨v,h1,h2,h3⟩:=A.getP h;exact⟨v,h1,h3⟩
 |S=>obtain⟨v,h1,h2⟩:=A.getS h;exact⟨v,h1,h2.any⟩
 |T =>
  obtain⟨a,vs,xs,h1,h2,h3,h4,h5⟩:=A.getT h
  exact⟨_,h1,by rw[h2];exact⟨a,vs,rfl,.inl ⟨.inl h3,trivial⟩,h4.any⟩⟩
 |O=>obtain⟨v,h1,h2⟩:=A.getO h;exact⟨v,h1,h2.rep (fun _ _=>trivial)⟩
theorem Ag.lt{i:Nat}{m:Md}(A:Ag K B H0 H σ Γ ρ F R)(h:Γ[i]?=some m):i<Γ.length:=(Zx0.mp h).1
noncomputable def Qo(F:Nat->List Addr)(i:Nat)(G:List Addr):Nat->List Addr:=fun j=>if j=i then G else F j
theorem Z1{i:Nat}{G:List Addr}:Qo F i G i=G:=if_pos rfl
theorem ZG{i j:Nat}{G:List Addr}(h:j≠i):Qo F i G j=F j:=if_neg h
theorem Ag.put{i:Nat}{m:Md}{x:PV}{v:V}{G:List Addr}(A:Ag K B H0 H σ Γ ρ F (G++R))(hi:i<Γ.length)(hG:∀a∈G,a ∉ R)(hs:Qi K H (NO B (Qo F i G) R) m x (some (some v)) G) :
  Ag K B H0 H (σ.set i (some v)) (Γ.set i m) (ρ.set i x) (Qo F i G) R:=by
 refine⟨A.same,A.own,fun j a ha=>?_,fun a ha=>A.youngR a (Zxb _ ha),fun j a ha=>?_,fun a ha=>A.liveR a (Zxb _ ha),fun j k hjk a ha z=>?_,fun j a ha z=>?_,by simp[A.lenS],by simp[A.lenR],fun j=>?_⟩
 ·by_cases h:j=i
  ·subst h;rw[Z1] at ha;exact A.youngR a (Zxe _ ha)
  ·rw[ZG h] at ha;exact A.young j a ha
 ·by_cases h:j=i
  ·subst h;rw[Z1] at ha;exact A.liveR a (Zxe _ ha)
  ·rw[ZG h] at ha;exact A.live j a ha
 ·by_cases h:j=i
  ·subst h
   rw[Z1] at ha
   rw[ZG (Ne.symm hjk)] at z
   exact A.disjR k a z (Zxe _ ha)
  ·rw[ZG h] at ha
   by_cases h':k=i
   ·subst h'
    rw[Z1] at z
    exact A.disjR j a ha (Zxe _ z)
   ·rw[ZG h'] at z
    exact A.disj j k hjk a ha z
 ·by_cases h:j=i
  ·subst h;rw[Z1] at ha;exact hG a ha z
  ·rw[ZG h] at ha;exact A.disjR j a ha (Zxb _ z)
 ·by_cases h:j=i
  ·subst h
   rw[Z1,ZwZ,ZwZ,Zxy hi,Zxy (by rw[A.lenR];exact hi),Zxy (by rw[A.lenS];exact hi)]
   exact hs
  ·rw[ZG h,ZwZ,ZwZ,Zx1 (Ne.symm h),Zx1 (Ne.symm h),Zx1 (Ne.symm h),<- ZwZ,<- ZwZ]
   refine(A.slot j).mono (fun a vs s r=>⟨r,s.1,fun z=>s.2.1 (Zxb _ z),fun k z=>?_⟩) (fun a vs r=>r) fun a ha vs q=>q
   by_cases h':k=i
   ·subst h';rw[Z1] at z;exact s.2.1 (Zxe _ z)
   ·rw[ZG h'] at z;exact s.2.2 k z
theorem Ag.turn{i:Nat}{m m':Md}{G:List Addr}(A:Ag K B H0 H σ Γ ρ F R)(h:Γ[i]?=some m)(hG:∀a∈G,a∈F i)(hs:Qi K H (NO B (Qo F i []) (G++R)) m' (ρ.getD i .non) σ[i]? []) :
  Ag K B H0 H σ (Γ.set i m') ρ (Qo F i []) (G++R):=by
 have hi:=A.lt h
 refine⟨A.same,A.own,fun j a ha=>?_,fun a ha=>?_,fun j a ha=>?_,fun a ha=>?_,fun j k hjk a ha z=>?_,fun j a ha z=>?_,by simp[A.lenS],by simp[A.lenR],fun j=>?_⟩
 ·by_cases h:j=i
  ·subst h;rw[Z1] at ha;simp at ha
  ·rw[ZG h] at ha;exact A.young j a ha
 ·rcases Zxg.mp ha with z|z
  ·exact A.young i a (hG a z)
  ·exact A.youngR a z
 ·by_cases h:j=i
  ·subst h;rw[Z1] at ha;simp at ha
  ·rw[ZG h] at ha;exact A.live j a ha
 ·rcases Zxg.mp ha with z|z
  ·exact A.live i a (hG a z)
  ·exact A.liveR a z
 ·by_cases h:j=i
  ·subst h;rw[Z1] at ha;simp at ha
  ·by_cases h':k=i
   ·subst h';rw[Z1] at z;simp at z
   ·rw[ZG h] at ha;rw[ZG h'] at z;exact A.disj j k hjk a ha z
 ·by_cases h:j=i
  ·subst h;rw[Z1] at ha;simp at ha
  ·rw[ZG h] at ha
   rcases Zxg.mp z with z|z
   ·exact A.disj j i h a ha (hG a z)
   ·exact A.disjR j a ha z
 ·by_cases h:j=i
  ·subst h
   rw[Z1,ZwZ (l:=Γ.set _ _),Zxy hi]
   exact hs
  ·rw[ZG h,ZwZ (l:=Γ.set _ _),Zx1 (Ne.symm h),<- ZwZ]
   refine(A.slot j).mono (fun a vs s r=>⟨r,s.1,fun z=>?_,fun k z=>?_⟩) (fun a vs r=>r) fun a ha vs q=>q
   ·rcases Zxg.mp z with z|z
    ·exact s.2.2 i (hG a z)
    ·exact s.2.1 z
   ·by_cases h':k=i
    ·subst h';rw[Z1] at z;simp at z
    ·rw[ZG h'] at z;exact s.2.2 k z
theorem Ag.noF(A:Ag K B H0 H σ Γ ρ F R){i:Nat}{a:Addr}(ha:a∈F i):NO B (Qo F i []) R a:=⟨A.own a (A.young i a ha),A.disjR i a ha,fun j z=>by
 by_cases h:j=i
 ·subst h;rw[Z1] at z;simp at z
 ·rw[ZG h] at z;exact A.disj j i h a z ha⟩
theorem Ag.freeze{i:Nat}{m:Md}(A:Ag K B H0 H σ Γ ρ F R)(h:Γ[i]?=some m)(hm:m≠.U):Ag K B H0 H σ (Γ.set i .S) ρ (Qo F i []) R:=by
 refine A.turn (G:=[]) h (by simp) ?_
 show Qi K H (NO B (Qo F i []) R) .S (ρ.getD i .non) σ[i]? []
 have up:∀{a vs},NO B F R a->Rd H a vs->Rd H a vs/\NO B (Qo F i []) R a:=fun {a vs} s r=>⟨r,s.1,s.2.1,fun j z=>by
  by_cases h:j=i
  ·subst h;rw[Z1] at z;simp at z
  ·rw[ZG h] at z;exact s.2.2 j z⟩
 cases m with
 |U=>exact absurd rfl hm
 |P=>obtain⟨v,h1,h2,h3⟩:=A.getP h;exact⟨rfl,v,h1,h3.flatS h2⟩
 |S=>obtain⟨v,h1,h2⟩:=A.getS h;exact⟨rfl,v,h1,Rep.mono (fun a vs s r=>up s r) (fun a vs r=>r) h2⟩
 |T =>
  obtain⟨a,vs,xs,h1,h2,h3,h4,h5⟩:=A.getT h
  refine⟨rfl,_,h1, ?_⟩
  rw[h2]
  exact⟨a,vs,rfl,.inl ⟨.inl h3,A.noF (by rw[h5];simp)⟩,Reps.mono (fun a vs s r=>up s r) (fun a vs r=>r) h4⟩
 |O =>
  obtain⟨v,h1,h2⟩:=A.getO h
  exact⟨rfl,v,h1,h2.rep fun a ha=>A.noF ha⟩
theorem Ag.move{i:Nat}(A:Ag K B H0 H σ Γ ρ F R)(h:Γ[i]?=some .O):Ag K B H0 H σ (Γ.set i .U) ρ (Qo F i []) (F i++R):=A.turn (G:=F i) h (fun a ha=>ha) rfl
end
noncomputable abbrev PX:=Str×PV
inductive Rr(α:Type) where
 |ok (a:α)|exc (e:PX)|bad
noncomputable def Rr.bind{α β:Type}:Rr α->(α->Rr β)->Rr β
 |.ok a,f=>f a
 |.exc e,_=>.exc e
 |.bad,_=>.bad
def Dn{α:Type}(r:Rr α)(ok:α->Prop)(ex:PX->Prop):Prop:=match r with
 |.ok a=>ok a
 |.exc e=>ex e
 |.bad=>False
theorem Dn.bind{α β:Type}{r:Rr α}{f:α->Rr β}{ok:β->Prop}{ex:PX->Prop}(h:Dn (r.bind f) ok ex):Dn r (fun a=>Dn (f a) ok ex) ex:=by
 cases r with
 |ok a=>exact h
 |exc e=>exact h
 |bad=>exact h
theorem Dn.imp{α:Type}{r:Rr α}{ok ok':α->Prop}{ex ex':PX->Prop}(h:Dn r ok ex)(h1:∀a,r=.ok a->ok a->ok' a)(h2:∀e,ex e->ex' e):Dn r ok' ex':=by
 cases r with
 |ok a=>exact h1 a rfl h
 |exc e=>exact h2 e h
 |bad=>exact h
@[simp] theorem Rr.bind_ok{α β:Type}{a:α}{f:α->Rr β}:(Rr.ok a).bind f=f a:=rfl
@[simp] theorem Rr.bind_exc{α β:Type}{e:PX}{f:α->Rr β}:(Rr.exc e:Rr α).bind f=.exc e:=rfl
@[simp] theorem Rr.bind_bad{α β:Type}{f:α->Rr β}:(Rr.bad:Rr α).bind f=.bad:=rfl
inductive Kd|P|F|T|Z|A|N|M
def Res(K:W.Frag)(B:Addr->Prop)(H0 H:Hp)(σ:St)(Γ':List Md)(ρ:List PV)(F:Nat->List Addr)(R:List Addr)(k:Kd)(x:PV)(v:V)(H':Hp):Prop:=
 ∃F',(∀i,∀a∈F' i,a∈F i)/\match k with
 |.P=>x.flat=true/\Rep K H' (fun _=>True) x v/\Ag K B H0 H' σ Γ' ρ F' R
 |.F=>∃G,V0 K H' x v G/\(∀a∈G,a ∉ R/\(H a=none\/∃i,a∈F i))/\Ag K B H0 H' σ Γ' ρ F' (G++R)
 |.T=>∃a vs xs,x=.lst xs/\v=.ref a/\H' a=some (.lst vs)/\Reps K H' (NO B F' (a::R)) xs vs/\a ∉ R/\(H a=none\/∃i,a∈F i)/\Ag K B H0 H' σ Γ' ρ F' (a::R)
 |.Z=>Rep K H' (NO B F' R) x v/\Ag K B H0 H' σ Γ' ρ F' R
 |.A=>Rep K H' (fun _=>True) x v/\Ag K B H0 H' σ Γ' ρ F' R
 |.N=>False
 |.M=>False
def DE(K:W.Frag)(EX:PX->Hp->Prop)(Γ Γ':List Md)(k:Kd)(te:TE)(f:List PV->Rr PV):Prop:=
 ∀(B:Addr->Prop) (H0 H:Hp) (σ:St) (ρ:List PV) (F:Nat->List Addr) (R:List Addr) (Q:VK),Ag K B H0 H σ Γ ρ F R ->
  Dn (f ρ) (fun x=>∀v H',Z9 H H'->Res K B H0 H σ Γ' ρ F R k x v H'->Q v H') (fun e=>∀H',Z9 H0 H'->EX e H')->te σ H Q
def DT(K:W.Frag)(EX:PX->Hp->Prop)(Γ Γ':List Md)(tt:TT)(f:List PV->Rr Bool):Prop:=
 ∀(B:Addr->Prop) (H0 H:Hp) (σ:St) (ρ:List PV) (F:Nat->List Addr) (R:List Addr) (Q:Bool->Hp->Prop),Ag K B H0 H σ Γ ρ F R ->
  Dn (f ρ) (fun b=>∀H' F',Z9 H H'->(∀i,∀a∈F' i,a∈F i)->Ag K B H0 H' σ Γ' ρ F' R->Q b H') (fun e=>∀H',Z9 H0 H'->EX e H')->tt σ H Q
section
variable {K:W.Frag}{B:Addr->Prop}{EX:PX->Hp->Prop}{H0 H H':Hp}{σ:St}{Γ Γ' Γ1 Γ2:List Md}{ρ:List PV}{F F':Nat->List Addr}{R:List Addr}{k:Kd}{x:PV}{v:V}{te ta tb:TE}{f fa fb:List PV->Rr PV}
theorem Res.ag(h:Res K B H0 H σ Γ' ρ F R k x v H'):∃F',(∀i,∀a∈F' i,a∈F i)/\Rep K H' (fun _=>True) x v/\Ag K B H0 H' σ Γ' ρ F' R:=by
 obtain⟨F',hF,h⟩:=h
 refine⟨F',hF, ?_⟩
 cases k with
 |P=>exact⟨h.2.1,h.2.2⟩
 |F=>obtain⟨G,h1,h2,h3⟩:=h;exact⟨h1.rep fun _ _=>trivial,h3.less fun a ha=>Zxb _ ha⟩
 |T=>obtain⟨a,vs,xs,rfl,rfl,h1,h2,h3,h4,h5⟩:=h;exact⟨⟨a,vs,rfl,.inl ⟨.inl h1,trivial⟩,h2.any⟩,h5.less fun a ha=>Zxs _ ha⟩
 |Z=>exact⟨h.1.any,h.2⟩
 |A=>exact h
 |N=>exact h.elim
 |M=>exact h.elim
theorem Res.toA(h:Res K B H0 H σ Γ' ρ F R k x v H'):Res K B H0 H σ Γ' ρ F R .A x v H':=let ⟨F',a,b,c⟩:=h.ag;⟨F',a,b,c⟩
theorem Res.PF(h:Res K B H0 H σ Γ' ρ F R .P x v H'):Res K B H0 H σ Γ' ρ F R .F x v H':=by
 obtain⟨F',hF,h1,h2,h3⟩:=h
 exact⟨F',hF,[],h2.tree h1,by simp,h3⟩
theorem Res.PZ(h:Res K B H0 H σ Γ' ρ F R .P x v H'):Res K B H0 H σ Γ' ρ F R .Z x v H':=by
 obtain⟨F',hF,h1,h2,h3⟩:=h
 exact⟨F',hF,h2.flatS h1,h3⟩
theorem Res.FZ(h:Res K B H0 H σ Γ' ρ F R .F x v H'):Res K B H0 H σ Γ' ρ F R .Z x v H':=by
 obtain⟨F',hF,G,h1,h2,h3⟩:=h
 exact⟨F',hF,h1.rep fun a ha=>⟨h3.own a (h3.youngR a (Zxe _ ha)),(h2 a ha).1,fun i z=>h3.disjR i a z (Zxe _ ha)⟩,h3.less fun a ha=>Zxb _ ha⟩
theorem DE.imp{k':Kd}(h:DE K EX Γ Γ' k te f)(hr:∀{B:Addr->Prop}{H0 H H':Hp}{σ:St}{ρ:List PV}{F:Nat->List Addr}{R:List Addr}{x:PV}{v:V},Res K B H0 H σ Γ' ρ F R k x v H'->Res K B H0 H σ Γ' ρ F R k' x v H'):DE K EX Γ Γ' k' te f:=
 fun B H0 H σ ρ F R Q A d=>h B H0 H σ ρ F R Q A (d.imp (fun x _ q v H' s r=>q v H' s (hr r)) fun e q=>q)
theorem DE.toA(h:DE K EX Γ Γ' k te f):DE K EX Γ Γ' .A te f:=h.imp Res.toA
theorem DE.PF(h:DE K EX Γ Γ' .P te f):DE K EX Γ Γ' .F te f:=h.imp Res.PF
theorem DE.PZ(h:DE K EX Γ Γ' .P te f):DE K EX Γ Γ' .Z te f:=h.imp Res.PZ
theorem DE.FZ(h:DE K EX Γ Γ' .F te f):DE K EX Γ Γ' .Z te f:=h.imp Res.FZ
noncomputable def grd(x:PV):Rr PV:=if x.flat=true then .ok x else .bad
theorem DE.grd(h:DE K EX Γ Γ' .A te f):DE K EX Γ Γ' .P te (fun ρ=>(f ρ).bind grd):=fun B H0 H σ ρ F R Q A d=>by
 refine h B H0 H σ ρ F R Q A (d.bind.imp (fun x _ q v H' s r=>?_) fun e q=>q)
 unfold L2.grd at q
 by_cases hx:x.flat=true
 ·rw[if_pos hx] at q
  obtain⟨F',h1,h2,h3⟩:=r
  exact q v H' s ⟨F',h1,hx,h2,h3⟩
 ·rw[if_neg hx] at q;exact q.elim
theorem Zn6{v:V}(hf:x.flat=true)(hr:∀H,Rep K H (fun _=>True) x v):DE K EX Γ Γ .P (tC v) (fun _=>.ok x):=fun B H0 H σ ρ F R Q A d =>
 d v H (Z9.refl H) ⟨F,fun _ _ h=>h,hf,hr H,A⟩
theorem Zj{i:Int}:DE K EX Γ Γ .P (tC (.int i)) (fun _=>.ok (.int i)):=Zn6 rfl fun _=>rfl
theorem Zd1{b:Bool}:DE K EX Γ Γ .P (tC (.bl b)) (fun _=>.ok (.bl b)):=Zn6 rfl fun _=>rfl
theorem ZI{x:Str}:DE K EX Γ Γ .P (tC (.str x)) (fun _=>.ok (.str x)):=Zn6 rfl fun _=>rfl
noncomputable def gv(i:Nat)(ρ:List PV):PV:=ρ.getD i .non
theorem Zc{i:Nat}{m:Md}(h:Γ[i]?=some m)(hm:m≠.U):DE K EX Γ Γ .A (ZeR i) (fun ρ=>.ok (gv i ρ)):=fun B H0 H σ ρ F R Q A d=>by
 obtain⟨v,h1,h2⟩:=A.getA h hm
 exact⟨v,h1,d v H (Z9.refl H) ⟨F,fun _ _ h=>h,h2,A⟩⟩
theorem Zp{i:Nat}(h:Γ[i]?=some .P):DE K EX Γ Γ .P (ZeR i) (fun ρ=>.ok (gv i ρ)):=fun B H0 H σ ρ F R Q A d=>by
 obtain⟨v,h1,h2,h3⟩:=A.getP h
 exact⟨v,h1,d v H (Z9.refl H) ⟨F,fun _ _ h=>h,h2,h3,A⟩⟩
theorem Zao{i:Nat}(h:Γ[i]?=some .S):DE K EX Γ Γ .Z (ZeR i) (fun ρ=>.ok (gv i ρ)):=fun B H0 H σ ρ F R Q A d=>by
 obtain⟨v,h1,h2⟩:=A.getS h
 exact⟨v,h1,d v H (Z9.refl H) ⟨F,fun _ _ h=>h,h2,A⟩⟩
theorem QH{i:Nat}{F:Nat->List Addr}:∀j,∀a∈Qo F i [] j,a∈F j:=fun j a ha=>by
 by_cases h:j=i
 ·subst h;rw[Z1] at ha;simp at ha
 ·rw[ZG h] at ha;exact ha
theorem Qu{i:Nat}(h:Γ[i]?=some .O):DE K EX Γ (Γ.set i .U) .F (ZeR i) (fun ρ=>.ok (gv i ρ)):=fun B H0 H σ ρ F R Q A d=>by
 obtain⟨v,h1,h2⟩:=A.getO h
 exact⟨v,h1,d v H (Z9.refl H) ⟨Qo F i [],QH,F i,h2,fun a ha=>⟨A.disjR i a ha,.inr ⟨i,ha⟩⟩,A.move h⟩⟩
theorem ZbB{i:Nat}{m:Md}(h:Γ[i]?=some m)(hm:m≠.U):DE K EX Γ (Γ.set i .S) .Z (ZeR i) (fun ρ=>.ok (gv i ρ)):=fun B H0 H σ ρ F R Q A d=>by
 have A':=A.freeze h hm
 obtain⟨v,h1,h2⟩:=A'.getS (Zxy (A.lt h))
 exact⟨v,h1,d v H (Z9.refl H) ⟨Qo F i [],QH,h2,A'⟩⟩
def OpP(K:W.Frag)(r:R2)(o:PV->PV->Rr PV):Prop:=∀{H:Hp}{x y:PV}{v w:V}{Q:VK},Rep K H (fun _=>True) x v->Rep K H (fun _=>True) y w ->
 (∃z,o x y=.ok z/\(z.flat=true->∀u,Rep K H (fun _=>True) z u->Q u H))->r v w H Q
theorem Dn.bind2{α β γ:Type}{r:Rr α}{q:Rr β}{f:α->β->Rr γ}{ok:γ->Prop}{ex:PX->Prop}(h:Dn (r.bind fun a=>q.bind fun b=>f a b) ok ex):Dn r (fun a=>Dn q (fun b=>Dn (f a b) ok ex) ex) ex:=
 h.bind.imp (fun a _ h=>h.bind) fun e h=>h
theorem two{Q:V->V->Hp->Prop}{ok:PV->PV->Prop}(ha:DE K EX Γ Γ1 .A ta fa)(hb:DE K EX Γ1 Γ2 .A tb fb)(A:Ag K B H0 H σ Γ ρ F R)(d:Dn (fa ρ) (fun x=>Dn (fb ρ) (fun y=>ok x y) (fun e=>∀H',Z9 H0 H'->EX e H')) (fun e=>∀H',Z9 H0 H'->EX e H'))(hq:∀x y v w H' F',ok x y->Z9 H H'->(∀i,∀a∈F' i,a∈F i)->Rep K H' (fun _=>True) x v->Rep K H' (fun _=>True) y w->Ag K B H0 H' σ Γ2 ρ F' R->Q v w H') :
  ta σ H fun v H1=>tb σ H1 fun w H2=>Q v w H2:=by
 refine ha B H0 H σ ρ F R _ A (d.imp (fun x _ d v H1 s1 r1=>?_) fun e q=>q)
 obtain⟨F1,f1,p1,A1⟩:=r1
 refine hb B H0 H1 σ ρ F1 R _ A1 (d.imp (fun y _ q w H2 s2 r2=>?_) fun e q=>q)
 obtain⟨F2,f2,p2,A2⟩:=r2
 exact hq x y v w H2 F2 q (s1.trans s2) (fun i a h=>f1 i a (f2 i a h)) (p1.same s2) p2 A2
theorem ZkA{r:R2}{o:PV->PV->Rr PV}(hr:OpP K r o)(ho:∀x y z,o x y=.ok z->z.flat=true)(hx:∀x y e,o x y≠.exc e)(ha:DE K EX Γ Γ1 .A ta fa)(hb:DE K EX Γ1 Γ2 .A tb fb) :
  DE K EX Γ Γ2 .P (tOp r ta tb) (fun ρ=>(fa ρ).bind fun x=>(fb ρ).bind fun y=>o x y):=fun B H0 H σ ρ F R Q A d=>by
 refine two ha hb A d.bind2 fun x y v w H' F' d s hF p1 p2 A'=>?_
 cases e:o x y with
 |ok z=>rw[e] at d;exact hr p1 p2 ⟨z,e,fun hf u hu=>d u H' s ⟨F',hF,hf,hu,A'⟩⟩
 |exc q=>exact absurd e (hx x y q)
 |bad=>rw[e] at d;exact d.elim
def UnP(K:W.Frag)(r:V->Hp->VK->Prop)(o:PV->Rr PV):Prop:=∀{H:Hp}{x:PV}{v:V}{Q:VK},Rep K H (fun _=>True) x v->(∃z,o x=.ok z/\(z.flat=true->∀u,Rep K H (fun _=>True) z u->Q u H))->r v H Q
theorem Zn2{r:V->Hp->VK->Prop}{o:PV->Rr PV}(hr:UnP K r o)(hx:∀x e,o x≠.exc e)(ha:DE K EX Γ Γ1 .A ta fa):DE K EX Γ Γ1 .P (tUn r ta) (fun ρ=>(fa ρ).bind o):=fun B H0 H σ ρ F R Q A d=>by
 refine ha B H0 H σ ρ F R _ A (d.bind.imp (fun x _ d v H1 s1 r1=>?_) fun e q=>q)
 obtain⟨F1,f1,p1,A1⟩:=r1
 cases e:o x with
 |ok z=>rw[e] at d;exact hr p1 ⟨z,e,fun hf u hu=>d u H1 s1 ⟨F1,f1,hf,hu,A1⟩⟩
 |exc q=>exact absurd e (hx x q)
 |bad=>rw[e] at d;exact d.elim
noncomputable def oI(C:Int->Int->Bool)(g:Int->Int->PV)(x y:PV):Rr PV:=match x,y with
 |.int i,.int j=>if C i j=true then .ok (g i j) else .bad
 |_,_=>.bad
theorem Zek{C:Int->Int->Bool}{g:Int->Int->PV}{i j:Int}(h:C i j=true):oI C g (.int i) (.int j)=.ok (g i j):=if_pos h
theorem Zo0{C:Int->Int->Bool}{D:Int->Int->Prop}{g:Int->Int->PV}{g':Int->Int->V}(hC:∀i j,C i j=true->D i j)(hg:∀H i j,Rep K H (fun _=>True) (g i j) (g' i j))(hf:∀i j,(g i j).flat=true):OpP K (rI D g') (oI C g):=by
 intro H x y v w Q rx ry ⟨z,e,q⟩
 cases x<;>cases y<;>first|(simp only[oI] at e;cases e;done)|skip
 rename_i i j
 simp only[oI] at e
 by_cases h:C i j=true
 ·rw[if_pos h] at e;cases e
  cases rx;cases ry
  exact⟨i,j,rfl,rfl,hC i j h,q (hf i j) _ (hg H i j)⟩
 ·rw[if_neg h] at e;cases e
theorem Znu{g:Int->Int->PV}{g':Int->Int->V}(hg:∀H i j,Rep K H (fun _=>True) (g i j) (g' i j))(hf:∀i j,(g i j).flat=true):OpP K (rI0 g') (oI (fun _ _=>true) g):=by
 intro H x y v w Q rx ry ⟨z,e,q⟩
 cases x<;>cases y<;>first|(simp only[oI] at e;cases e;done)|skip
 rename_i i j
 simp only[oI,if_true] at e
 cases e;cases rx;cases ry
 exact⟨i,j,rfl,rfl,q (hf i j) _ (hg H i j)⟩
theorem Zej{C:Int->Int->Bool}{g:Int->Int->PV}(x y:PV)(e:PX):oI C g x y≠.exc e:=by
 cases x<;>cases y<;>first|(intro h;simp only[oI] at h;cases h;done)|skip
 intro h
 simp only[oI] at h
 split at h<;>cases h
theorem ZgD{C:Int->Int->Bool}{g:Int->Int->PV}(hf:∀i j,(g i j).flat=true)(x y z:PV)(h:oI C g x y=.ok z):z.flat=true:=by
 cases x<;>cases y<;>first|(simp only[oI] at h;cases h;done)|skip
 simp only[oI] at h
 split at h
 ·cases h;exact hf _ _
 ·cases h
end
mutual
noncomputable def PV.noX:PV->Bool
 |.exc _=>false
 |.exa _ _=>false
 |.box _ _ _=>false
 |.fz xs=>PV.noXs xs
 |.lst xs=>PV.noXs xs
 |.tup xs=>PV.noXs xs
 |.non=>true
 |.bl _=>true
 |.int _=>true
 |.str _=>true
noncomputable def PV.noXs:List PV->Bool
 |[]=>true
 |x::xs=>x.noX&&PV.noXs xs
end
theorem PV.noXs_ints:∀(ns:List Int),PV.noXs (ns.map PV.int)=true
 |[]=>rfl
 |n::ns=>by simp[PV.noXs,PV.noX,PV.noXs_ints ns]
mutual
noncomputable def PV.dat:PV->PyData
 |.non=>.none
 |.bl b=>.bool b
 |.int i=>.int i
 |.str x=>.str x
 |.exc _=>.none
 |.exa _ _=>.none
 |.box _ _ _=>.none
 |.fz xs=>.list (PV.dats xs)
 |.lst xs=>.list (PV.dats xs)
 |.tup xs=>.tuple (PV.dats xs)
noncomputable def PV.dats:List PV->List PyData
 |[]=>[]
 |x::xs=>x.dat::PV.dats xs
end
section
variable {X:Cx}{pins:List (Addr×Obj)}{σ:St}{H:Hp}{s:Shared}{S:Addr->Prop}
theorem JN{K:W.Frag}{a:Addr}{vs:List V}(h:(Rd H a (.lst vs)/\S a)\/KL K a vs):SqL K H a vs:=by
 rcases h with h|h
 ·exact .inl h.1
 ·exact .inr h
mutual
theorem Rep.reads(I:Inv X pins σ H s):∀{x:PV}{v:V}{u:Value},x.noX=true->Rep X.K H S x v->J2 v u->∃as,Reads s.heap u x.dat as
 |.non,_,_,_,h,r=>by cases h;cases r;exact⟨_,.none⟩
 |.bl _,_,_,_,h,r=>by cases h;cases r;exact⟨_,.bool _⟩
 |.int _,_,_,_,h,r=>by cases h;obtain⟨t,rfl⟩:=r;exact⟨_,.int _ _⟩
 |.str _,_,_,_,h,r=>by cases h;obtain⟨t,rfl⟩:=r;exact⟨_,.str _ _⟩
 |.exc _,_,_,z,_,_=>by simp[PV.noX] at z
 |.exa _ _,_,_,z,_,_=>by simp[PV.noX] at z
 |.box _ _ _,_,_,z,_,_=>by simp[PV.noX] at z
 |.fz xs,_,_,z,h,r=>by
  obtain⟨a,vs,rfl,⟨o,hn⟩,hr⟩:=h
  cases r
  obtain⟨its,rv,pl,_⟩:=I.list (JN (S:=fun _=>True) (.inl ⟨.inr ⟨o,hn.1⟩,trivial⟩))
  obtain⟨as,ra⟩:=Reps.reads I (by simpa[PV.noX] using z) hr rv
  obtain⟨o,ho,hc,n,hd⟩:=pl.isList
  exact⟨_,.list ho hc hd (by simpa using ra)⟩
 |.lst xs,_,_,z,h,r=>by
  obtain⟨a,vs,rfl,hn,hr⟩:=h
  cases r
  obtain⟨its,rv,pl,_⟩:=I.list (JN hn)
  obtain⟨as,ra⟩:=Reps.reads I (by simpa[PV.noX] using z) hr rv
  obtain⟨o,ho,hc,n,hd⟩:=pl.isList
  exact⟨_,.list ho hc hd (by simpa using ra)⟩
 |.tup xs,_,_,z,h,r=>by
  obtain⟨a,vs,rfl,hn,hr⟩:=h
  cases r
  obtain⟨its,rv,⟨o,ho,hc,n,hd⟩,_⟩:=I.tuple hn.sqT
  obtain⟨as,ra⟩:=Reps.reads I (by simpa[PV.noX] using z) hr rv
  exact⟨_,.tuple ho hc hd (by simpa using ra)⟩
theorem Reps.reads(I:Inv X pins σ H s):∀{xs:List PV}{vs:List V}{us:List Value},PV.noXs xs=true->Reps X.K H S xs vs->ZU vs us->∃as,ReadsAll s.heap us (PV.dats xs) as
 |[],_,_,_,h,r=>by rw[h] at r;cases r;exact⟨_,.nil⟩
 |x::xs,_,_,z,h,r=>by
  simp only[PV.noXs,Bool.and_eq_true] at z
  obtain⟨v,vs,rfl,h1,h2⟩:=h
  cases r with
  |cons r1 r2 =>
   obtain⟨as,a1⟩:=Rep.reads I z.1 h1 r1
   obtain⟨bs,b1⟩:=Reps.reads I z.2 h2 r2
   exact⟨_,.cons a1 b1⟩
end
noncomputable def okD(x:PV):Bool:=x.noX&&x.dat.canLay0&&decide (x.dat.depth<=64)
noncomputable def Zni(K:W.Frag)(g:Bool->Bool):R2:=fun x y H Q=>∃p q,Rep K H (fun _=>True) p x/\Rep K H (fun _=>True) q y/\okD p=true/\okD q=true/\Q (.bl (g (PyData.eqv p.dat q.dat))) H
theorem ZS{K:W.Frag}(hu:X.A.units+64<cLine)(e:X.K=K:=by rfl):OpR X (compareOp .Eq) (Zni K id):=by
 subst e
 intro pins s σ H x y v u Q I rx ry h
 obtain⟨p,q,h1,h2,h3,h4,hq⟩:=h
 simp only[okD,Bool.and_eq_true,decide_eq_true_eq] at h3 h4
 obtain⟨as,ra⟩:=h1.reads I h3.1.1 rx
 obtain⟨bs,rb⟩:=h2.reads I h4.1.1 ry
 exact SeqAt.rcAt_reads ra rb h3.1.2 h4.1.2 (by have:=Zy0 p.dat.depth q.dat.depth;lia) _ _ _ _ ⟨.bl (PyData.eqv p.dat q.dat),H,I,rfl,hq⟩
theorem Zeg{K:W.Frag}(hu:X.A.units+64<cLine)(e:X.K=K:=by rfl):OpR X (compareOp .NotEq) (Zni K (!·)):=by
 subst e
 intro pins s σ H x y v u Q I rx ry h
 obtain⟨p,q,h1,h2,h3,h4,hq⟩:=h
 simp only[okD,Bool.and_eq_true,decide_eq_true_eq] at h3 h4
 obtain⟨as,ra⟩:=h1.reads I h3.1.1 rx
 obtain⟨bs,rb⟩:=h2.reads I h4.1.1 ry
 exact SeqAt.rcNeAt_reads ra rb h3.1.2 h4.1.2 (by have:=Zy0 p.dat.depth q.dat.depth;lia) _ _ _ _ ⟨.bl (!PyData.eqv p.dat q.dat),H,I,rfl,hq⟩
end
noncomputable def ZbM(g:Bool->Bool)(x y:PV):Rr PV:=if (okD x&&okD y)=true then .ok (.bl (g (PyData.eqv x.dat y.dat))) else .bad
def ZdI(i j:Int):Prop:=i.natAbs<2^60000/\j.natAbs<2^60000
def ZdJ(i j:Int):Prop:=0<j/\j.natAbs<2^9000
noncomputable instance (i j:Int):Decidable (ZdI i j):=by unfold ZdI;infer_instance
noncomputable instance (i j:Int):Decidable (ZdJ i j):=by unfold ZdJ;infer_instance
noncomputable instance (i j:Int):Decidable (Zlq i j):=by unfold Zlq;infer_instance
theorem ZhG{i:Int}{n:Nat}(h:i.natAbs<2^n):Builtin.Int.intBits i<=n:=by
 unfold Builtin.Int.intBits
 split
 ·exact Zym _
 ·rename_i h0
  have:i.natAbs≠0:=by simpa using h0
  exact Nat.succ_le_of_lt ((Nat.log2_lt this).mpr h)
section
variable {X:Cx}
theorem Qp:OpR X (binaryOp .Mult) (rI ZdI fun i j=>.int (i*j)):=opI fun _ _ _ _ _ _ _ hc q=>mul_int q (PyProof.Rows.mulOk_of_bits (ZhG hc.1) (ZhG hc.2) (by decide))
theorem Zeh:OpR X (binaryOp .FloorDiv) (rI ZdJ fun i j=>.int (i/j)):=opI fun i j _ _ _ _ _ hc q=>by
 refine floordiv_int (by have:=hc.1;lia) ?_ (.inl (PyProof.noPylong_of_log2 ?_))
 ·rw[Int.fdiv_eq_ediv_of_nonneg _ (by have:=hc.1;lia)];exact q
 ·have h0:j.natAbs≠0:=by have:=hc.1;lia
  exact(Nat.log2_lt h0).mpr hc.2
variable {K:W.Frag}{B:Addr->Prop}{EX:PX->Hp->Prop}{H0 H:Hp}{σ:St}{Γ Γ' Γ1 Γ2:List Md}{ρ:List PV}{F:Nat->List Addr}{R:List Addr}{k:Kd}{x:PV}{v:V}{ta tb:TE}{fa fb fc:List PV->Rr PV}
noncomputable abbrev Zoa:PV->PV->Rr PV:=oI (fun _ _=>true) fun i j=>.int (i+j)
noncomputable abbrev ZnY:PV->PV->Rr PV:=oI (fun _ _=>true) fun i j=>.int (i-j)
noncomputable abbrev Zno:PV->PV->Rr PV:=oI (fun i j=>decide (ZdI i j)) fun i j=>.int (i*j)
noncomputable abbrev Znr:PV->PV->Rr PV:=oI (fun i j=>decide (ZdJ i j)) fun i j=>.int (i/j)
noncomputable abbrev Znp:PV->PV->Rr PV:=oI (fun _ j=>decide (0<j)) fun i j=>.int (i%j)
noncomputable abbrev ZmK:PV->PV->Rr PV:=oI (fun i j=>decide (Zlq i j)) fun i j=>.int (i^j.toNat)
noncomputable abbrev pLt:PV->PV->Rr PV:=oI (fun _ _=>true) fun i j=>.bl (decide (i<j))
noncomputable abbrev pLe:PV->PV->Rr PV:=oI (fun _ _=>true) fun i j=>.bl (decide (i<=j))
noncomputable abbrev pGt:PV->PV->Rr PV:=oI (fun _ _=>true) fun i j=>.bl (decide (j<i))
noncomputable abbrev pGe:PV->PV->Rr PV:=oI (fun _ _=>true) fun i j=>.bl (decide (j<=i))
theorem ZiP{D:Int->Int->Prop}{C:Int->Int->Bool}{g:Int->Int->PV}{g':Int->Int->V}(hC:∀i j,C i j=true->D i j)(hg:∀H i j,Rep K H (fun _=>True) (g i j) (g' i j))(hf:∀i j,(g i j).flat=true)(ha:DE K EX Γ Γ1 .A ta fa)(hb:DE K EX Γ1 Γ2 .A tb fb):DE K EX Γ Γ2 .P (tOp (rI D g') ta tb) (fun ρ=>(fa ρ).bind fun x=>(fb ρ).bind fun y=>oI C g x y):=
 ZkA (Zo0 hC hg hf) (ZgD hf) Zej ha hb
theorem ZaW{g:Int->Int->PV}{g':Int->Int->V}(hg:∀H i j,Rep K H (fun _=>True) (g i j) (g' i j))(hf:∀i j,(g i j).flat=true)(ha:DE K EX Γ Γ1 .A ta fa)(hb:DE K EX Γ1 Γ2 .A tb fb):DE K EX Γ Γ2 .P (tOp (rI0 g') ta tb) (fun ρ=>(fa ρ).bind fun x=>(fb ρ).bind fun y=>oI (fun _ _=>true) g x y):=
 ZkA (Znu hg hf) (ZgD hf) Zej ha hb
theorem J8(ha:DE K EX Γ Γ1 .A ta fa)(hb:DE K EX Γ1 Γ2 .A tb fb):DE K EX Γ Γ2 .P (tOp (rI0 fun i j=>.int (i+j)) ta tb) (fun ρ=>(fa ρ).bind fun x=>(fb ρ).bind fun y=>Zoa x y):=ZaW (fun _ _ _=>rfl) (fun _ _=>rfl) ha hb
theorem J6(ha:DE K EX Γ Γ1 .A ta fa)(hb:DE K EX Γ1 Γ2 .A tb fb):DE K EX Γ Γ2 .P (tOp (rI0 fun i j=>.int (i-j)) ta tb) (fun ρ=>(fa ρ).bind fun x=>(fb ρ).bind fun y=>ZnY x y):=ZaW (fun _ _ _=>rfl) (fun _ _=>rfl) ha hb
theorem ZiQ(ha:DE K EX Γ Γ1 .A ta fa)(hb:DE K EX Γ1 Γ2 .A tb fb):DE K EX Γ Γ2 .P (tOp (rI0 fun i j=>.bl (decide (i<j))) ta tb) (fun ρ=>(fa ρ).bind fun x=>(fb ρ).bind fun y=>pLt x y):=ZaW (fun _ _ _=>rfl) (fun _ _=>rfl) ha hb
theorem ZkE(ha:DE K EX Γ Γ1 .A ta fa)(hb:DE K EX Γ1 Γ2 .A tb fb):DE K EX Γ Γ2 .P (tOp (rI0 fun i j=>.bl (decide (i<=j))) ta tb) (fun ρ=>(fa ρ).bind fun x=>(fb ρ).bind fun y=>pLe x y):=ZaW (fun _ _ _=>rfl) (fun _ _=>rfl) ha hb
theorem Uu(ha:DE K EX Γ Γ1 .A ta fa)(hb:DE K EX Γ1 Γ2 .A tb fb):DE K EX Γ Γ2 .P (tOp (rI0 fun i j=>.bl (decide (j<i))) ta tb) (fun ρ=>(fa ρ).bind fun x=>(fb ρ).bind fun y=>pGt x y):=ZaW (fun _ _ _=>rfl) (fun _ _=>rfl) ha hb
theorem Zn5(ha:DE K EX Γ Γ1 .A ta fa)(hb:DE K EX Γ1 Γ2 .A tb fb):DE K EX Γ Γ2 .P (tOp (rI0 fun i j=>.bl (decide (j<=i))) ta tb) (fun ρ=>(fa ρ).bind fun x=>(fb ρ).bind fun y=>pGe x y):=ZaW (fun _ _ _=>rfl) (fun _ _=>rfl) ha hb
theorem ZaX(ha:DE K EX Γ Γ1 .A ta fa)(hb:DE K EX Γ1 Γ2 .A tb fb):DE K EX Γ Γ2 .P (tOp (rI ZdI fun i j=>.int (i*j)) ta tb) (fun ρ=>(fa ρ).bind fun x=>(fb ρ).bind fun y=>Zno x y):=ZiP (fun _ _ h=>of_decide_eq_true h) (fun _ _ _=>rfl) (fun _ _=>rfl) ha hb
theorem ZjE(ha:DE K EX Γ Γ1 .A ta fa)(hb:DE K EX Γ1 Γ2 .A tb fb):DE K EX Γ Γ2 .P (tOp (rI ZdJ fun i j=>.int (i/j)) ta tb) (fun ρ=>(fa ρ).bind fun x=>(fb ρ).bind fun y=>Znr x y):=ZiP (fun _ _ h=>of_decide_eq_true h) (fun _ _ _=>rfl) (fun _ _=>rfl) ha hb
theorem J7(ha:DE K EX Γ Γ1 .A ta fa)(hb:DE K EX Γ1 Γ2 .A tb fb):DE K EX Γ Γ2 .P (tOp (rI (fun _ j=>0<j) fun i j=>.int (i%j)) ta tb) (fun ρ=>(fa ρ).bind fun x=>(fb ρ).bind fun y=>Znp x y):=ZiP (fun _ _ h=>of_decide_eq_true h) (fun _ _ _=>rfl) (fun _ _=>rfl) ha hb
theorem ZjC(ha:DE K EX Γ Γ1 .A ta fa)(hb:DE K EX Γ1 Γ2 .A tb fb):DE K EX Γ Γ2 .P (tOp (rI Zlq fun i j=>.int (i^j.toNat)) ta tb) (fun ρ=>(fa ρ).bind fun x=>(fb ρ).bind fun y=>ZmK x y):=ZiP (fun _ _ h=>of_decide_eq_true h) (fun _ _ _=>rfl) (fun _ _=>rfl) ha hb
noncomputable def ZmL(x:PV):Rr PV:=match x with
 |.int i=>.ok (.int (-i))
 |_=>.bad
theorem ZjD(ha:DE K EX Γ Γ1 .A ta fa):DE K EX Γ Γ1 .P (tUn (rU fun i=>.int (-i)) ta) (fun ρ=>(fa ρ).bind ZmL):=by
 refine Zn2 (fun {H x v Q} rx ⟨z,e,q⟩=>?_) (fun x e h=>?_) ha
 ·cases x<;>first|(simp only[ZmL] at e;cases e;done)|skip
  cases e;cases rx
  exact⟨_,rfl,q rfl _ rfl⟩
 ·cases x<;>(simp only[ZmL] at h;cases h)
theorem Zff{g:Bool->Bool}(x y:PV)(e:PX):ZbM g x y≠.exc e:=by
 unfold ZbM
 intro h
 split at h<;>cases h
theorem Zg5{g:Bool->Bool}(x y z:PV)(h:ZbM g x y=.ok z):z.flat=true:=by
 unfold ZbM at h
 split at h
 ·cases h;rfl
 ·cases h
theorem ZM{g:Bool->Bool}(ha:DE K EX Γ Γ1 .A ta fa)(hb:DE K EX Γ1 Γ2 .A tb fb):DE K EX Γ Γ2 .P (tOp (Zni K g) ta tb) (fun ρ=>(fa ρ).bind fun x=>(fb ρ).bind fun y=>ZbM g x y):=by
 refine ZkA (fun {H x y v w Q} rx ry ⟨z,e,q⟩=>?_) Zg5 Zff ha hb
 unfold ZbM at e
 by_cases h:(okD x&&okD y)=true
 ·rw[if_pos h] at e;cases e
  rw[Bool.and_eq_true] at h
  exact⟨x,y,rx,ry,h.1,h.2,q rfl _ rfl⟩
 ·rw[if_neg h] at e;cases e
noncomputable def asB(x:PV):Rr Bool:=match x with
 |.bl b=>.ok b
 |_=>.bad
theorem Dn.asB{x:PV}{ok:Bool->Prop}{ex:PX->Prop}(d:Dn (asB x) ok ex):∃b,x=.bl b/\ok b:=by
 cases x with
 |bl b=>exact⟨b,rfl,d⟩
 |_=>exact d.elim
theorem Zm5(ha:DE K EX Γ Γ1 .A ta fa):DE K EX Γ Γ1 .P (Zl4 ta) (fun ρ=>(fa ρ).bind fun x=>(asB x).bind fun b=>.ok (.bl (!b))):=fun B H0 H σ ρ F R Q A d=>by
 refine ha B H0 H σ ρ F R _ A (d.bind.imp (fun x _ d v H1 s1 r1=>?_) fun e q=>q)
 obtain⟨b,rfl,d⟩:=d.bind.asB
 obtain⟨F1,f1,p1,A1⟩:=r1
 cases p1
 exact⟨b,rfl,d _ H1 s1 ⟨F1,f1,rfl,rfl,A1⟩⟩
theorem Res.shift{H1:Hp}{F1:Nat->List Addr}{k:Kd}{Γ2:List Md}{y:PV}{w:V}{H2:Hp}(s1:Z9 H H1)(f1:∀i,∀a∈F1 i,a∈F i)(h:Res K B H0 H1 σ Γ2 ρ F1 R k y w H2):Res K B H0 H σ Γ2 ρ F R k y w H2:=by
 obtain⟨F2,f2,h⟩:=h
 refine⟨F2,fun i a ha=>f1 i a (f2 i a ha), ?_⟩
 have org:∀a,(H1 a=none\/∃i,a∈F1 i)->(H a=none\/∃i,a∈F i):=fun a h=>h.elim (fun z=>.inl (s1.free z)) fun⟨i,z⟩=>.inr ⟨i,f1 i a z⟩
 cases k with
 |P=>exact h
 |F=>obtain⟨G,h1,h2,h3⟩:=h;exact⟨G,h1,fun a ha=>⟨(h2 a ha).1,org a (h2 a ha).2⟩,h3⟩
 |T=>obtain⟨a,vs,xs,h1,h2,h3,h4,h5,h6,h7⟩:=h;exact⟨a,vs,xs,h1,h2,h3,h4,h5,org a h6,h7⟩
 |Z=>exact h
 |A=>exact h
 |N=>exact h.elim
 |M=>exact h.elim
theorem ZaY(ha:DE K EX Γ Γ .A ta fa)(hb:DE K EX Γ Γ .P tb fb):DE K EX Γ Γ .P (ZlB ta tb) (fun ρ=>(fa ρ).bind fun x=>(asB x).bind fun b=>if b=true then fb ρ else .ok (.bl false)):=fun B H0 H σ ρ F R Q A d=>by
 refine ha B H0 H σ ρ F R _ A (d.bind.imp (fun x _ d v H1 s1 r1=>?_) fun e q=>q)
 obtain⟨b,rfl,d⟩:=d.bind.asB
 obtain⟨F1,f1,p1,A1⟩:=r1
 cases p1
 refine⟨b,rfl, ?_⟩
 cases b with
 |true=>exact hb B H0 H1 σ ρ F1 R _ A1 (d.imp (fun y _ q w H2 s2 r2=>q w H2 (s1.trans s2) (r2.shift s1 f1)) fun e q=>q)
 |false=>exact d _ H1 s1 ⟨F1,f1,rfl,rfl,A1⟩
theorem Zn3(ha:DE K EX Γ Γ .A ta fa)(hb:DE K EX Γ Γ .P tb fb):DE K EX Γ Γ .P (ZnL ta tb) (fun ρ=>(fa ρ).bind fun x=>(asB x).bind fun b=>if b=true then .ok (.bl true) else fb ρ):=fun B H0 H σ ρ F R Q A d=>by
 refine ha B H0 H σ ρ F R _ A (d.bind.imp (fun x _ d v H1 s1 r1=>?_) fun e q=>q)
 obtain⟨b,rfl,d⟩:=d.bind.asB
 obtain⟨F1,f1,p1,A1⟩:=r1
 cases p1
 refine⟨b,rfl, ?_⟩
 cases b with
 |false=>exact hb B H0 H1 σ ρ F1 R _ A1 (d.imp (fun y _ q w H2 s2 r2=>q w H2 (s1.trans s2) (r2.shift s1 f1)) fun e q=>q)
 |true=>exact d _ H1 s1 ⟨F1,f1,rfl,rfl,A1⟩
theorem Zw(ha:DE K EX Γ Γ' .A ta fa):DT K EX Γ Γ' (Zl2 ta) (fun ρ=>(fa ρ).bind asB):=fun B H0 H σ ρ F R Q A d=>by
 refine ha B H0 H σ ρ F R _ A (d.bind.imp (fun x _ d v H1 s1 r1=>?_) fun e q=>q)
 obtain⟨b,rfl,d⟩:=d.asB
 obtain⟨F1,f1,p1,A1⟩:=r1
 cases p1
 exact⟨b,rfl,d H1 F1 s1 f1 A1⟩
theorem ZcC(ha:DE K EX Γ Γ' .A ta fa):DT K EX Γ Γ' (tB ta) (fun ρ=>(fa ρ).bind asB):=Zw ha
theorem ZaV{c d:TT}{fc fd:List PV->Rr Bool}(hc:DT K EX Γ Γ c fc)(hd:DT K EX Γ Γ d fd):DT K EX Γ Γ (ZnR c d) (fun ρ=>(fc ρ).bind fun b=>if b=true then fd ρ else .ok false):=fun B H0 H σ ρ F R Q A dn=>by
 refine hc B H0 H σ ρ F R _ A (dn.bind.imp (fun b _ dn H1 F1 s1 f1 A1=>?_) fun e q=>q)
 cases b with
 |true=>exact hd B H0 H1 σ ρ F1 R _ A1 (dn.imp (fun y _ q H2 F2 s2 f2 A2=>q H2 F2 (s1.trans s2) (fun i a h=>f1 i a (f2 i a h)) A2) fun e q=>q)
 |false=>exact dn H1 F1 s1 f1 A1
theorem Zb6{c d:TT}{fc fd:List PV->Rr Bool}(hc:DT K EX Γ Γ c fc)(hd:DT K EX Γ Γ d fd):DT K EX Γ Γ (tOr c d) (fun ρ=>(fc ρ).bind fun b=>if b=true then .ok true else fd ρ):=fun B H0 H σ ρ F R Q A dn=>by
 refine hc B H0 H σ ρ F R _ A (dn.bind.imp (fun b _ dn H1 F1 s1 f1 A1=>?_) fun e q=>q)
 cases b with
 |false=>exact hd B H0 H1 σ ρ F1 R _ A1 (dn.imp (fun y _ q H2 F2 s2 f2 A2=>q H2 F2 (s1.trans s2) (fun i a h=>f1 i a (f2 i a h)) A2) fun e q=>q)
 |true=>exact dn H1 F1 s1 f1 A1
theorem Qb{c:TT}{fc:List PV->Rr Bool}(hc:DT K EX Γ Γ' c fc):DT K EX Γ Γ' (ZnM c) (fun ρ=>(fc ρ).bind fun b=>.ok (!b)):=fun B H0 H σ ρ F R Q A dn =>
 hc B H0 H σ ρ F R _ A (dn.bind.imp (fun b _ dn H1 F1 s1 f1 A1=>dn H1 F1 s1 f1 A1) fun e q=>q)
theorem Zn4{c:TT}{fc:List PV->Rr Bool}(hc:DT K EX Γ Γ c fc)(ha:DE K EX Γ Γ' k ta fa)(hb:DE K EX Γ Γ' k tb fb):DE K EX Γ Γ' k (tIf c ta tb) (fun ρ=>(fc ρ).bind fun b=>if b=true then fa ρ else fb ρ):=fun B H0 H σ ρ F R Q A dn=>by
 refine hc B H0 H σ ρ F R _ A (dn.bind.imp (fun b _ dn H1 F1 s1 f1 A1=>?_) fun e q=>q)
 cases b with
 |true=>exact ha B H0 H1 σ ρ F1 R _ A1 (dn.imp (fun y _ q w H2 s2 r2=>q w H2 (s1.trans s2) (r2.shift s1 f1)) fun e q=>q)
 |false=>exact hb B H0 H1 σ ρ F1 R _ A1 (dn.imp (fun y _ q w H2 s2 r2=>q w H2 (s1.trans s2) (r2.shift s1 f1)) fun e q=>q)
end
def DAA(K:W.Frag)(EX:PX->Hp->Prop)(Γ Γ':List Md)(ta:TA)(f:List PV->Rr (List PV)):Prop:=
 ∀(B:Addr->Prop) (H0 H:Hp) (σ:St) (ρ:List PV) (F:Nat->List Addr) (R:List Addr) (Q:List V->Hp->Prop),Ag K B H0 H σ Γ ρ F R ->
  Dn (f ρ) (fun xs=>∀vs H' F',Z9 H H'->(∀i,∀a∈F' i,a∈F i)->Reps K H' (fun _=>True) xs vs->Ag K B H0 H' σ Γ' ρ F' R->Q vs H') (fun e=>∀H',Z9 H0 H'->EX e H')->ta σ H Q
def DAF(K:W.Frag)(EX:PX->Hp->Prop)(Γ Γ':List Md)(ta:TA)(f:List PV->Rr (List PV)):Prop:=
 ∀(B:Addr->Prop) (H0 H:Hp) (σ:St) (ρ:List PV) (F:Nat->List Addr) (R:List Addr) (Q:List V->Hp->Prop),Ag K B H0 H σ Γ ρ F R ->
  Dn (f ρ) (fun xs=>∀vs H' F' G,Z9 H H'->(∀i,∀a∈F' i,a∈F i)->Trees K H' xs vs G->(∀a∈G,a ∉ R/\(H a=none\/∃i,a∈F i))->Ag K B H0 H' σ Γ' ρ F' (G++R)->Q vs H') (fun e=>∀H',Z9 H0 H'->EX e H')->ta σ H Q
def DAZ(K:W.Frag)(EX:PX->Hp->Prop)(Γ Γ':List Md)(ta:TA)(f:List PV->Rr (List PV)):Prop:=
 ∀(B:Addr->Prop) (H0 H:Hp) (σ:St) (ρ:List PV) (F:Nat->List Addr) (R:List Addr) (Q:List V->Hp->Prop),Ag K B H0 H σ Γ ρ F R ->
  Dn (f ρ) (fun xs=>∀vs H' F',Z9 H H'->(∀i,∀a∈F' i,a∈F i)->Reps K H' (NO B F' R) xs vs->Ag K B H0 H' σ Γ' ρ F' R->Q vs H') (fun e=>∀H',Z9 H0 H'->EX e H')->ta σ H Q
section
variable {K:W.Frag}{B:Addr->Prop}{EX:PX->Hp->Prop}{H0 H H':Hp}{σ:St}{Γ Γ' Γ1 Γ2:List Md}{ρ:List PV}{F F':Nat->List Addr}{R:List Addr}{k:Kd}{x:PV}{v:V}{te tb:TE}{ta:TA}{f fb:List PV->Rr PV}{fa:List PV->Rr (List PV)}
theorem Ze:DAA K EX Γ Γ Zf9 (fun _=>.ok []):=fun B H0 H σ ρ F R Q A d=>d [] H F (Z9.refl H) (fun _ _ h=>h) rfl A
theorem Zb(he:DE K EX Γ Γ1 .A te f)(ha:DAA K EX Γ1 Γ2 ta fa):DAA K EX Γ Γ2 (Q6 te ta) (fun ρ=>(f ρ).bind fun x=>(fa ρ).bind fun xs=>.ok (x::xs)):=fun B H0 H σ ρ F R Q A d=>by
 refine he B H0 H σ ρ F R _ A (d.bind.imp (fun x _ d v H1 s1 r1=>?_) fun e q=>q)
 obtain⟨F1,f1,p1,A1⟩:=r1
 refine ha B H0 H1 σ ρ F1 R _ A1 (d.bind.imp (fun xs _ d vs H2 F2 s2 f2 p2 A2=>?_) fun e q=>q)
 exact d (v::vs) H2 F2 (s1.trans s2) (fun i a h=>f1 i a (f2 i a h)) ⟨v,vs,rfl,p1.same s2,p2⟩ A2
theorem JS:DAF K EX Γ Γ Zf9 (fun _=>.ok []):=fun B H0 H σ ρ F R Q A d=>d [] H F [] (Z9.refl H) (fun _ _ h=>h) ⟨rfl,rfl⟩ (by simp) A
theorem Jl(he:DE K EX Γ Γ1 .F te f)(ha:DAF K EX Γ1 Γ2 ta fa):DAF K EX Γ Γ2 (Q6 te ta) (fun ρ=>(f ρ).bind fun x=>(fa ρ).bind fun xs=>.ok (x::xs)):=fun B H0 H σ ρ F R Q A d=>by
 refine he B H0 H σ ρ F R _ A (d.bind.imp (fun x _ d v H1 s1 r1=>?_) fun e q=>q)
 obtain⟨F1,f1,G1,p1,o1,A1⟩:=r1
 refine ha B H0 H1 σ ρ F1 (G1++R) _ A1 (d.bind.imp (fun xs _ d vs H2 F2 G2 s2 f2 p2 o2 A2=>?_) fun e q=>q)
 refine d (v::vs) H2 F2 (G1++G2) (s1.trans s2) (fun i a h=>f1 i a (f2 i a h)) ⟨v,vs,G1,G2,rfl,p1.same s2,p2,fun a ha z=>(o2 a z).1 (Zxe _ ha),rfl⟩ (fun a ha=>?_) (A2.less fun a ha=>?_)
 ·rcases Zxg.mp ha with z|z
  ·exact o1 a z
  ·obtain⟨o3,o4⟩:=o2 a z
   exact⟨fun q=>o3 (Zxb _ q),o4.elim (fun q=>.inl (s1.free q)) fun⟨i,q⟩=>.inr ⟨i,f1 i a q⟩⟩
 ·simp only[Zxg] at ha ⊢
  rcases ha with (z|z)|z
  ·exact .inr (.inl z)
  ·exact .inl z
  ·exact .inr (.inr z)
theorem ZkI:DAZ K EX Γ Γ Zf9 (fun _=>.ok []):=fun B H0 H σ ρ F R Q A d=>d [] H F (Z9.refl H) (fun _ _ h=>h) rfl A
theorem ZeC(he:DE K EX Γ Γ1 .Z te f)(ha:DAZ K EX Γ1 Γ2 ta fa):DAZ K EX Γ Γ2 (Q6 te ta) (fun ρ=>(f ρ).bind fun x=>(fa ρ).bind fun xs=>.ok (x::xs)):=fun B H0 H σ ρ F R Q A d=>by
 refine he B H0 H σ ρ F R _ A (d.bind.imp (fun x _ d v H1 s1 r1=>?_) fun e q=>q)
 obtain⟨F1,f1,p1,A1⟩:=r1
 refine ha B H0 H1 σ ρ F1 R _ A1 (d.bind.imp (fun xs _ d vs H2 F2 s2 f2 p2 A2=>?_) fun e q=>q)
 refine d (v::vs) H2 F2 (s1.trans s2) (fun i a h=>f1 i a (f2 i a h)) ⟨v,vs,rfl, ?_,p2⟩ A2
 exact Rep.mono (fun a us s r=>⟨r.same s2,s.1,s.2.1,fun i z=>s.2.2 i (f2 i a z)⟩) (fun a us r=>s2.im r) p1
noncomputable def mkT(xs:List PV):Rr PV:=if xs.length<=1000 then .ok (.tup xs) else .bad
noncomputable def mkL(xs:List PV):Rr PV:=if xs.length<=1000 then .ok (.lst xs) else .bad
theorem Dn.mkT{xs:List PV}{ok:PV->Prop}{ex:PX->Prop}(d:Dn (mkT xs) ok ex):xs.length<=1000/\ok (.tup xs):=by
 unfold L2.mkT at d
 by_cases h:xs.length<=1000
 ·rw[if_pos h] at d;exact⟨h,d⟩
 ·rw[if_neg h] at d;exact d.elim
theorem Dn.mkL{xs:List PV}{ok:PV->Prop}{ex:PX->Prop}(d:Dn (mkL xs) ok ex):xs.length<=1000/\ok (.lst xs):=by
 unfold L2.mkL at d
 by_cases h:xs.length<=1000
 ·rw[if_pos h] at d;exact⟨h,d⟩
 ·rw[if_neg h] at d;exact d.elim
theorem ZbC(ha:DAF K EX Γ Γ' ta fa):DE K EX Γ Γ' .F (Znb ta) (fun ρ=>(fa ρ).bind mkT):=fun B H0 H σ ρ F R Q A d=>by
 refine ha B H0 H σ ρ F R _ A (d.bind.imp (fun xs _ d vs H1 F1 G s1 f1 p1 o1 A1=>?_) fun e q=>q)
 obtain⟨hl,d⟩:=d.mkT
 refine⟨by rw[p1.length];exact UV hl,fun p hp=>?_⟩
 have e:Z9 H1 (upd H1 p (.tup vs)):=Z9.new hp
 exact d _ _ (s1.trans e) ⟨F1,f1,G,⟨p,vs,rfl,⟨ZE,trivial⟩,p1.same e⟩,o1,A1.grow e⟩
theorem UB(ha:DAA K EX Γ Γ' ta fa):DE K EX Γ Γ' .A (Znb ta) (fun ρ=>(fa ρ).bind mkT):=fun B H0 H σ ρ F R Q A d=>by
 refine ha B H0 H σ ρ F R _ A (d.bind.imp (fun xs _ d vs H1 F1 s1 f1 p1 A1=>?_) fun e q=>q)
 obtain⟨hl,d⟩:=d.mkT
 refine⟨by rw[p1.length];exact UV hl,fun p hp=>?_⟩
 have e:Z9 H1 (upd H1 p (.tup vs)):=Z9.new hp
 exact d _ _ (s1.trans e) ⟨F1,f1,⟨p,vs,rfl,⟨ZE,trivial⟩,p1.same e⟩,A1.grow e⟩
theorem Res.newF{H1:Hp}{F1:Nat->List Addr}{G:List Addr}{xs:List PV}{vs:List V}{p:Addr}(s1:Z9 H H1)(f1:∀i,∀a∈F1 i,a∈F i)(p1:Trees K H1 xs vs G)(o1:∀a∈G,a ∉ R/\(H a=none\/∃i,a∈F i))(A1:Ag K B H0 H1 σ Γ' ρ F1 (G++R))(hp:H1 p=none) :
  Res K B H0 H σ Γ' ρ F R .F (.lst xs) (.ref p) (upd H1 p (.lst vs)):=by
 have e:Z9 H1 (upd H1 p (.lst vs)):=Z9.new hp
 have hf:=A1.fresh hp
 refine⟨F1,f1,p::G,⟨p,vs,G,rfl,ZE,p1.same e,fun z=>hf.1 (Zxe _ z),rfl⟩,fun a ha=>?_,A1.new hp⟩
 rcases Zxd.mp ha with rfl|z
 ·exact⟨fun z=>hf.1 (Zxb _ z),.inl (s1.free hp)⟩
 ·exact o1 a z
theorem Res.newP{H1:Hp}{F1:Nat->List Addr}{xs:List PV}{vs:List V}{p:Addr}{S:Addr->Prop}(s1:Z9 H H1)(f1:∀i,∀a∈F1 i,a∈F i)(p1:Reps K H1 S xs vs)(hx:PV.flats xs=true)(A1:Ag K B H0 H1 σ Γ' ρ F1 R)(hp:H1 p=none) :
  Res K B H0 H σ Γ' ρ F R .F (.lst xs) (.ref p) (upd H1 p (.lst vs)):=Res.newF (G:=[]) s1 f1 (p1.trees hx) (by simp) A1 hp
theorem VH(ha:DAF K EX Γ Γ' ta fa):DE K EX Γ Γ' .F (ZmJ ta) (fun ρ=>(fa ρ).bind mkL):=fun B H0 H σ ρ F R Q A d=>by
 refine ha B H0 H σ ρ F R _ A (d.bind.imp (fun xs _ d vs H1 F1 G s1 f1 p1 o1 A1=>?_) fun e q=>q)
 obtain⟨hl,d⟩:=d.mkL
 refine⟨by rw[p1.length];exact UV hl,fun p hp=>d _ _ (s1.trans (Z9.new hp)) (Res.newF s1 f1 p1 o1 A1 hp)⟩
noncomputable def pIx(x y:PV):Rr PV:=match x,y with
 |.lst xs,.int i=>match atI xs i with
  |some z=>.ok z
  |none=>.bad
 |.tup xs,.int i=>match atI xs i with
  |some z=>.ok z
  |none=>.bad
 |_,_=>.bad
theorem Zge{S:Addr->Prop}{xs:List PV}{vs:List V}{i:Int}{z:PV}(h:Reps K H S xs vs)(e:atI xs i=some z):∃u,atI vs i=some u/\Rep K H S z u:=by
 unfold atI at e ⊢
 rw[h.length]
 cases q:ixN xs.length i with
 |none=>rw[q] at e;cases e
 |some j =>
  rw[q] at e
  obtain⟨u,e1,e2⟩:=h.get e
  exact⟨u,e1,e2⟩
theorem ZlD{S:Addr->Prop}{x y z:PV}{v w:V}{Q:VK}(hx:Rep K H S x v)(hy:Rep K H (fun _=>True) y w)(e:pIx x y=.ok z)(q:∀u,Rep K H S z u->Q u H):rIx K v w H Q:=by
 cases x<;>cases y<;>first|(simp only[pIx] at e;cases e;done)|skip
 ·rename_i xs i
  obtain⟨a,vs,rfl,hn,hr⟩:=hx
  cases hy
  simp only[pIx] at e
  cases e1:atI xs i with
  |none=>rw[e1] at e;cases e
  |some z' =>
   rw[e1] at e;cases e
   obtain⟨u,e2,e3⟩:=Zge hr e1
   exact .inl ⟨a,vs,i,u,rfl,rfl,JN hn,e2,q u e3⟩
 ·rename_i xs i
  obtain⟨a,vs,rfl,hn,hr⟩:=hx
  cases hy
  simp only[pIx] at e
  cases e1:atI xs i with
  |none=>rw[e1] at e;cases e
  |some z' =>
   rw[e1] at e;cases e
   obtain⟨u,e2,e3⟩:=Zge hr e1
   exact .inr (.inl ⟨a,vs,i,u,rfl,rfl,hn.sqT,e2,q u e3⟩)
theorem Zg0(x y:PV)(e:PX):pIx x y≠.exc e:=by
 cases x<;>cases y<;>first|(intro h;simp only[pIx] at h;cases h;done)|skip
 all_goals
  intro h
  simp only[pIx] at h
  split at h<;>cases h
theorem Dn.pIx{x y:PV}{ok:PV->Prop}{ex:PX->Prop}(d:Dn (pIx x y) ok ex):∃z,pIx x y=.ok z/\ok z:=by
 cases e:L2.pIx x y with
 |ok z=>rw[e] at d;exact⟨z,rfl,d⟩
 |exc q=>exact absurd e (Zg0 x y q)
 |bad=>rw[e] at d;exact d.elim
theorem Jf{te ta':TE}{fa':List PV->Rr PV}(ha:DE K EX Γ Γ1 .A ta' fa')(hb:DE K EX Γ1 Γ2 .A tb fb):DE K EX Γ Γ2 .A (tOp (rIx K) ta' tb) (fun ρ=>(fa' ρ).bind fun x=>(fb ρ).bind fun y=>pIx x y):=fun B H0 H σ ρ F R Q A d=>by
 refine two ha hb A d.bind2 fun x y v w H' F' d s hF p1 p2 A'=>?_
 obtain⟨z,e,d⟩:=d.pIx
 exact ZlD p1 p2 e fun u hu=>d u H' s ⟨F',hF,hu,A'⟩
def CbP(K:W.Frag)(r:List V->Hp->VK->Prop)(o:List PV->Rr PV):Prop:=∀{H:Hp}{xs:List PV}{vs:List V}{Q:VK},Reps K H (fun _=>True) xs vs->∀z,o xs=.ok z->z.flat=true/\((∀u,Rep K H (fun _=>True) z u->Q u H)->r vs H Q)
theorem Zd0{r:List V->Hp->VK->Prop}{o:List PV->Rr PV}(hr:CbP K r o)(hx:∀xs e,o xs≠.exc e)(ha:DAA K EX Γ Γ' ta fa):DE K EX Γ Γ' .P (tCB r ta) (fun ρ=>(fa ρ).bind o):=fun B H0 H σ ρ F R Q A d=>by
 refine ha B H0 H σ ρ F R _ A (d.bind.imp (fun xs _ d vs H1 F1 s1 f1 p1 A1=>?_) fun e q=>q)
 cases e:o xs with
 |ok z =>
  rw[e] at d
  obtain⟨hf,h⟩:=hr (Q:=Q) p1 z e
  exact h fun u hu=>d u H1 s1 ⟨F1,f1,hf,hu,A1⟩
 |exc q=>exact absurd e (hx xs q)
 |bad=>rw[e] at d;exact d.elim
noncomputable def ZfB(xs:List PV):Rr PV:=match xs with
 |[.lst ys]=>.ok (.int ys.length)
 |[.tup ys]=>.ok (.int ys.length)
 |_=>.bad
theorem UO{S:Addr->Prop}{x:PV}{vs:List V}(h:Reps K H S [x] vs):∃v,vs=[v]/\Rep K H S x v:=by
 obtain⟨v,r,rfl,h1,h2⟩:=h
 cases h2
 exact⟨v,rfl,h1⟩
theorem ZlE{S:Addr->Prop}{x y:PV}{vs:List V}(h:Reps K H S [x,y] vs):∃v w,vs=[v,w]/\Rep K H S x v/\Rep K H S y w:=by
 obtain⟨v,r,rfl,h1,w,r',rfl,h2,h3⟩:=h
 cases h3
 exact⟨v,w,rfl,h1,h2⟩
theorem Jb(ha:DAA K EX Γ Γ' ta fa):DE K EX Γ Γ' .P (tCB (fun xs H Q=>∃p ys,xs=[.ref p]/\(SqL K H p ys\/SqT K H p ys)/\Q (.int ys.length) H) ta) (fun ρ=>(fa ρ).bind ZfB):=by
 refine Zd0 (fun {H xs vs Q} h z e=>?_) (fun xs e h=>?_) ha
 ·unfold ZfB at e
  split at e<;>first|(cases e;done)|skip
  all_goals
   cases e
   refine⟨rfl,fun q=>?_⟩
   obtain⟨v,rfl,a,ws,rfl,hn,hr⟩:=UO h
   refine⟨a,ws,rfl, ?_,by rw[hr.length];exact q _ rfl⟩
   first|exact .inl (JN (S:=fun _=>True) hn)|exact .inr hn.sqT
 ·unfold ZfB at h;split at h<;>cases h
noncomputable def Q0:List PV->Option (List Int)
 |[]=>some []
 |.int i::xs=>(Q0 xs).map (i::·)
 |_::_=>none
@[simp] theorem Zlk(ns:List Int):Q0 (ns.map PV.int)=some ns:=by
 induction ns with
 |nil=>rfl
 |cons n ns ih=>simp[Q0,ih]
theorem Zc4:∀{xs:List PV}{ns:List Int},Q0 xs=some ns->xs=ns.map PV.int
 |[],_,h=>by cases h;rfl
 |.int i::xs,ns,h=>by
  simp only[Q0] at h
  cases e:Q0 xs with
  |none=>rw[e] at h;cases h
  |some ms=>rw[e] at h;cases h;rw[Zc4 e];rfl
 |.non::_,_,h=>by cases h
 |.bl _::_,_,h=>by cases h
 |.str _::_,_,h=>by cases h
 |.exc _::_,_,h=>by cases h
 |.exa _ _::_,_,h=>by cases h
 |.box _ _ _::_,_,h=>by cases h
 |.fz _::_,_,h=>by cases h
 |.lst _::_,_,h=>by cases h
 |.tup _::_,_,h=>by cases h
theorem Zch{S:Addr->Prop}:∀{ns:List Int}{vs:List V},Reps K H S (ns.map PV.int) vs->vs=ns.map V.int
 |[],_,h=>h
 |n::ns,_,h=>by
  obtain⟨v,r,rfl,h1,h2⟩:=h
  cases h1
  rw[Zch h2];rfl
theorem Zc3{S:Addr->Prop}:∀(ns:List Int),Reps K H S (ns.map PV.int) (ns.map V.int)
 |[]=>rfl
 |n::ns=>⟨_,_,rfl,rfl,Zc3 ns⟩
theorem ZdV{S:Addr->Prop}{ns:List Int}{v:V}(h:Rep K H S (.lst (ns.map PV.int)) v):∃a,v=.ref a/\SqL K H a (ns.map V.int):=by
 obtain⟨a,vs,rfl,hn,hr⟩:=h
 rw[Zch hr] at hn
 exact⟨a,rfl,JN hn⟩
noncomputable def Zfe(g:List Int->Rr PV)(xs:List PV):Rr PV:=match xs with
 |[.lst ys]=>match Q0 ys with
  |some ns=>g ns
  |none=>.bad
 |_=>.bad
theorem Rr.ints{g:List Int->Rr PV}{xs:List PV}{z:PV}(e:Zfe g xs=.ok z):∃ns,xs=[.lst (ns.map PV.int)]/\g ns=.ok z:=by
 unfold Zfe at e
 split at e
 ·split at e
  ·rename_i ns h
   exact⟨ns,by rw[Zc4 h],e⟩
  ·cases e
 ·cases e
theorem Zdj{g:List Int->Rr PV}(hg:∀ns e,g ns≠.exc e)(xs:List PV)(e:PX):Zfe g xs≠.exc e:=by
 intro h
 unfold Zfe at h
 split at h
 ·split at h
  ·exact hg _ _ h
  ·cases h
 ·cases h
noncomputable abbrev Znn:=Zfe fun ns=>.ok (.int ns.sum)
theorem Ux(ha:DAA K EX Γ Γ' ta fa):DE K EX Γ Γ' .P (tCB (fun xs H Q=>∃p,∃ns:List Int,xs=[.ref p]/\SqL K H p (ns.map V.int)/\Q (.int ns.sum) H) ta) (fun ρ=>(fa ρ).bind Znn):=by
 refine Zd0 (fun {H xs vs Q} h z e=>?_) (Zdj fun ns e h=>by cases h) ha
 obtain⟨ns,rfl,e'⟩:=Rr.ints e
 cases e'
 obtain⟨v,rfl,h1⟩:=UO h
 obtain⟨a,rfl,h2⟩:=ZdV h1
 exact⟨rfl,fun q=>⟨a,ns,rfl,h2,q _ rfl⟩⟩
noncomputable def Zd8:List PV->Option (List Bool)
 |[]=>some []
 |.bl i::xs=>(Zd8 xs).map (i::·)
 |_::_=>none
@[simp] theorem ZhF(ns:List Bool):Zd8 (ns.map PV.bl)=some ns:=by
 induction ns with
 |nil=>rfl
 |cons n ns ih=>simp[Zd8,ih]
theorem ZeF:∀{xs:List PV}{ns:List Bool},Zd8 xs=some ns->xs=ns.map PV.bl
 |[],_,h=>by cases h;rfl
 |.bl i::xs,ns,h=>by
  simp only[Zd8] at h
  cases e:Zd8 xs with
  |none=>rw[e] at h;cases h
  |some ms=>rw[e] at h;cases h;rw[ZeF e];rfl
 |.non::_,_,h=>by cases h
 |.int _::_,_,h=>by cases h
 |.str _::_,_,h=>by cases h
 |.exc _::_,_,h=>by cases h
 |.exa _ _::_,_,h=>by cases h
 |.box _ _ _::_,_,h=>by cases h
 |.fz _::_,_,h=>by cases h
 |.lst _::_,_,h=>by cases h
 |.tup _::_,_,h=>by cases h
theorem ZdT{S:Addr->Prop}:∀{ns:List Bool}{vs:List V},Reps K H S (ns.map PV.bl) vs->vs=ns.map V.bl
 |[],_,h=>h
 |n::ns,_,h=>by
  obtain⟨v,r,rfl,h1,h2⟩:=h
  cases h1
  rw[ZdT h2];rfl
noncomputable def Zma(xs:List PV):Rr PV:=match xs with
 |[.lst ys]=>match Zd8 ys with
  |some bs=>.ok (.bl (bs.all id))
  |none=>.bad
 |_=>.bad
theorem ZeB(ha:DAA K EX Γ Γ' ta fa):DE K EX Γ Γ' .P (tCB (fun xs H Q=>∃p,∃bs:List Bool,xs=[.ref p]/\SqL K H p (bs.map V.bl)/\Q (.bl (bs.all id)) H) ta) (fun ρ=>(fa ρ).bind Zma):=by
 refine Zd0 (fun {H xs vs Q} h z e=>?_) (fun xs e h=>?_) ha
 ·unfold Zma at e
  split at e
  ·split at e
   ·rename_i bs hb
    cases e
    rw[ZeF hb] at h
    obtain⟨v,rfl,a,ws,rfl,hn,hr⟩:=UO h
    rw[ZdT hr] at hn
    exact⟨rfl,fun q=>⟨a,bs,rfl,JN (S:=fun _=>True) hn,q _ rfl⟩⟩
   ·cases e
  ·cases e
 ·unfold Zma at h
  split at h
  ·split at h<;>cases h
  ·cases h
noncomputable def ZlZ(xs:List PV):Rr PV:=match xs with
 |[.int i]=>.ok (.int i)
 |[.bl b]=>.ok (.int (if b then 1 else 0))
 |_=>.bad
theorem ZiN(ha:DAA K EX Γ Γ' ta fa):DE K EX Γ Γ' .P (tCB (fun xs H Q=>(∃i,xs=[.int i]/\Q (.int i) H)\/∃k,xs=[.bl k]/\Q (.int (if k then 1 else 0)) H) ta) (fun ρ=>(fa ρ).bind ZlZ):=by
 refine Zd0 (fun {H xs vs Q} h z e=>?_) (fun xs e h=>?_) ha
 ·unfold ZlZ at e
  split at e<;>first|(cases e;done)|skip
  ·cases e
   obtain⟨v,rfl,h1⟩:=UO h
   cases h1
   exact⟨rfl,fun q=>.inl ⟨_,rfl,q _ rfl⟩⟩
  ·cases e
   obtain⟨v,rfl,h1⟩:=UO h
   cases h1
   exact⟨rfl,fun q=>.inr ⟨_,rfl,q _ rfl⟩⟩
 ·unfold ZlZ at h;split at h<;>cases h
end
theorem Ul{n:Nat}(h:n<=1000000):n<=sizeLine:=Zx2 h (by decide)
def LX(K:W.Frag)(H:Hp)(a:Addr)(vs:List V):Prop:=Rd H a (.lst vs)\/KL K a vs
noncomputable def ZlK(K:W.Frag):R2:=fun x y H Q=>∃l b xs zs,x=.ref l/\y=.ref b/\LX K H l xs/\LX K H b zs/\xs.length+zs.length<=sizeLine/\∀p,H p=none->Q (.ref p) (upd H p (.lst (xs++zs)))
section
variable {X:Cx}{K:W.Frag}
theorem Zmi{H:Hp}{S:Addr->Prop}{a:Addr}{vs:List V}(h:(Rd H a (.lst vs)/\S a)\/KL K a vs):LX K H a vs:=h.elim (fun z=>.inl z.1) .inr
theorem U2(e:X.K=K:=by rfl):OpR X (binaryOp .Add) (ZlK K):=by
 subst e
 intro pins s σ H x y v u Q I rx ry h
 obtain⟨l,b,xs,zs,rfl,rfl,hH,hB,hz,q⟩:=h
 cases rx
 cases ry
 obtain⟨its,r,pl,_⟩:=I.list (show SqL X.K H l xs from hH)
 obtain⟨its2,r2,pl2,_⟩:=I.list (show SqL X.K H b zs from hB)
 have hl:=r.length
 have hl2:=r2.length
 obtain⟨⟨cls,dd,data,sl⟩,ho,hc,n,hd⟩:=pl.isList
 obtain⟨⟨cls2,dd2,data2,sl2⟩,ho2,hc2,n2,hd2⟩:=pl2.isList
 simp only at hc hd hc2 hd2
 subst hc hd hc2 hd2
 have ea:its.toArray++its2.toArray=(its++its2).toArray:=by simp
 refine concat_meets ⟨_,ho,rfl⟩ ⟨_,ho2,rfl⟩ noFill_list_add seq_list_add PySem.F.slot_list_add PySem.F.entry_list_add (PySem.F.args_list_add_2 _ _) (list_addW l b its.toArray its2.toArray n n2 dd dd2 sl sl2 (by rw[Zxh,Zxh];lia)) ⟨ho,ho2, ?_⟩
 rw[ea]
 exact⟨.ref _,_,I.lnew (t':=s.toks) (r.append r2) (by rw[Zxq];lia),rfl,q _ I.fresh⟩
end
def Frm(H:Hp)(F:Nat->List Addr)(H':Hp)(F':Nat->List Addr):Prop:=∀a o,H a=some o->(∀i,a ∉ F i)->H' a=some o/\∀i,a ∉ F' i
theorem Frm.refl{H:Hp}{F:Nat->List Addr}:Frm H F H F:=fun a o h n=>⟨h,n⟩
theorem Frm.trans{H H1 H2:Hp}{F F1 F2:Nat->List Addr}(h1:Frm H F H1 F1)(h2:Frm H1 F1 H2 F2):Frm H F H2 F2:=fun a o h n=>let ⟨h3,n3⟩:=h1 a o h n;h2 a o h3 n3
theorem Frm.of{H H':Hp}{F F':Nat->List Addr}(s:Z9 H H')(f:∀i,∀a∈F' i,a∈F i):Frm H F H' F':=fun a o h n=>⟨s a o h,fun i z=>n i (f i a z)⟩
def ItP(K:W.Frag)(S:Addr->Prop)(J:It)(xs:List PV)(H:Hp):Prop:=
 ∀i,(∀x,xs[i]?=some x->J.go i H/\∀v H',J.yld i H v H'->Z9 H H'/\Rep K H' S x v)/\(xs[i]?=none->J.stop i H)
def DI(K:W.Frag)(EX:PX->Hp->Prop)(Γ Γ':List Md)(wi:TI)(f:List PV->Rr (List PV)):Prop:=
 ∀(B:Addr->Prop) (H0 H:Hp) (σ:St) (ρ:List PV) (F:Nat->List Addr) (R:List Addr) (Q:It->Hp->Prop),Ag K B H0 H σ Γ ρ F R ->
  Dn (f ρ) (fun xs=>∀J H' F',Z9 H H'->(∀i,∀a∈F' i,a∈F i)->Ag K B H0 H' σ Γ' ρ F' R->(∀H2 F2,Frm H' F' H2 F2->ItP K (fun a=>NO B F2 R a/\H' a≠none/\∀i,a ∉ F' i) J xs H2)->Q J H') (fun e=>∀H',Z9 H0 H'->EX e H')->wi σ H Q
def DIc(K:W.Frag)(EX:PX->Hp->Prop)(Γ Γ':List Md)(wi:TI)(f:List PV->Rr (List PV)):Prop:=
 ∀(B:Addr->Prop) (H0 H:Hp) (σ:St) (ρ:List PV) (F:Nat->List Addr) (R:List Addr) (Q:It->Hp->Prop),Ag K B H0 H σ Γ ρ F R ->
  Dn (f ρ) (fun xs=>∀J H' F',Z9 H H'->(∀i,∀a∈F' i,a∈F i)->Ag K B H0 H' σ Γ' ρ F' R->(∀H2 F2,Z9 H' H2->(∀i,∀a∈F2 i,a∈F' i)->ItP K (fun a=>NO B F2 R a/\H' a≠none/\∀i,a ∉ F' i) J xs H2)->Q J H') (fun e=>∀H',Z9 H0 H'->EX e H')->wi σ H Q
theorem DI.c{K:W.Frag}{EX:PX->Hp->Prop}{Γ Γ':List Md}{wi:TI}{f:List PV->Rr (List PV)}(h:DI K EX Γ Γ' wi f):DIc K EX Γ Γ' wi f:=fun B H0 H σ ρ F R Q A d =>
 h B H0 H σ ρ F R Q A (d.imp (fun xs _ d J H' F' s1 f1 A1 it=>d J H' F' s1 f1 A1 fun H2 F2 s2 f2=>it H2 F2 (Frm.of s2 f2)) fun e q=>q)
theorem ItP.flat{K:W.Frag}{S S':Addr->Prop}{J:It}{xs:List PV}{H:Hp}(f:PV.flats xs=true)(h:ItP K S J xs H):ItP K S' J xs H:=fun i=>by
 refine⟨fun x hx=>?_,(h i).2⟩
 obtain⟨h1,h2⟩:=(h i).1 x hx
 have fx:∀(xs:List PV) (i:Nat),PV.flats xs=true->xs[i]?=some x->x.flat=true:=by
  intro xs
  induction xs with
  |nil=>intro i _ h;simp at h
  |cons y ys ih =>
   intro i hf hx
   simp only[PV.flats,Bool.and_eq_true] at hf
   cases i with
   |zero=>simp at hx;rw[<- hx];exact hf.1
   |succ i=>exact ih i hf.2 (by simpa using hx)
 exact⟨h1,fun v H' y=>⟨(h2 v H' y).1,(h2 v H' y).2.flatS (fx xs i f hx)⟩⟩
section
variable {K:W.Frag}{B:Addr->Prop}{EX:PX->Hp->Prop}{H0 H H':Hp}{σ:St}{Γ Γ' Γ1 Γ2 Γ3:List Md}{ρ:List PV}{F F':Nat->List Addr}{R:List Addr}{k:Kd}{x:PV}{v:V}{te tb:TE}{ta:TA}{f fb:List PV->Rr PV}{fa:List PV->Rr (List PV)}
theorem Rep.frm{F2:Nat->List Addr}{H2:Hp}(h:Frm H F H2 F2)(A:Ag K B H0 H σ Γ ρ F R)(r:Rep K H (NO B F R) x v):Rep K H2 (fun a=>NO B F2 R a/\H a≠none/\∀i,a ∉ F i) x v:=by
 refine Rep.mono (fun a us s r=>?_) (fun a us r=>?_) r
 ·rcases r with r|⟨o,r⟩
  ·obtain⟨h1,h2⟩:=h a _ r s.2.2;exact⟨.inl h1,⟨s.1,s.2.1,h2⟩,by rw[r];simp,s.2.2⟩
  ·obtain⟨h1,h2⟩:=h a _ r s.2.2;exact⟨.inr ⟨o,h1⟩,⟨s.1,s.2.1,h2⟩,by rw[r];simp,s.2.2⟩
 ·refine⟨(h a _ r.1 fun i z=>?_).1,r.2⟩
  obtain⟨vs,q⟩:=A.live i a z
  exact Zeq vs.2 r.2 (by rw[r.1] at q;exact Option.some.inj q)
noncomputable def ZeV(lo:Int)(n:Nat):List PV:=(List.range n).map fun(k:Nat)=>PV.int (lo+(k:Int))
theorem Zk1{lo:Int}{n:Nat}{S:Addr->Prop}:ItP K S (Itr lo n) (ZeV lo n) H:=by
 intro i
 constructor
 ·intro x hx
  unfold ZeV at hx
  rw[Zxm] at hx
  by_cases h:i<n
  ·rw[Zx4 h] at hx
   cases hx
   exact⟨h,fun v H' ⟨e1,e2⟩=>by subst e1 e2;exact⟨Z9.refl _,rfl⟩⟩
  ·rw[Zxl (by simpa using h)] at hx;cases hx
 ·intro hx
  unfold ZeV at hx
  have:=Zx6.mp hx
  show n<=i
  simpa using this
noncomputable def okR(j:Int):Bool:=decide (-(2^62)<=j/\j<2^62)
noncomputable def Zgt(xs:List PV):Rr (List PV):=match xs with
 |[.int j]=>if okR j=true then .ok (ZeV 0 j.toNat) else .bad
 |_=>.bad
theorem U8(ha:DAA K EX Γ Γ' ta fa):DI K EX Γ Γ' (Zmw ta) (fun ρ=>(fa ρ).bind Zgt):=fun B H0 H σ ρ F R Q A d=>by
 refine ha B H0 H σ ρ F R _ A (d.bind.imp (fun xs _ d vs H1 F1 s1 f1 p1 A1=>?_) fun e q=>q)
 unfold Zgt at d
 split at d
 ·rename_i j _
  obtain⟨v,rfl,h1⟩:=UO p1
  cases h1
  by_cases h:okR j=true
  ·rw[if_pos h] at d
   have h':=of_decide_eq_true h
   exact⟨j,rfl,h'.1,h'.2,d _ H1 F1 s1 f1 A1 fun H2 F2 _=>Zk1⟩
  ·rw[if_neg h] at d;exact d.elim
 ·exact d.elim
noncomputable def asL(x:PV):Rr (List PV):=match x with
 |.lst xs=>.ok xs
 |_=>.bad
theorem Zhe{a:Addr}{xs:List PV}{S:Addr->Prop}(h:Rep K H S (.lst xs) (.ref a)):ItP K S (Itl K a) xs H:=by
 obtain⟨a',vs,e,hn,hr⟩:=h
 cases e
 intro i
 constructor
 ·intro x hx
  obtain⟨u,e1,e2⟩:=hr.get hx
  refine⟨⟨vs,u,JN hn,e1⟩,fun v H' ⟨e,y⟩=>?_⟩
  subst e
  have:=y vs (JN hn)
  rw[e1] at this;cases this
  exact⟨Z9.refl _,e2⟩
 ·intro hx
  exact⟨vs,JN hn,by rw[hr.length];exact Zx6.mp hx⟩
theorem U9(he:DE K EX Γ Γ' .Z te f):DI K EX Γ Γ' (ZiD K te) (fun ρ=>(f ρ).bind asL):=fun B H0 H σ ρ F R Q A d=>by
 refine he B H0 H σ ρ F R _ A (d.bind.imp (fun x _ d v H1 s1 r1=>?_) fun e q=>q)
 obtain⟨F1,f1,p1,A1⟩:=r1
 cases x with
 |lst xs =>
  obtain⟨a,vs,rfl,hn,hr⟩:=id p1
  exact⟨a,rfl,⟨vs,JN hn⟩,d _ H1 F1 s1 f1 A1 fun H2 F2 h=>Zhe (p1.frm h A1)⟩
 |_=>exact d.elim
noncomputable def ZkW(x:PV):Rr (List PV):=match x with
 |.lst xs=>if PV.flats xs=true then .ok xs else .bad
 |_=>.bad
theorem Qd(he:DE K EX Γ Γ' .A te f):DIc K EX Γ Γ' (ZiD K te) (fun ρ=>(f ρ).bind ZkW):=fun B H0 H σ ρ F R Q A d=>by
 refine he B H0 H σ ρ F R _ A (d.bind.imp (fun x _ d v H1 s1 r1=>?_) fun e q=>q)
 obtain⟨F1,f1,p1,A1⟩:=r1
 cases x with
 |lst xs =>
  unfold ZkW at d
  by_cases hf:PV.flats xs=true
  ·simp only[hf,if_true] at d
   obtain⟨a,vs,rfl,hn,hr⟩:=id p1
   exact⟨a,rfl,⟨vs,JN (S:=fun _=>True) hn⟩,d _ H1 F1 s1 f1 A1 fun H2 F2 s2 _=>ItP.flat hf (Zhe (p1.same s2))⟩
  ·simp only[hf] at d;exact d.elim
 |_=>exact d.elim
theorem ZcA:∀{ns:List Int},PV.flats (ns.map PV.int)=true
 |[]=>rfl
 |n::ns=>by simp only[Zxf,PV.flats,PV.flat,ZcA,Bool.and_self]
theorem ZiZ{ns:List Int}:ZkW (.lst (ns.map PV.int))=.ok (ns.map PV.int):=by unfold ZkW;simp only[ZcA,if_true]
def DO(K:W.Frag)(EX:PX->Hp->Prop)(Γ Γ':List Md)(t:TO)(f:List PV->Rr (Option Int)):Prop:=
 ∀(B:Addr->Prop) (H0 H:Hp) (σ:St) (ρ:List PV) (F:Nat->List Addr) (R:List Addr) (Q:Option Int->Hp->Prop),Ag K B H0 H σ Γ ρ F R ->
  Dn (f ρ) (fun o=>∀H' F',Z9 H H'->(∀i,∀a∈F' i,a∈F i)->Ag K B H0 H' σ Γ' ρ F' R->Q o H') (fun e=>∀H',Z9 H0 H'->EX e H')->t σ H Q
theorem Vq:DO K EX Γ Γ ZfT (fun _=>.ok none):=fun B H0 H σ ρ F R Q A d=>d H F (Z9.refl H) (fun _ _ h=>h) A
noncomputable def asI(x:PV):Rr Int:=match x with
 |.int i=>.ok i
 |_=>.bad
theorem Dn.asI{x:PV}{ok:Int->Prop}{ex:PX->Prop}(d:Dn (asI x) ok ex):∃b,x=.int b/\ok b:=by
 cases x with
 |int b=>exact⟨b,rfl,d⟩
 |_=>exact d.elim
theorem Vp(he:DE K EX Γ Γ' .A te f):DO K EX Γ Γ' (Zl3 te) (fun ρ=>(f ρ).bind fun x=>(asI x).bind fun i=>.ok (some i)):=fun B H0 H σ ρ F R Q A d=>by
 refine he B H0 H σ ρ F R _ A (d.bind.imp (fun x _ d v H1 s1 r1=>?_) fun e q=>q)
 obtain⟨i,rfl,d⟩:=d.bind.asI
 obtain⟨F1,f1,p1,A1⟩:=r1
 cases p1
 exact⟨i,rfl,d H1 F1 s1 f1 A1⟩
noncomputable def ZhR{α:Type}(xs:List α)(lo hi:Option Int):List α:=(xs.drop (HT.sIx xs.length 0 lo)).take (HT.sIx xs.length xs.length hi-HT.sIx xs.length 0 lo)
theorem Reps.cut{S:Addr->Prop}{xs:List PV}{vs:List V}(h:Reps K H S xs vs)(lo hi:Option Int):Reps K H S (ZhR xs lo hi) (Zln vs lo hi):=by
 unfold ZhR Zln
 rw[h.length]
 exact(h.drop _).take _
noncomputable def newF(xs:List PV):Rr PV:=if (PV.flats xs&&decide (xs.length<=1000000))=true then .ok (.lst xs) else .bad
theorem Dn.newF{xs:List PV}{ok:PV->Prop}{ex:PX->Prop}(d:Dn (newF xs) ok ex):PV.flats xs=true/\xs.length<=1000000/\ok (.lst xs):=by
 unfold L2.newF at d
 by_cases h:(PV.flats xs&&decide (xs.length<=1000000))=true
 ·rw[if_pos h] at d
  rw[Bool.and_eq_true] at h
  exact⟨h.1,of_decide_eq_true h.2,d⟩
 ·rw[if_neg h] at d;exact d.elim
theorem VZ{tl th:TO}{fl fh:List PV->Rr (Option Int)}(he:DE K EX Γ Γ1 .A te f)(hl:DO K EX Γ1 Γ2 tl fl)(hh:DO K EX Γ2 Γ3 th fh) :
  DE K EX Γ Γ3 .F (tSl (Zne K) te tl th) (fun ρ=>(f ρ).bind fun x=>(fl ρ).bind fun lo=>(fh ρ).bind fun hi=>(asL x).bind fun xs=>newF (ZhR xs lo hi)):=fun B H0 H σ ρ F R Q A d=>by
 refine he B H0 H σ ρ F R _ A (d.bind.imp (fun x _ d v H1 s1 r1=>?_) fun e q=>q)
 obtain⟨F1,f1,p1,A1⟩:=r1
 refine hl B H0 H1 σ ρ F1 R _ A1 (d.bind.imp (fun lo _ d H2 F2 s2 f2 A2=>?_) fun e q=>q)
 refine hh B H0 H2 σ ρ F2 R _ A2 (d.bind.imp (fun hi _ d H3 F3 s3 f3 A3=>?_) fun e q=>q)
 cases x with
 |lst xs =>
  obtain⟨h1,h2,d⟩:=Dn.newF d
  obtain⟨a,vs,rfl,hn,hr⟩:=(p1.same s2).same s3
  refine⟨a,vs,rfl,JN (S:=fun _=>True) hn,fun p hp=>?_⟩
  exact d _ _ (((s1.trans s2).trans s3).trans (Z9.new hp)) (Res.newP ((s1.trans s2).trans s3) (fun i a h=>f1 i a (f2 i a (f3 i a h))) (hr.cut lo hi) h1 A3 hp)
 |_=>exact d.elim
theorem UC{tb':TE}{fb':List PV->Rr PV}(ha:DE K EX Γ Γ1 .A te f)(hb:DE K EX Γ1 Γ2 .A tb' fb') :
  DE K EX Γ Γ2 .F (tOp (ZlK K) te tb') (fun ρ=>(f ρ).bind fun x=>(fb' ρ).bind fun y=>(asL x).bind fun xs=>(asL y).bind fun ys=>newF (xs++ys)):=fun B H0 H σ ρ F R Q A d=>by
 refine two ha hb A d.bind2 fun x y v w H' F' d s hF p1 p2 A'=>?_
 cases x with
 |lst xs =>
  cases y with
  |lst ys =>
   obtain⟨h1,h2,d⟩:=Dn.newF d
   obtain⟨a,vs,rfl,hn,hr⟩:=p1
   obtain⟨b,ws,rfl,hn',hr'⟩:=p2
   refine⟨a,b,vs,ws,rfl,rfl,Zmi (S:=fun _=>True) hn,Zmi (S:=fun _=>True) hn', ?_,fun p hp=>?_⟩
   ·rw[hr.length,hr'.length,<- Zxq];exact Ul h2
   ·exact d _ _ (s.trans (Z9.new hp)) (Res.newP s hF (hr.append hr') h1 A' hp)
  |_=>exact d.elim
 |_=>exact d.elim
noncomputable def ZlX(xs:List PV)(y:PV):Rr PV:=match y with
 |.int k=>if xs.length*k.toNat<=1000000/\-(2^63)<=k/\k<2^63 then newF (List.replicate k.toNat xs).flatten else .bad
 |_=>.bad
theorem Reps.rep{S:Addr->Prop}{xs:List PV}{vs:List V}(h:Reps K H S xs vs):∀n:Nat,Reps K H S (List.replicate n xs).flatten (List.replicate n vs).flatten
 |0=>rfl
 |n+1=>by
  rw[Zx8,Zx8,ZxP,ZxP]
  exact h.append (Reps.rep h n)
theorem Zk9(ha:DAA K EX Γ Γ1 ta fa)(hb:DE K EX Γ1 Γ2 .A tb fb) :
  DE K EX Γ Γ2 .F (tOp ZnT (ZmJ ta) tb) (fun ρ=>(fa ρ).bind fun xs=>(mkL xs).bind fun _=>(fb ρ).bind fun y=>ZlX xs y):=fun B H0 H σ ρ F R Q A d=>by
 refine ha B H0 H σ ρ F R _ A (d.bind.imp (fun xs _ d vs H1 F1 s1 f1 p1 A1=>?_) fun e q=>q)
 obtain⟨hl,d⟩:=Dn.mkL d.bind
 refine⟨by rw[p1.length];exact UV hl,fun p hp=>?_⟩
 have e:Z9 H1 (upd H1 p (.lst vs)):=Z9.new hp
 refine hb B H0 _ σ ρ F1 R _ (A1.grow e) (d.bind.imp (fun y _ d w H2 s2 r2=>?_) fun e q=>q)
 obtain⟨F2,f2,p2,A2⟩:=r2
 cases y with
 |int k =>
  cases p2
  simp only[ZlX] at d
  by_cases h:xs.length*k.toNat<=1000000/\-(2^63)<=k/\k<2^63
  ·rw[if_pos h] at d
   obtain⟨h1,h2,d⟩:=Dn.newF d
   refine⟨p,k,vs,rfl,rfl,s2 _ _ ZE,h.2.1,h.2.2,by rw[p1.length];exact Ul h.1,fun q hq=>?_⟩
   have st:=(s1.trans e).trans s2
   exact d _ _ (st.trans (Z9.new hq)) (Res.newP st (fun i a h=>f1 i a (f2 i a h)) (((p1.same e).same s2).rep k.toNat) h1 A2 hq)
  ·rw[if_neg h] at d;exact d.elim
 |_=>exact d.elim
noncomputable def Ziu(xs:List PV):Rr PV:=match xs with
 |[.lst ys]=>newF ys
 |[.tup ys]=>newF ys
 |_=>.bad
theorem ZbE(ha:DAA K EX Γ Γ' ta fa):DE K EX Γ Γ' .F (tCB (fun xs H Q=>∃p ys,xs=[.ref p]/\(SqL K H p ys\/SqT K H p ys)/\∀l,H l=none->Q (.ref l) (upd H l (.lst ys))) ta) (fun ρ=>(fa ρ).bind Ziu):=fun B H0 H σ ρ F R Q A d=>by
 refine ha B H0 H σ ρ F R _ A (d.bind.imp (fun xs _ d vs H1 F1 s1 f1 p1 A1=>?_) fun e q=>q)
 unfold Ziu at d
 split at d
 ·obtain⟨h1,h2,d⟩:=Dn.newF d
  obtain⟨v,rfl,a,ws,rfl,hn,hr⟩:=UO p1
  exact⟨a,ws,rfl,.inl (JN (S:=fun _=>True) hn),fun l hl=>d _ _ (s1.trans (Z9.new hl)) (Res.newP s1 f1 hr h1 A1 hl)⟩
 ·obtain⟨h1,h2,d⟩:=Dn.newF d
  obtain⟨v,rfl,a,ws,rfl,hn,hr⟩:=UO p1
  exact⟨a,ws,rfl,.inr hn.sqT,fun l hl=>d _ _ (s1.trans (Z9.new hl)) (Res.newP s1 f1 hr h1 A1 hl)⟩
 ·exact d.elim
noncomputable def Vi:PV->String
 |.non => "NoneType"
 |.bl _ => "bool"
 |.int _ => "int"
 |.str _ => "str"
 |.lst _ => "list"
 |.tup _ => "tuple"
 |.exc _ => "?"
 |.exa _ _ => "?"
 |.box _ (.dk _) _ => "dict"
 |.box _ (.dt _) _ => "dict"
 |.box _ (.ob _ _) _ => "?"
 |.box _ .jk _ => "?"
 |.box _ .ls _ => "?"
 |.fz _ => "?"
noncomputable def PV.isX:PV->Bool
 |.exc _=>true
 |.exa _ _=>true
 |.box _ _ _=>true
 |.fz _=>true
 |_=>false
noncomputable def UY(t n:String):Bool:=t==n || (t == "bool" && n == "int")
noncomputable def ZmW(n:String):Bool:=n == "int" || n == "bool" || n == "str" || n == "list" || n == "tuple"
theorem Zmn(K:W.Frag){n:String}(h:ZmW n=true)(x:PV)(hx:x.isX=false):PySem.W.kitOne K (.type (Vi x)) (.type n)=some (UY (Vi x) n):=by
 simp only[ZmW,Bool.or_eq_true,beq_iff_eq] at h
 rcases h with (((rfl|rfl)|rfl)|rfl)|rfl<;>cases x<;>first|rfl|cases hx
def ZnX(K:W.Frag)(n:String):List V->Hp->VK->Prop:=fun xs H Q=>∃x p,xs=[x,.ty n]/\Rep K H (fun _=>True) p x/\p.isX=false/\Q (.bl (UY (Vi p) n)) H
theorem Jj{X:Cx}{n:String}(hn:ZmW n=true)(e:X.K=K:=by rfl):Vs X (.builtin "isinstance") (ZnX K n):=by
 subst e
 intro pins s σ H xs us Q I r h
 obtain⟨x,p,rfl,hp,hx,q⟩:=h
 obtain⟨u,w',rfl,rx,rn⟩:=Zls r
 cases rn
 have e:=Zmn X.K hn p hx
 have fin:∀tk,EP X pins σ Q (.bool (UY (Vi p) n)) { s with toks:=tk }:=fun tk=>⟨.bl _,H,I.tok _,rfl,q⟩
 cases p with
 |non=>cases hp;cases rx;exact PySem.W.kia_one PySem.W.kitx_none I.kIn True.intro e (fun z=>nomatch z) fin
 |bl y=>cases hp;cases rx;exact PySem.W.kia_one PySem.W.kitx_bool I.kIn True.intro e (fun z=>nomatch z) fin
 |int i=>cases hp;obtain⟨t,rfl⟩:=rx;exact PySem.W.kia_one PySem.W.kitx_int I.kIn True.intro e (fun z=>nomatch z) fin
 |str y=>cases hp;obtain⟨t,rfl⟩:=rx;exact PySem.W.kia_one PySem.W.kitx_str I.kIn True.intro e (fun z=>nomatch z) fin
 |exc y=>cases hx
 |exa y i=>cases hx
 |box p s ps=>cases hx
 |fz ps=>cases hx
 |lst ps =>
  obtain⟨a,vs,rfl,hn',hr⟩:=hp
  cases rx
  obtain⟨its,_,pl,_⟩:=I.list (JN (S:=fun _=>True) hn')
  obtain⟨o,h1,h2,_⟩:=pl.isList
  exact PySem.W.kia_one PySem.W.kitx_list I.kIn ⟨o,h1,h2⟩ e (fun z=>nomatch z) fin
 |tup ps =>
  obtain⟨a,vs,rfl,hn',hr⟩:=hp
  cases rx
  obtain⟨its,_,⟨o,h1,h2,_⟩,_⟩:=I.tuple hn'.sqT
  exact PySem.W.kia_one PySem.W.kitx_tuple I.kIn ⟨o,h1,h2⟩ e (fun z=>nomatch z) fin
noncomputable def Zfd(n:String)(x:PV):Rr PV:=if x.isX=true then .bad else .ok (.bl (UY (Vi x) n))
theorem Ua{n:String}(he:DE K EX Γ Γ' .A te f):DE K EX Γ Γ' .P (tCB (ZnX K n) (Q6 te (Q6 (tC (.ty n)) Zf9))) (fun ρ=>(f ρ).bind (Zfd n)):=fun B H0 H σ ρ F R Q A d=>by
 refine he B H0 H σ ρ F R _ A (d.bind.imp (fun x _ d v H1 s1 r1=>?_) fun e q=>q)
 obtain⟨F1,f1,p1,A1⟩:=r1
 unfold Zfd at d
 cases hx:x.isX with
 |true=>rw[hx] at d;exact d.elim
 |false=>rw[hx] at d;exact⟨v,x,rfl,p1,hx,d _ H1 s1 ⟨F1,f1,rfl,rfl,A1⟩⟩
def Len(fa:List PV->Rr (List PV))(n:Nat):Prop:=∀ρ xs,fa ρ=.ok xs->xs.length=n
theorem Zm:Len (fun _=>.ok []) 0:=fun ρ xs h=>by cases h;rfl
theorem Zf{f:List PV->Rr PV}{fa:List PV->Rr (List PV)}{n:Nat}(h:Len fa n):Len (fun ρ=>(f ρ).bind fun x=>(fa ρ).bind fun xs=>.ok (x::xs)) (n+1):=fun ρ xs e=>by
 dsimp only at e
 cases h1:f ρ with
 |ok x =>
  rw[h1] at e
  cases h2:fa ρ with
  |ok ys=>simp only[Rr.bind_ok,h2] at e;cases e;simp[h ρ ys h2]
  |exc q=>simp only[Rr.bind_ok,h2,Rr.bind_exc] at e;cases e
  |bad=>simp only[Rr.bind_ok,h2,Rr.bind_bad] at e;cases e
 |exc q=>rw[h1] at e;cases e
 |bad=>rw[h1] at e;cases e
def ZnE(K:W.Frag)(H:Hp)(a:Addr)(xs:List PV):Prop:=PV.flats xs=true/\∃vs,H a=some (.lst vs)/\Reps K H (fun _=>True) xs vs
def LsR(K:W.Frag)(H:Hp)(x:PV)(v:V)(H':Hp):Prop:=∃y a0 x0 a1 x1 a2 x2,x=.tup [y,.box (some a0) .ls x0,.box (some a1) .ls x1,.box (some a2) .ls x2]/\y.flat=true/\Rep K H' (fun _=>True) y v /\
 ZnE K H' a0 x0/\ZnE K H' a1 x1/\ZnE K H' a2 x2/\H a0=none/\H a1=none/\H a2=none
def ZjJ(K:W.Frag)(B:Addr->Prop)(H:Hp)(k:Kd)(x:PV)(v:V)(H':Hp):Prop:=match k with
 |.P=>x.flat=true/\Rep K H' (fun _=>True) x v
 |.F=>∃G,V0 K H' x v G/\∀a∈G,H a=none
 |.N=>∃y a s xs G1 G2,x=.tup [y,.box (some a) s xs]/\V0 K H' y v G1/\V0 K H' (.box (some a) s xs) (.ref a) G2/\(∀b∈G1,b ∉ G2)/\(∀b∈G1,H b=none)/\∀b∈G2,H b=none
 |.M=>LsR K H x v H'
 |_=>Rep K H' (fun a=>B a\/H a=none) x v
noncomputable def spF(K:PySem.W.Frag)(n:Nat)(k:Kd)(W:PX->XK->Hp->Prop)(m:List PV->Rr PV):Sp:=fun vs H Q E=>∃B xs,Reps K H B xs vs/\xs.length=n /\
 Dn (m xs) (fun x=>∀v H',Z9 H H'->ZjJ K B H k x v H'->Q v H') (fun e=>∀H',Z9 H H'->W e E H')
def W0:PX->XK->Hp->Prop:=fun _ _ _=>False
def X0:PX->Hp->Prop:=fun _ _=>False
section
variable {n:Nat}{W:PX->XK->Hp->Prop}{m:List PV->Rr PV}{E:XK}
theorem ZeA{t:TE}(ht:∀σ H Q,(ta σ H fun vs H1=>spF K n .P W m vs H1 Q E)->t σ H Q)(hW:∀e H',EX e H'->W e E H')(hn:Len fa n)(ha:DAA K EX Γ Γ' ta fa):DE K EX Γ Γ' .P t (fun ρ=>(fa ρ).bind m):=fun B H0 H σ ρ F R Q A d=>by
 refine ht _ _ _ (ha B H0 H σ ρ F R _ A (d.bind.imp (fun xs hx d vs H1 F1 s1 f1 p1 A1=>?_) fun e q=>q))
 exact⟨fun _=>True,xs,p1,hn ρ xs hx,d.imp (fun x _ d v H2 s2 r=>d v H2 (s1.trans s2) ⟨F1,f1,r.1,r.2,A1.grow s2⟩) fun e q H2 s2=>hW e H2 (q H2 (A1.same.trans s2))⟩
theorem ZbG{t:TE}(ht:∀σ H Q,(ta σ H fun vs H1=>spF K n .F W m vs H1 Q E)->t σ H Q)(hW:∀e H',EX e H'->W e E H')(hn:Len fa n)(ha:DAA K EX Γ Γ' ta fa):DE K EX Γ Γ' .F t (fun ρ=>(fa ρ).bind m):=fun B H0 H σ ρ F R Q A d=>by
 refine ht _ _ _ (ha B H0 H σ ρ F R _ A (d.bind.imp (fun xs hx d vs H1 F1 s1 f1 p1 A1=>?_) fun e q=>q))
 refine⟨fun _=>True,xs,p1,hn ρ xs hx,d.imp (fun x _ d v H2 s2 r=>?_) fun e q H2 s2=>hW e H2 (q H2 (A1.same.trans s2))⟩
 obtain⟨G,r1,r2⟩:=r
 exact d v H2 (s1.trans s2) ⟨F1,f1,G,r1,fun a ha=>⟨(A1.fresh (r2 a ha)).1,.inl (s1.free (r2 a ha))⟩,A1.more s2 r2 r1.alive⟩
end
end
noncomputable def Zay{α β:Type}(f:α->Rr β):List α->Rr (List β)
 |[]=>.ok []
 |x::xs=>(f x).bind fun y=>(Zay f xs).bind fun ys=>.ok (y::ys)
noncomputable def lenM(xs:List PV):Rr Unit:=if xs.length<=1000000 then .ok () else .bad
theorem Dn.lenM{xs:List PV}{ok:Unit->Prop}{ex:PX->Prop}(d:Dn (lenM xs) ok ex):xs.length<=1000000/\ok ():=by
 unfold L2.lenM at d
 by_cases h:xs.length<=1000000
 ·rw[if_pos h] at d;exact⟨h,d⟩
 ·rw[if_neg h] at d;exact d.elim
theorem Rr.assoc{α β γ:Type}{r:Rr α}{f:α->Rr β}{g:β->Rr γ}:(r.bind f).bind g=r.bind fun a=>(f a).bind g:=by cases r<;>rfl
section
variable {K:W.Frag}{B:Addr->Prop}{H0 H:Hp}{σ:St}{Γ:List Md}{ρ:List PV}{F:Nat->List Addr}{R:List Addr}{x:PV}{v:V}
theorem Ag.outF(A:Ag K B H0 H σ Γ ρ F R){i:Nat}(h:Γ.length<=i):F i=[]:=by
 have:=A.slot i
 rw[ZwZ,Zxl h] at this
 exact this
theorem Ag.push(A:Ag K B H0 H σ Γ ρ F R)(h:Rep K H (NO B F R) x v):Ag K B H0 H (σ++[some v]) (Γ++[.S]) (ρ++[x]) F R:=by
 refine⟨A.same,A.own,A.young,A.youngR,A.live,A.liveR,A.disj,A.disjR,by simp[A.lenS],by simp[A.lenR],fun i=>?_⟩
 by_cases h1:i<Γ.length
 ·have:=A.slot i
  rw[ZwZ,ZwZ,Zxk h1,Zxk (by rw[A.lenR];exact h1),Zxk (by rw[A.lenS];exact h1),<- ZwZ,<- ZwZ]
  exact this
 ·by_cases h2:i=Γ.length
  ·subst h2
   rw[ZwZ,ZwZ,Zxn (Zxi _),Zxn (by rw[A.lenR];exact Zxi _),Zxn (by rw[A.lenS];exact Zxi _),A.lenR,A.lenS]
   simp only[Nat.sub_self,Zyf,ZyA]
   exact⟨A.outF (Zxi _),v,rfl,h⟩
  ·rw[ZwZ,Zxl (by simp;lia)]
   exact A.outF (by lia)
end
inductive RS where
 |next (ρ:List PV)|ret (x:PV)|brk (ρ:List PV)|cont (ρ:List PV)|exc (e:PX)|bad
noncomputable def Rr.thenS{α:Type}:Rr α->(α->RS)->RS
 |.ok a,f=>f a
 |.exc e,_=>.exc e
 |.bad,_=>.bad
noncomputable def RS.seq:RS->(List PV->RS)->RS
 |.next ρ,f=>f ρ
 |r,_=>r
@[simp] theorem Rr.thenS_ok{α:Type}{a:α}{f:α->RS}:(Rr.ok a).thenS f=f a:=rfl
@[simp] theorem Rr.thenS_exc{α:Type}{e:PX}{f:α->RS}:(Rr.exc e:Rr α).thenS f=.exc e:=rfl
@[simp] theorem RS.seq_next{ρ:List PV}{f:List PV->RS}:(RS.next ρ).seq f=f ρ:=rfl
@[simp] theorem RS.seq_ret{x:PV}{f:List PV->RS}:(RS.ret x).seq f=.ret x:=rfl
@[simp] theorem RS.seq_exc{e:PX}{f:List PV->RS}:(RS.exc e).seq f=.exc e:=rfl
structure Tys where
 n:List Md
 b:List Md
 c:List Md
 r:Kd
def DnS(K:W.Frag)(B:Addr->Prop)(EX:PX->Hp->Prop)(Y:Tys)(H0 H:Hp)(F:Nat->List Addr)(D:ZfF)(r:RS):Prop:=match r with
 |.next ρ=>∀σ' H' F',Frm H F H' F'->Ag K B H0 H' σ' Y.n ρ F' []->D.nx σ' H'
 |.brk ρ=>∀σ' H' F',Frm H F H' F'->Ag K B H0 H' σ' Y.b ρ F' []->D.bk σ' H'
 |.cont ρ=>∀σ' H' F',Frm H F H' F'->Ag K B H0 H' σ' Y.c ρ F' []->D.ct σ' H'
 |.ret x=>∀v H',Z9 H0 H'->ZjJ K B H0 Y.r x v H'->D.rt v H'
 |.exc e=>∀H',Z9 H0 H'->EX e H'
 |.bad=>False
def DS(K:W.Frag)(EX:PX->Hp->Prop)(Γ:List Md)(Y:Tys)(t:TS)(g:List PV->RS):Prop:=
 ∀(B:Addr->Prop) (H0 H:Hp) (σ:St) (ρ:List PV) (F:Nat->List Addr) (D:ZfF),Ag K B H0 H σ Γ ρ F []->DnS K B EX Y H0 H F D (g ρ)->t D σ H
section
variable {K:W.Frag}{B:Addr->Prop}{EX:PX->Hp->Prop}{H0 H H':Hp}{σ:St}{Γ Γ' Γ1 Γ2 Γ3:List Md}{ρ:List PV}{F F':Nat->List Addr}{R:List Addr}{k:Kd}{x:PV}{v:V}{te:TE}{f fc:List PV->Rr PV}{t u:TS}{g g':List PV->RS}{Y:Tys}{D:ZfF}
theorem DnS.shift{H1:Hp}{F1:Nat->List Addr}{r:RS}(fr:Frm H F H1 F1)(h:DnS K B EX Y H0 H F D r):DnS K B EX Y H0 H1 F1 D r:=by
 cases r with
 |next ρ=>exact fun σ' H' F' fr' A=>h σ' H' F' (fr.trans fr') A
 |brk ρ=>exact fun σ' H' F' fr' A=>h σ' H' F' (fr.trans fr') A
 |cont ρ=>exact fun σ' H' F' fr' A=>h σ' H' F' (fr.trans fr') A
 |ret x=>exact h
 |exc e=>exact h
 |bad=>exact h
theorem DnS.thenS{α:Type}{r:Rr α}{f:α->RS}(h:DnS K B EX Y H0 H F D (r.thenS f)):Dn r (fun a=>DnS K B EX Y H0 H F D (f a)) (fun e=>∀H',Z9 H0 H'->EX e H'):=by
 cases r with
 |ok a=>exact h
 |exc e=>exact h
 |bad=>exact h
theorem Z6:DS K EX Γ ⟨Γ,Γ1,Γ2,k⟩ Zl5 (fun ρ=>.next ρ):=fun B H0 H σ ρ F D A d=>d σ H F Frm.refl A
theorem Zl{Γm:List Md}(h1:DS K EX Γ ⟨Γm,Y.b,Y.c,Y.r⟩ t g)(h2:DS K EX Γm Y u g'):DS K EX Γ Y (ZnK t u) (fun ρ=>(g ρ).seq g'):=fun B H0 H σ ρ F D A d=>by
 refine h1 B H0 H σ ρ F _ A ?_
 dsimp only at d
 cases e:g ρ with
 |next ρ1 =>
  rw[e] at d
  exact fun σ' H' F' fr A'=>h2 B H0 H' σ' ρ1 F' D A' (DnS.shift fr d)
 |brk ρ1=>rw[e] at d;exact d
 |cont ρ1=>rw[e] at d;exact d
 |ret x=>rw[e] at d;exact d
 |exc q=>rw[e] at d;exact d
 |bad=>rw[e] at d;exact d
noncomputable def mle(m m':Md):Bool:=m==m' || m'==.U || (m'==.S&&m != .U) || (m'==.O&&m==.P)
noncomputable def Zbv:List Md->List Md->Bool
 |[],[]=>true
 |m::ms,m'::ms'=>mle m m'&&Zbv ms ms'
 |_,_=>false
theorem Zen:∀{Γ Γ':List Md},Zbv Γ Γ'=true->Γ.length=Γ'.length/\∀i,mle (Γ.getD i .U) (Γ'.getD i .U)=true
 |[],[],_=>⟨rfl,fun i=>by simp[mle]⟩
 |m::ms,m'::ms',h=>by
  simp only[Zbv,Bool.and_eq_true] at h
  obtain⟨h1,h2⟩:=Zen h.2
  refine⟨by simp[h1],fun i=>?_⟩
  cases i with
  |zero=>simpa using h.1
  |succ i=>simpa using h2 i
 |[],_::_,h=>by cases h
 |_::_,[],h=>by cases h
theorem Ag.weak(A:Ag K B H0 H σ Γ ρ F R)(h:Zbv Γ Γ'=true):∃F',(∀i,∀a∈F' i,a∈F i)/\Ag K B H0 H σ Γ' ρ F' R:=by
 obtain⟨hl,hm⟩:=Zen h
 let F':Nat->List Addr:=fun i=>if Γ.getD i .U=Γ'.getD i .U then F i else []
 have hF:∀i,∀a∈F' i,a∈F i:=fun i a ha=>by
  by_cases q:Γ.getD i .U=Γ'.getD i .U
  ·simp only[F',if_pos q] at ha;exact ha
  ·simp only[F',if_neg q] at ha;simp at ha
 have up:∀{a},NO B F R a->NO B F' R a:=fun {a} s=>⟨s.1,s.2.1,fun j z=>s.2.2 j (hF j a z)⟩
 refine⟨F',hF,A.same,A.own,fun i a ha=>A.young i a (hF i a ha),A.youngR,fun i a ha=>A.live i a (hF i a ha),A.liveR,fun i j hij a ha z=>A.disj i j hij a (hF i a ha) (hF j a z),fun i a ha=>A.disjR i a (hF i a ha),by rw[A.lenS,hl],by rw[A.lenR,hl],fun i=>?_⟩
 have sl:=A.slot i
 have hmi:=hm i
 by_cases q:Γ.getD i .U=Γ'.getD i .U
 ·simp only[F',if_pos q]
  rw[<- q]
  exact sl.mono (fun a vs s r=>⟨r,up s⟩) (fun a vs r=>r) fun a ha vs r=>r
 ·simp only[F',if_neg q]
  simp only[mle,Bool.or_eq_true,beq_iff_eq,Bool.and_eq_true,bne_iff_ne] at hmi
  rcases hmi with ((z|z)|z)|z
  ·exact absurd z q
  ·rw[z];exact rfl
  rotate_left
  ·rw[z.1]
   rw[z.2] at sl
   obtain⟨e,v,h1,h2,h3⟩:=sl
   exact⟨v,h1,h3.tree h2⟩
  ·rw[z.1]
   have own:∀a∈F i,NO B F' R a:=fun a ha=>⟨A.own a (A.young i a ha),A.disjR i a ha,fun j w=>by
    by_cases hj:j=i
    ·subst hj;simp only[F',if_neg q] at w;simp at w
    ·exact A.disj j i hj a (hF j a w) ha⟩
   cases hmm:Γ.getD i .U with
   |U=>exact absurd hmm z.2
   |P=>rw[hmm] at sl;obtain⟨e,v,h1,h2,h3⟩:=sl;exact⟨rfl,v,h1,h3.flatS h2⟩
   |S=>rw[hmm] at sl;obtain⟨e,v,h1,h2⟩:=sl;exact⟨rfl,v,h1,Rep.mono (fun a vs s r=>⟨r,up s⟩) (fun a vs r=>r) h2⟩
   |T =>
    rw[hmm] at sl
    obtain⟨a,vs,xs,h1,h2,h3,h4,h5⟩:=sl
    refine⟨rfl,_,h1, ?_⟩
    rw[h2]
    exact⟨a,vs,rfl,.inl ⟨.inl h3,own a (by rw[h5];simp)⟩,Reps.mono (fun a vs s r=>⟨r,up s⟩) (fun a vs r=>r) h4⟩
   |O=>rw[hmm] at sl;obtain⟨v,h1,h2⟩:=sl;exact⟨rfl,v,h1,h2.rep own⟩
theorem DS.out{Y':Tys}(h:DS K EX Γ Y t g)(hn:Zbv Y.n Y'.n=true)(hb:Zbv Y.b Y'.b=true)(hc:Zbv Y.c Y'.c=true)(hr:Y.r=Y'.r):DS K EX Γ Y' t g:=fun B H0 H σ ρ F D A d=>by
 refine h B H0 H σ ρ F D A ?_
 cases e:g ρ with
 |next ρ1=>rw[e] at d;exact fun σ' H' F' fr A'=>let ⟨F2,f2,A2⟩:=A'.weak hn;d σ' H' F2 (fr.trans (Frm.of (Z9.refl _) f2)) A2
 |brk ρ1=>rw[e] at d;exact fun σ' H' F' fr A'=>let ⟨F2,f2,A2⟩:=A'.weak hb;d σ' H' F2 (fr.trans (Frm.of (Z9.refl _) f2)) A2
 |cont ρ1=>rw[e] at d;exact fun σ' H' F' fr A'=>let ⟨F2,f2,A2⟩:=A'.weak hc;d σ' H' F2 (fr.trans (Frm.of (Z9.refl _) f2)) A2
 |ret x=>rw[e] at d;exact fun v H' s r=>d v H' s (hr▸r)
 |exc q=>rw[e] at d;exact d
 |bad=>rw[e] at d;exact d
theorem Zb4{H1:Hp}{F1:Nat->List Addr}{i:Nat}{G:List Addr}(s1:Z9 H H1)(f1:∀i,∀a∈F1 i,a∈F i)(o:∀a∈G,H a=none\/∃i,a∈F i):Frm H F H1 (Qo F1 i G):=fun a u h n=>by
 refine⟨s1 a u h,fun j z=>?_⟩
 by_cases q:j=i
 ·subst q
  rw[Z1] at z
  rcases o a z with w|⟨l,w⟩
  ·rw[h] at w;cases w
  ·exact n l w
 ·rw[ZG q] at z;exact n j (f1 j a z)
theorem ZP{i:Nat}(he:DE K EX Γ Γ' .P te f)(hi:i<Γ'.length):DS K EX Γ ⟨Γ'.set i .P,Γ1,Γ2,k⟩ (ZlA te (Zb3 i)) (fun ρ=>(f ρ).thenS fun x=>.next (ρ.set i x)):=fun B H0 H σ ρ F D A d=>by
 refine he B H0 H σ ρ F [] _ A (d.thenS.imp (fun x _ d v H1 s1 r1=>?_) fun e q=>q)
 obtain⟨F1,f1,h1,h2,A1⟩:=r1
 exact d _ H1 _ (Zb4 (G:=[]) s1 f1 (by simp)) (Ag.put (G:=[]) (R:=[]) A1 hi (by simp) ⟨rfl,v,rfl,h1,h2⟩)
theorem ZQ{i:Nat}(he:DE K EX Γ Γ' .F te f)(hi:i<Γ'.length):DS K EX Γ ⟨Γ'.set i .O,Γ1,Γ2,k⟩ (ZlA te (Zb3 i)) (fun ρ=>(f ρ).thenS fun x=>.next (ρ.set i x)):=fun B H0 H σ ρ F D A d=>by
 refine he B H0 H σ ρ F [] _ A (d.thenS.imp (fun x _ d v H1 s1 r1=>?_) fun e q=>q)
 obtain⟨F1,f1,G,h1,h2,A1⟩:=r1
 exact d _ H1 _ (Zb4 s1 f1 fun a ha=>(h2 a ha).2) (Ag.put (R:=[]) A1 hi (by simp) ⟨v,rfl,h1⟩)
theorem Zb7(he:DE K EX Γ Γ' .A te f):DS K EX Γ ⟨Γ',Γ1,Γ2,k⟩ (Zia te) (fun ρ=>(f ρ).thenS fun _=>.next ρ):=fun B H0 H σ ρ F D A d=>by
 refine he B H0 H σ ρ F [] _ A (d.thenS.imp (fun x _ d v H1 s1 r1=>?_) fun e q=>q)
 obtain⟨F1,f1,h1,A1⟩:=r1
 exact d σ H1 F1 (Frm.of s1 f1) A1
theorem Z7(he:DE K EX Γ Γ' .P te f):DS K EX Γ ⟨Γ3,Γ1,Γ2,.P⟩ (Znc te) (fun ρ=>(f ρ).thenS fun x=>.ret x):=fun B H0 H σ ρ F D A d=>by
 refine he B H0 H σ ρ F [] _ A (d.thenS.imp (fun x _ d v H1 s1 r1=>?_) fun e q=>q)
 obtain⟨F1,f1,h1,h2,A1⟩:=r1
 exact d v H1 A1.same ⟨h1,h2⟩
theorem ZD(he:DE K EX Γ Γ' .F te f):DS K EX Γ ⟨Γ3,Γ1,Γ2,.F⟩ (Znc te) (fun ρ=>(f ρ).thenS fun x=>.ret x):=fun B H0 H σ ρ F D A d=>by
 refine he B H0 H σ ρ F [] _ A (d.thenS.imp (fun x _ d v H1 s1 r1=>?_) fun e q=>q)
 obtain⟨F1,f1,G,h1,h2,A1⟩:=r1
 exact d v H1 A1.same ⟨G,h1,fun a ha=>A1.youngR a (by simpa using ha)⟩
theorem Jd{c:TT}{fc:List PV->Rr Bool}(hc:DT K EX Γ Γ' c fc)(h1:DS K EX Γ' Y t g)(h2:DS K EX Γ' Y u g'):DS K EX Γ Y (ZnN c t u) (fun ρ=>(fc ρ).thenS fun b=>if b=true then g ρ else g' ρ):=fun B H0 H σ ρ F D A d=>by
 refine hc B H0 H σ ρ F [] _ A (d.thenS.imp (fun b _ d H1 F1 s1 f1 A1=>?_) fun e q=>q)
 cases b with
 |true=>exact h1 B H0 H1 σ ρ F1 D A1 (DnS.shift (Frm.of s1 f1) d)
 |false=>exact h2 B H0 H1 σ ρ F1 D A1 (DnS.shift (Frm.of s1 f1) d)
theorem Zb8{i:Nat}{h:Int->Int->Int}(hm:Γ[i]?=some .P)(he:DE K EX Γ Γ .A te f):DS K EX Γ ⟨Γ,Γ1,Γ2,k⟩ (ZnQ i te (ipI h)) (fun ρ=>(f ρ).thenS fun y=>(oI (fun _ _=>true) (fun i j=>.int (h i j)) (gv i ρ) y).thenS fun z=>.next (ρ.set i z)):=fun B H0 H σ ρ F D A d=>by
 obtain⟨v,h1,h2,h3⟩:=A.getP hm
 refine⟨v,h1,he B H0 H σ ρ F [] _ A (d.thenS.imp (fun y _ d w H1 s1 r1=>?_) fun e q=>q)⟩
 obtain⟨F1,f1,p1,A1⟩:=r1
 have h3':=h3.same s1
 change Rep K H1 _ (gv i ρ) v at h3'
 generalize gv i ρ=gx at h3' d
 cases gx<;>cases y<;>first|(exact d.elim;done)|skip
 rename_i p q _
 cases h3';cases p1
 refine⟨p,q,rfl,rfl,d _ H1 _ (Zb4 (i:=i) (G:=[]) s1 f1 (by simp)) ?_⟩
 have:=Ag.put (i:=i) (m:=.P) (x:=.int (h p q)) (v:=.int (h p q)) (G:=[]) (R:=[]) A1 (A.lt hm) (by simp) ⟨rfl,_,rfl,rfl,rfl⟩
 have e:Γ.set i .P=Γ:=by
  apply Zyn
  intro j
  by_cases q:i=j
  ·subst q;rw[Zxy (A.lt hm),hm]
  ·rw[Zx1 q]
 rw[e] at this
 exact this
variable {ti:TE}{fi:List PV->Rr PV}
theorem Ag.chgB{i:Nat}{m:Md}{a:Addr}{o':HO}(ho:Lvo o'){x':PV}{G G':List Addr}(A:Ag K B H0 H σ Γ ρ F (G++R))(hm:Γ[i]?=some m)(ha:a∈F i)(hG:∀b∈G',b∈F i\/b∈G)(hGR:∀b∈G,b ∉ R)(hs:Qi K (upd H a o') (NO B (Qo F i G') R) m x' σ[i]? G'):Ag K B H0 (upd H a o') σ Γ (ρ.set i x') (Qo F i G') R:=by
 obtain⟨us,hH⟩:=A.live i a ha
 have hi:=A.lt hm
 have liveU:∀b,(∃us:LvO,H b=some us.1)->∃us:LvO,upd H a o' b=some us.1:=fun b ⟨us,q⟩=>by
  by_cases e:b=a
  ·exact⟨⟨o',ho⟩,by rw[e,ZE]⟩
  ·exact⟨us,by rw[Zv e];exact q⟩
 refine⟨A.same.upd (A.young i a ha),A.own,fun j b hb=>?_,fun b hb=>A.youngR b (Zxb _ hb),fun j b hb=>liveU b ?_,fun b hb=>liveU b (A.liveR b (Zxb _ hb)),fun j l hjl b hb z=>?_,fun j b hb z=>?_,A.lenS,by simp[A.lenR],fun j=>?_⟩
 ·by_cases q:j=i
  ·subst q;rw[Z1] at hb
   rcases hG b hb with z|z
   ·exact A.young j b z
   ·exact A.youngR b (Zxe _ z)
  ·rw[ZG q] at hb;exact A.young j b hb
 ·by_cases q:j=i
  ·subst q;rw[Z1] at hb
   rcases hG b hb with z|z
   ·exact A.live j b z
   ·exact A.liveR b (Zxe _ z)
  ·rw[ZG q] at hb;exact A.live j b hb
 ·by_cases q:j=i
  ·subst q
   rw[Z1] at hb
   rw[ZG (Ne.symm hjl)] at z
   rcases hG b hb with w|w
   ·exact A.disj j l hjl b w z
   ·exact A.disjR l b z (Zxe _ w)
  ·rw[ZG q] at hb
   by_cases q':l=i
   ·subst q'
    rw[Z1] at z
    rcases hG b z with w|w
    ·exact A.disj j l hjl b hb w
    ·exact A.disjR j b hb (Zxe _ w)
   ·rw[ZG q'] at z;exact A.disj j l hjl b hb z
 ·by_cases q:j=i
  ·subst q;rw[Z1] at hb
   rcases hG b hb with w|w
   ·exact A.disjR j b w (Zxb _ z)
   ·exact hGR b w z
  ·rw[ZG q] at hb;exact A.disjR j b hb (Zxb _ z)
 ·by_cases q:j=i
  ·subst q
   rw[Z1,ZwZ,ZwZ,hm,Zxy (by rw[A.lenR];exact hi)]
   exact hs
  ·rw[ZG q,ZwZ (l:=ρ.set _ _),Zx1 (Ne.symm q),<- ZwZ]
   refine(A.slot j).mono (fun b us s r=>?_) (fun b us r=>Im.putL hH r) fun b hb us r=>?_
   ·have hne:b≠a:=fun z=>s.2.2 i (z▸ha)
    refine⟨?_,s.1,fun z=>s.2.1 (Zxb _ z),fun l z=>?_⟩
    ·rcases r with r|⟨o,r⟩
     ·exact .inl (by rw[Zv hne];exact r)
     ·exact .inr ⟨o,by rw[Zv hne];exact r⟩
    ·by_cases q':l=i
     ·subst q';rw[Z1] at z
      rcases hG b z with w|w
      ·exact s.2.2 l w
      ·exact s.2.1 (Zxe _ w)
     ·rw[ZG q'] at z;exact s.2.2 l z
   ·have hne:b≠a:=fun z=>A.disj j i q b hb (z▸ha)
    rw[Zv hne];exact r
theorem Ag.chg{i:Nat}{m:Md}{a:Addr}{vs':List V}{x':PV}{G G':List Addr}(A:Ag K B H0 H σ Γ ρ F (G++R))(hm:Γ[i]?=some m)(ha:a∈F i)(hG:∀b∈G',b∈F i\/b∈G)(hGR:∀b∈G,b ∉ R)(hs:Qi K (upd H a (.lst vs')) (NO B (Qo F i G') R) m x' σ[i]? G'):Ag K B H0 (upd H a (.lst vs')) σ Γ (ρ.set i x') (Qo F i G') R:=Ag.chgB (o':=.lst vs') trivial A hm ha hG hGR hs
theorem Zb5{H1:Hp}{F1:Nat->List Addr}{i:Nat}{a:Addr}{o:HO}{G':List Addr}(s1:Z9 H H1)(f1:∀i,∀b∈F1 i,b∈F i)(ha:a∈F1 i)(hG:∀b∈G',H b=none\/∃j,b∈F j):Frm H F (upd H1 a o) (Qo F1 i G'):=fun b u h n=>by
 have hne:b≠a:=fun z=>n i (f1 i b (z▸ha))
 refine⟨by rw[Zv hne];exact s1 b u h,fun j z=>?_⟩
 by_cases q:j=i
 ·subst q;rw[Z1] at z
  rcases hG b z with w|⟨l,w⟩
  ·rw[h] at w;cases w
  ·exact n l w
 ·rw[ZG q] at z;exact n j (f1 j b z)
theorem Trees.setP:∀{xs:List PV}{vs:List V}{G:List Addr}{j:Nat}{y:PV}{w:V},Trees K H xs vs G->V0 K H y w []->∃G',(∀a∈G',a∈G)/\Trees K H (xs.set j y) (vs.set j w) G'
 |[],_,_,_,_,_,h,_=>⟨[],by simp,by rw[h.1];exact⟨rfl,rfl⟩⟩
 |x::xs,_,_,0,y,w,h,h'=>by
  obtain⟨v,r,G1,G2,rfl,h1,h2,h3,rfl⟩:=h
  exact⟨G2,fun a ha=>by simp[ha],w,r,[],G2,rfl,h',h2,by simp,rfl⟩
 |x::xs,_,_,j+1,y,w,h,h'=>by
  obtain⟨v,r,G1,G2,rfl,h1,h2,h3,rfl⟩:=h
  obtain⟨G',h4,h5⟩:=Trees.setP (j:=j) h2 h'
  refine⟨G1++G',fun a ha=>?_,v,r.set j w,G1,G',rfl,h1,h5,fun a ha z=>h3 a ha (h4 a z),rfl⟩
  rcases Zxg.mp ha with z|z
  ·simp[z]
  ·simp[h4 a z]
noncomputable def pSet(x i y:PV):Rr PV:=match x,i with
 |.lst xs,.int j=>match ixN xs.length j with
  |some n=>.ok (.lst (xs.set n y))
  |none=>.bad
 |_,_=>.bad
theorem Dn.pSet{x i y:PV}{ok:PV->Prop}{ex:PX->Prop}(d:Dn (pSet x i y) ok ex):∃xs j n,x=.lst xs/\i=.int j/\ixN xs.length j=some n/\ok (.lst (xs.set n y)):=by
 unfold L2.pSet at d
 split at d
 ·rename_i xs j
  cases e:ixN xs.length j with
  |none=>rw[e] at d;exact d.elim
  |some n=>rw[e] at d;exact⟨xs,j,n,rfl,rfl,e,d⟩
 ·exact d.elim
theorem VY{i:Nat}(hm:Γ2[i]?=some .O)(he:DE K EX Γ Γ2 .P te f)(hi:DE K EX Γ2 Γ2 .A ti fi) :
  DS K EX Γ ⟨Γ2,Γ1,Γ3,k⟩ (ZlA te (Zof (ZeR i) ti ZlG)) (fun ρ=>(f ρ).thenS fun y=>(fi ρ).thenS fun j=>(pSet (gv i ρ) j y).thenS fun z=>.next (ρ.set i z)):=fun B H0 H σ ρ F D A d=>by
 refine he B H0 H σ ρ F [] _ A (d.thenS.imp (fun y _ d w H1 s1 r1=>?_) fun e q=>q)
 obtain⟨F1,f1,y1,y2,A1⟩:=r1
 obtain⟨v,h1,h2⟩:=A1.getO hm
 refine⟨v,h1,hi B H0 H1 σ ρ F1 [] _ A1 (d.thenS.imp (fun j _ d jv H2 s2 r2=>?_) fun e q=>q)⟩
 obtain⟨F2,f2,p2,A2⟩:=r2
 obtain⟨xs,jj,n,e1,rfl,e2,d⟩:=Dn.pSet d.thenS
 obtain⟨v',h1',h2'⟩:=A2.getO hm
 rw[h1] at h1';cases h1'
 rw[show ρ.getD i .non=.lst xs from e1] at h2'
 obtain⟨a,vs,G,rfl,hH,ht,hn,hF⟩:=h2'
 cases p2
 refine⟨a,vs,jj,n,rfl,rfl,hH,by rw[ht.length];exact e2, ?_⟩
 obtain⟨G',g1,g2⟩:=Trees.setP (j:=n) ht ((y2.same s2).tree y1)
 have haF:a∈F2 i:=by rw[hF];simp
 have hsub:∀b∈a::G',b∈F2 i:=fun b hb=>by
  rw[hF]
  rcases Zxd.mp hb with rfl|hb
  ·simp
  ·simp[g1 b hb]
 refine d σ _ (Qo F2 i (a::G')) (Zb5 (s1.trans s2) (fun j b hb=>f1 j b (f2 j b hb)) haF fun b hb=>.inr ⟨i,f1 i b (f2 i b (hsub b hb))⟩) (Ag.chg (G:=[]) A2 hm haF (fun b hb=>.inl (hsub b hb)) (by simp) ?_)
 exact⟨_,h1,a,_,G',rfl,ZE,g2.put hH (fun z=>hn (g1 a z)),fun z=>hn (g1 a z),rfl⟩
noncomputable def pApp(x y:PV):Rr PV:=match x with
 |.lst xs=>if xs.length<1000000 then .ok (.lst (xs++[y])) else .bad
 |_=>.bad
theorem Dn.pApp{x y:PV}{ok:PV->Prop}{ex:PX->Prop}(d:Dn (pApp x y) ok ex):∃xs,x=.lst xs/\xs.length<1000000/\ok (.lst (xs++[y])):=by
 unfold L2.pApp at d
 split at d
 ·rename_i xs
  by_cases h:xs.length<1000000
  ·rw[if_pos h] at d;exact⟨xs,rfl,h,d⟩
  ·rw[if_neg h] at d;exact d.elim
 ·exact d.elim
theorem Dn.asL{x:PV}{ok:List PV->Prop}{ex:PX->Prop}(d:Dn (asL x) ok ex):∃xs,x=.lst xs/\ok xs:=by
 cases x with
 |lst xs=>exact⟨xs,rfl,d⟩
 |_=>exact d.elim
theorem Zb9{i:Nat}(hm:Γ[i]?=some .O)(hm2:Γ2[i]?=some .O)(he:DE K EX Γ Γ2 .F te f) :
  DS K EX Γ ⟨Γ2,Γ1,Γ3,k⟩ (Zia (tBM K "list" Zgi (ZeR i) (Q6 te Zf9))) (fun ρ=>(asL (gv i ρ)).thenS fun xs=>(f ρ).thenS fun y=>(pApp (.lst xs) y).thenS fun z=>.next (ρ.set i z)):=fun B H0 H σ ρ F D A d=>by
 obtain⟨v,h1,h2⟩:=A.getO hm
 refine⟨v,h1, ?_⟩
 obtain⟨xs,e1,d⟩:=Dn.asL d.thenS
 rw[show ρ.getD i .non=.lst xs from e1] at h2
 obtain⟨a,vs,G,rfl,hH,ht,hn,hF⟩:=h2
 refine⟨.inl ⟨rfl,_,SqL.of hH⟩,he B H0 H σ ρ F [] _ A (d.thenS.imp (fun y _ d w H2 s2 r2=>?_) fun e q=>q)⟩
 obtain⟨F2,f2,G2,y1,y2,A2⟩:=r2
 obtain⟨xs',e2,hlen,d⟩:=Dn.pApp d.thenS
 cases e2
 obtain⟨v',h1',h2'⟩:=A2.getO hm2
 rw[h1] at h1';cases h1'
 rw[show ρ.getD i .non=.lst xs from e1] at h2'
 obtain⟨a',vs',G',e,hH',ht',hn',hF'⟩:=h2'
 cases e
 refine⟨a,vs',w,rfl,rfl,hH',by rw[ht'.length];exact Zxj hlen (by decide), ?_⟩
 have haF:a∈F2 i:=by rw[hF'];simp
 have dj:∀b∈G',b ∉ G2:=fun b hb z=>A2.disjR i b (by rw[hF'];simp[hb]) (Zxe _ z)
 have na:a ∉ G2:=fun z=>A2.disjR i a haF (Zxe _ z)
 have hsub:∀b∈a::(G'++G2),b∈F2 i\/b∈G2:=fun b hb=>by
  rw[hF']
  rcases Zxd.mp hb with rfl|hb
  ·simp
  ·rcases Zxg.mp hb with z|z
   ·simp[z]
   ·exact .inr z
 have hna:a ∉ G'++G2:=fun z=>(Zxg.mp z).elim hn' na
 refine d σ _ (Qo F2 i (a::(G'++G2))) (Zb5 s2 f2 haF fun b hb=>?_) (Ag.chg (G:=G2) (R:=[]) A2 hm2 haF hsub (by simp) ?_)
 ·rcases hsub b hb with z|z
  ·exact .inr ⟨i,f2 i b z⟩
  ·exact(y2 b z).2
 ·exact⟨_,h1,a,_,G'++G2,rfl,ZE,(Trees.append ht' (Trees.one y1) dj).put hH' hna,hna,rfl⟩
def DG(K:W.Frag)(EX:PX->Hp->Prop)(Γ Γ':List Md)(g:TG)(h:PV->List PV->Rr (List PV)):Prop:=
 ∀(B:Addr->Prop) (H0 H:Hp) (σ:St) (ρ:List PV) (F:Nat->List Addr) (v:V) (x:PV) (N:St->Hp->Prop),Ag K B H0 H σ Γ ρ F []->Rep K H (NO B F []) x v ->
  Dn (h x ρ) (fun ρ'=>∀σ' F',(∀i,∀a∈F' i,a∈F i)->Ag K B H0 H σ' Γ' ρ' F' []->N σ' H) (fun e=>∀H',Z9 H0 H'->EX e H')->g v σ H N
theorem ZmU{i:Nat}(hi:i<Γ.length):DG K EX Γ (Γ.set i .P) (Zb3 i) (fun x ρ=>(grd x).bind fun x=>.ok (ρ.set i x)):=fun B H0 H σ ρ F v x N A r d=>by
 unfold grd at d;dsimp only at d
 by_cases h:x.flat=true
 ·rw[if_pos h] at d
  exact d _ (Qo F i []) QH (Ag.put (G:=[]) (R:=[]) A hi (by simp) ⟨rfl,v,rfl,h,r.any⟩)
 ·rw[if_neg h] at d;exact d.elim
noncomputable def asT(n:Nat)(x:PV):Rr (List PV):=match x with
 |.tup xs=>if xs.length=n then .ok xs else .bad
 |_=>.bad
end
noncomputable def RS.turn:RS->(List PV->RS)->RS
 |.next ρ,f=>f ρ
 |.cont ρ,f=>f ρ
 |.brk ρ,_=>.next ρ
 |r,_=>r
noncomputable def Zfv(b:PV->List PV->RS):List PV->List PV->RS
 |[],ρ=>.next ρ
 |x::xs,ρ=>(b x ρ).turn (Zfv b xs)
noncomputable def VM(c:List PV->Rr Bool)(b:List PV->RS):Nat->List PV->Option RS
 |0,_=>none
 |n+1,ρ=>match c ρ with
  |.ok true=>match b ρ with
   |.next ρ'=>VM c b n ρ'
   |.cont ρ'=>VM c b n ρ'
   |.brk ρ'=>some (.next ρ')
   |r=>some r
  |.ok false=>some (.next ρ)
  |.exc e=>some (.exc e)
  |.bad=>some .bad
open Classical in
noncomputable def Vh(c:List PV->Rr Bool)(b:List PV->RS)(ρ:List PV):RS:=if h:∃n r,VM c b n ρ=some r then h.choose_spec.choose else .bad
theorem Uo{c:List PV->Rr Bool}{b:List PV->RS}:∀{n m:Nat}{ρ:List PV}{r:RS},n<=m->VM c b n ρ=some r->VM c b m ρ=some r
 |0,_,_,_,_,h=>by cases h
 |n+1,0,_,_,hl,_=>by lia
 |n+1,m+1,ρ,r,hl,h=>by
  unfold VM at h ⊢
  cases hc:c ρ with
  |ok b' =>
   cases b' with
   |true =>
    rw[hc] at h
    cases hb:b ρ with
    |next ρ'=>rw[hb] at h;exact Uo (by lia) h
    |cont ρ'=>rw[hb] at h;exact Uo (by lia) h
    |brk ρ'=>rw[hb] at h;exact h
    |ret x=>rw[hb] at h;exact h
    |exc e=>rw[hb] at h;exact h
    |bad=>rw[hb] at h;exact h
   |false=>rw[hc] at h;exact h
  |exc e=>rw[hc] at h;exact h
  |bad=>rw[hc] at h;exact h
theorem Zhf{c:List PV->Rr Bool}{b:List PV->RS}{n m:Nat}{ρ:List PV}{r r':RS}(h:VM c b n ρ=some r)(h':VM c b m ρ=some r'):r=r':=by
 rcases Nat.le_total n m with q|q
 ·have:=Uo q h;rw[h'] at this;exact(Option.some.inj this).symm
 ·have:=Uo q h';rw[h] at this;exact Option.some.inj this
theorem ZbP{c:List PV->Rr Bool}{b:List PV->RS}{n:Nat}{ρ:List PV}{r:RS}(h:VM c b n ρ=some r):Vh c b ρ=r:=by
 unfold Vh
 have hx:∃n r,VM c b n ρ=some r:=⟨n,r,h⟩
 rw[dif_pos hx]
 exact Zhf hx.choose_spec.choose_spec h
section
variable {K:W.Frag}{B:Addr->Prop}{EX:PX->Hp->Prop}{H0 H H':Hp}{σ:St}{Γ Γ1 Γ2 Γ3 Γl Γt:List Md}{ρ:List PV}{F F':Nat->List Addr}{k:Kd}{x:PV}{v:V}{fc:List PV->Rr PV}{t:TS}{g:List PV->RS}{D:ZfF}
theorem Ze5{wi:TI}{gt:TG}{fi:List PV->Rr (List PV)}{h:PV->List PV->Rr (List PV)}(hi:DI K EX Γ Γ1 wi fi)(hw:Zbv Γ1 Γl=true)(hg:DG K EX Γl Γt gt h)(hb:DS K EX Γt ⟨Γl,Γl,Γl,k⟩ t g) :
  DS K EX Γ ⟨Γl,Γ2,Γ3,k⟩ (ZnO wi gt t) (fun ρ=>(fi ρ).thenS fun xs=>Zfv (fun x ρ=>(h x ρ).thenS g) xs ρ):=fun B H0 H σ ρ F D A d=>by
 refine hi B H0 H σ ρ F [] _ A (d.thenS.imp (fun xs _ d J H1 F1 s1 f1 A1 it=>?_) fun e q=>q)
 obtain⟨Fl,fl,Al⟩:=A1.weak hw
 have fr0:Frm H F H1 Fl:=Frm.of s1 fun j a ha=>f1 j a (fl j a ha)
 have fr1:Frm H1 F1 H1 Fl:=Frm.of (Z9.refl _) fl
 refine⟨fun i m σ' H'=>∃ρ' F',m=xs.length-i/\i<=xs.length/\Frm H1 F1 H' F'/\Ag K B H0 H' σ' Γl ρ' F' []/\DnS K B EX ⟨Γl,Γ2,Γ3,k⟩ H0 H' F' D (Zfv (fun x ρ=>(h x ρ).thenS g) (xs.drop i) ρ'),
  ⟨xs.length,ρ,Fl,by simp,Zym _,fr1,Al,by simpa using DnS.shift fr0 d⟩, ?_⟩
 rintro i m σ' H' ⟨ρ',F',rfl,hi',fr,A',dn⟩
 have itp:=it H' F' fr i
 cases hx:xs[i]? with
 |none =>
  refine .inl ⟨itp.2 hx, ?_⟩
  have hd:xs.drop i=[]:=ZxJ (Zx6.mp hx)
  rw[hd] at dn
  exact dn σ' H' F' Frm.refl A'
 |some x =>
  have hlt:i<xs.length:=(Zx0.mp hx).1
  obtain⟨go,yl⟩:=itp.1 x hx
  have hdx:xs.drop i=x::xs.drop (i+1):=by
   rw[Zx5 hlt]
   rw[Zxa hlt] at hx;cases hx;rfl
  rw[hdx] at dn
  simp only[Zfv] at dn
  refine .inr ⟨go,fun σ2 H2=>∃ρ2 F2,Frm H1 F1 H2 F2/\Ag K B H0 H2 σ2 Γl ρ2 F2 []/\DnS K B EX ⟨Γl,Γ2,Γ3,k⟩ H0 H2 F2 D (Zfv (fun x ρ=>(h x ρ).thenS g) (xs.drop (i+1)) ρ2),
   fun σ2 H2 ⟨ρ2,F2,a1,a2,a3⟩=>⟨xs.length-(i+1),by lia,ρ2,F2,rfl,hlt,a1,a2,a3⟩,fun v H3 y=>?_⟩
  obtain⟨s3,rx⟩:=yl v H3 y
  have fr3:Frm H' F' H3 F':=Frm.of s3 fun _ _ h=>h
  refine hg B H0 H3 σ' ρ' F' v x _ (A'.grow s3) (Rep.mono (fun a us s r=>⟨r,s.1⟩) (fun a us r=>r) rx) ?_
  cases e:h x ρ' with
  |ok ρt =>
   rw[e] at dn
   refine fun σt Ft ft At=>hb B H0 H3 σt ρt Ft _ At ?_
   have frt:Frm H' F' H3 Ft:=Frm.of s3 ft
   simp only[Rr.thenS_ok] at dn
   cases e2:g ρt with
   |next ρ2=>rw[e2] at dn;exact fun σ2 H2 F2 fr2 A2=>⟨ρ2,F2,fr.trans (frt.trans fr2),A2,DnS.shift (frt.trans fr2) dn⟩
   |cont ρ2=>rw[e2] at dn;exact fun σ2 H2 F2 fr2 A2=>⟨ρ2,F2,fr.trans (frt.trans fr2),A2,DnS.shift (frt.trans fr2) dn⟩
   |brk ρ2=>rw[e2] at dn;exact fun σ2 H2 F2 fr2 A2=>dn σ2 H2 F2 (frt.trans fr2) A2
   |ret y=>rw[e2] at dn;exact dn
   |exc q=>rw[e2] at dn;exact dn
   |bad=>rw[e2] at dn;exact dn
  |exc q=>rw[e] at dn;exact dn
  |bad=>rw[e] at dn;exact dn
theorem Vx{c:TT}{fc:List PV->Rr Bool}(hc:DT K EX Γ Γ c fc)(hb:DS K EX Γ ⟨Γ,Γ,Γ,k⟩ t g):DS K EX Γ ⟨Γ,Γ2,Γ3,k⟩ (Zji c t) (fun ρ=>Vh fc g ρ):=fun B H0 H σ ρ F D A d=>by
 dsimp only at d
 have ex:∃n,VM fc g n ρ=some (Vh fc g ρ):=by
  by_cases hx:∃n r,VM fc g n ρ=some r
  ·obtain⟨n,r,e⟩:=hx
   exact⟨n,by rw[ZbP e];exact e⟩
  ·unfold Vh at d
   rw[dif_neg hx] at d
   exact d.elim
 obtain⟨n0,e0⟩:=ex
 generalize hr:Vh fc g ρ=r at e0 d
 refine⟨fun m σ' H'=>∃ρ' F',Frm H F H' F'/\Ag K B H0 H' σ' Γ ρ' F' []/\VM fc g m ρ'=some r,⟨n0,ρ,F,Frm.refl,A,e0⟩, ?_⟩
 rintro m σ' H' ⟨ρ',F',fr,A',e⟩
 cases m with
 |zero=>cases e
 |succ m =>
  unfold VM at e
  refine hc B H0 H' σ' ρ' F' [] _ A' ?_
  cases e1:fc ρ' with
  |ok b =>
   rw[e1] at e
   refine fun H2 F2 s2 f2 A2=>?_
   have fr2:Frm H' F' H2 F2:=Frm.of s2 f2
   cases b with
   |true =>
    refine⟨fun σ3 H3=>∃ρ3 F3,Frm H F H3 F3/\Ag K B H0 H3 σ3 Γ ρ3 F3 []/\VM fc g m ρ3=some r,fun σ3 H3 h=>⟨m,Zyp _,h⟩, ?_⟩
    refine hb B H0 H2 σ' ρ' F2 _ A2 ?_
    cases e2:g ρ' with
    |next ρ2=>rw[e2] at e;exact fun σ3 H3 F3 fr3 A3=>⟨ρ2,F3,fr.trans (fr2.trans fr3),A3,e⟩
    |cont ρ2=>rw[e2] at e;exact fun σ3 H3 F3 fr3 A3=>⟨ρ2,F3,fr.trans (fr2.trans fr3),A3,e⟩
    |brk ρ2 =>
     rw[e2] at e
     have e':RS.next ρ2=r:=Option.some.inj e
     rw[<- e'] at d
     exact fun σ3 H3 F3 fr3 A3=>d σ3 H3 F3 (fr.trans (fr2.trans fr3)) A3
    |ret y =>
     rw[e2] at e
     have e':RS.ret y=r:=Option.some.inj e
     rw[<- e'] at d
     exact d
    |exc q =>
     rw[e2] at e
     have e':RS.exc q=r:=Option.some.inj e
     rw[<- e'] at d
     exact d
    |bad =>
     rw[e2] at e
     have e':RS.bad=r:=Option.some.inj e
     rw[<- e'] at d
     exact d
   |false =>
    have e':RS.next ρ'=r:=Option.some.inj e
    rw[<- e'] at d
    exact d σ' H2 F2 (fr.trans fr2) A2
  |exc q =>
   rw[e1] at e
   have e':RS.exc q=r:=Option.some.inj e
   rw[<- e'] at d
   exact d
  |bad =>
   rw[e1] at e
   have e':RS.bad=r:=Option.some.inj e
   rw[<- e'] at d
   exact d
end
noncomputable def RS.out:RS->Rr PV
 |.next _=>.ok .non
 |.ret x=>.ok x
 |.exc e=>.exc e
 |.brk _=>.bad
 |.cont _=>.bad
 |.bad=>.bad
@[simp] theorem RS.out_next{ρ:List PV}:(RS.next ρ).out=.ok .non:=rfl
@[simp] theorem RS.out_ret{x:PV}:(RS.ret x).out=.ok x:=rfl
@[simp] theorem RS.out_exc{e:PX}:(RS.exc e).out=.exc e:=rfl
def Ref(r r':Rr PV):Prop:=r=.bad\/r=r'
structure Pm where
 α:Type
 enc:α->List PV
 pre:α->Prop
 out:α->Rr PV
open Classical in
noncomputable def Pm.fn(m:Pm)(xs:List PV):Rr PV:=if h:∃a,m.enc a=xs/\m.pre a then m.out h.choose else .bad
theorem Pm.fn_eq(m:Pm)(a:m.α)(h:m.pre a)(inj:∀b,m.enc b=m.enc a->m.out b=m.out a):m.fn (m.enc a)=m.out a:=by
 unfold Pm.fn
 have hx:∃b,m.enc b=m.enc a/\m.pre b:=⟨a,rfl,h⟩
 rw[dif_pos hx]
 exact inj _ hx.choose_spec.1
theorem Pm.ref(m:Pm){g:List PV->Rr PV}(h:∀a,m.pre a->g (m.enc a)=m.out a)(xs:List PV):Ref (m.fn xs) (g xs):=by
 unfold Pm.fn
 by_cases hx:∃a,m.enc a=xs/\m.pre a
 ·rw[dif_pos hx]
  have h2:=hx.choose_spec
  right
  have:=h _ h2.2
  rw[h2.1] at this
  exact this.symm
 ·rw[dif_neg hx];exact .inl rfl
section
variable {K:W.Frag}{B:Addr->Prop}{H:Hp}
theorem Ag.init{xs:List PV}{vs:List V}{n:Nat}(h:Reps K H B xs vs):Ag K (fun a=>B a\/H a=none) H H (vs.map some++List.replicate n none) (List.replicate xs.length .S++List.replicate n .U) (xs++List.replicate n .non) (fun _=>[]) []:=by
 refine⟨Z9.refl _,fun a h=>.inr h,by simp,by simp,by simp,by simp,by simp,by simp,by simp[h.length],by simp,fun i=>?_⟩
 by_cases hi:i<xs.length
 ·have e1:(List.replicate xs.length Md.S++List.replicate n Md.U).getD i .U=.S:=by
   rw[ZwZ,Zxk (by simpa using hi),Zyq hi];rfl
  have e2:(xs++List.replicate n PV.non).getD i .non=xs[i]:=by
   rw[ZwZ,Zxk hi,Zxa hi];rfl
  rw[e1,e2]
  obtain⟨v,h1,h2⟩:=h.get (Zxa hi)
  refine⟨rfl,v, ?_,Rep.mono (fun a us s r=>⟨r,.inl s,by simp,by simp⟩) (fun a us r=>r) h2⟩
  rw[Zxk (by rw[Zxc,h.length];exact hi),Zxm,h1];rfl
 ·have e1:(List.replicate xs.length Md.S++List.replicate n Md.U).getD i .U=.U:=by
   rw[ZwZ,Zxn (by simpa using hi)]
   by_cases q:i-(List.replicate xs.length Md.S).length<n
   ·rw[Zyq q];rfl
   ·rw[Zxl (by simpa using q)];rfl
  rw[e1]
  exact rfl
end
section
variable {P:Program}{w:World}{K:W.Frag}{mg:Str->Option Value}{base:Heap}
theorem Fun.okP{x qual:Str}{st:Stmt}{f:Addr}{fd:FuncData}{N ps:List Str}{k n l:Nat}{kd:Kd}{m:List PV->Rr PV}(F:Fun K x qual st f fd)(S:Zr N ps (Zd st))(hn:ps.length=n)(hl:N.length-n=l)(hbody:∀(cdv:Value) (A:Around) (outer:List Env) (s:Shared) (H:Hp) (E:XK),Q2 k (A.deeper (envOfC qual (Zd st) s.heap.objs.size f cdv)) ->
   ∃t g Y,Y.r=kd/\PSs (ZcP CX0 P w K mg base N qual (Zd st) f cdv A outer s H E).nox (Zo st) t/\DS K X0 (List.replicate n .S++List.replicate l .U) Y t g/\∀xs,Ref (m xs) (g (xs++List.replicate l .non)).out)(hkN:kd≠.N:=by nofun)(hkM:kd≠.M:=by nofun) :
  Jv P w K mg base CX0 (k+1) f fd ps (spF K n kd W0 m):=by
 refine F.ok S (fun vs H Q E h=>?_) (fun cdv A outer s H vs Q E hr h=>?_)
 ·obtain⟨B,xs,h1,h2,_⟩:=h
  rw[h1.length,h2,hn]
 ·obtain⟨B,xs,h1,h2,dn⟩:=h
  obtain⟨t,g,Y,hY,ht,hd,href⟩:=hbody cdv A outer s H E hr
  refine⟨t,ht, ?_⟩
  have A0:=Ag.init (n:=l) h1
  have est:Q8 N vs=vs.map some++List.replicate l none:=by
   unfold Q8
   rw[h1.length,h2,hl]
  rw[est]
  rw[h2] at A0
  refine hd _ H H _ _ _ _ A0 ?_
  have hdn:Dn (g (xs++List.replicate l .non)).out (fun x=>∀v H',Z9 H H'->ZjJ K B H kd x v H'->Q v H') (fun e=>∀H',Z9 H H'->W0 e E H'):=by
   rcases href xs with e|e
   ·rw[e] at dn;exact dn.elim
   ·rw[<- e];exact dn
  have retK:∀{x v H'},ZjJ K (fun a=>B a\/H a=none) H kd x v H'->ZjJ K B H kd x v H':=fun {x v H'} h=>by
   cases kd with
   |P=>exact h
   |F=>exact h
   |T=>exact Rep.mono (fun a us s r=>⟨r,s.elim id .inr⟩) (fun a us r=>r) h
   |Z=>exact Rep.mono (fun a us s r=>⟨r,s.elim id .inr⟩) (fun a us r=>r) h
   |A=>exact Rep.mono (fun a us s r=>⟨r,s.elim id .inr⟩) (fun a us r=>r) h
   |N=>exact h
   |M=>exact h
  cases e:g (xs++List.replicate l .non) with
  |next ρ =>
   rw[e] at hdn
   refine fun σ' H' F' fr A'=>hdn .non H' A'.same ?_
   cases kd with
   |P=>exact⟨rfl,rfl⟩
   |F=>exact⟨[],⟨rfl,rfl⟩,by simp⟩
   |T=>exact rfl
   |Z=>exact rfl
   |A=>exact rfl
   |N=>exact absurd rfl hkN
   |M=>exact absurd rfl hkM
  |ret x=>rw[e] at hdn;exact fun v H' s r=>hdn v H' s (retK (hY▸r))
  |exc q=>rw[e] at hdn;exact fun H' s=>hdn H' s
  |brk ρ=>rw[e] at hdn;exact hdn.elim
  |cont ρ=>rw[e] at hdn;exact hdn.elim
  |bad=>rw[e] at hdn;exact hdn.elim
end
section
variable {K:W.Frag}{n:Nat}{m:List PV->Rr PV}{e:Expr}{ta:TA}{Γ Γ':List Md}{fa:List PV->Rr (List PV)}
theorem Zhz(hn:Len fa n)(ha:DAA K X0 Γ Γ' ta fa):DE K X0 Γ Γ' .F (ZaC (spF K n .F W0 m) ta) (fun ρ=>(fa ρ).bind m):=ZbG (E:=E0) (W:=W0) (fun σ H Q h=>h) (fun e H' h=>h) hn ha
theorem Q1(hn:Len fa n)(ha:DAA K X0 Γ Γ' ta fa):DE K X0 Γ Γ' .P (ZaC (spF K n .P W0 m) ta) (fun ρ=>(fa ρ).bind m):=ZeA (E:=E0) (W:=W0) (fun σ H Q h=>h) (fun e H' h=>h) hn ha
end
theorem Zfs{K:W.Frag}{H:Hp}{a:Addr}{ns:List Int}{m:List PV->Rr PV}(hm:m [.lst (ns.map PV.int)]=.ok (.bl true))(hS:SqL K H a (ns.map V.int)):spF K 1 .P W0 m [.ref a] H (fun v _=>v=.bl true) fun _ _ _=>False:=by
 refine⟨fun _=>True,[.lst (ns.map PV.int)],Reps.one ⟨a,_,rfl,hS.elim (fun h=>.inl ⟨h,trivial⟩) .inr,Zc3 ns⟩,rfl, ?_⟩
 rw[hm]
 exact fun v H' _ r=>r.2
section
theorem ZmA:bootBuiltins "str"=some (.type "str"):=by decide +kernel
end
def RS.good(r:RS)(I:List PV->Prop):Prop:=match r with
 |.next ρ=>I ρ
 |.cont ρ=>I ρ
 |_=>False
theorem RS.good_ex{r:RS}{I:List PV->Prop}(h:r.good I):∃ρ',(r=.next ρ'\/r=.cont ρ')/\I ρ':=by
 cases r with
 |next ρ=>exact⟨ρ,.inl rfl,h⟩
 |cont ρ=>exact⟨ρ,.inr rfl,h⟩
 |ret x=>exact h.elim
 |brk ρ=>exact h.elim
 |exc e=>exact h.elim
 |bad=>exact h.elim
theorem ZiG{b:PV->List PV->RS}{xs:List PV}{ρ:List PV}(I:Nat->List PV->Prop)(h0:I 0 ρ)(h:∀i x ρ,xs[i]?=some x->I i ρ->(b x ρ).good (I (i+1))) :
  ∃ρ',Zfv b xs ρ=.next ρ'/\I xs.length ρ':=by
 have key:∀n i ρ,xs.length=i+n->I i ρ->∃ρ',Zfv b (xs.drop i) ρ=.next ρ'/\I xs.length ρ':=by
  intro n
  induction n with
  |zero =>
   intro i ρ hl hI
   rw[ZxJ (by lia)]
   exact⟨ρ,rfl,by rw[hl];exact hI⟩
  |succ n ih =>
   intro i ρ hl hI
   have hi:i<xs.length:=by lia
   rw[Zx5 hi]
   obtain⟨ρ',h1,h2⟩:=RS.good_ex (h i _ ρ (Zxa hi) hI)
   obtain⟨ρ2,h3,h4⟩:=ih (i+1) ρ' (by lia) h2
   refine⟨ρ2, ?_,h4⟩
   simp only[Zfv]
   rcases h1 with h1|h1<;>(rw[h1];exact h3)
 exact key xs.length 0 ρ (by lia) h0
theorem Zie{lo:Int}{n i:Nat}{x:PV}(h:(ZeV lo n)[i]?=some x):i<n/\x=.int (lo+i):=by
 unfold ZeV at h
 rw[Zxm] at h
 by_cases hi:i<n
 ·rw[Zx4 hi] at h;cases h;exact⟨hi,rfl⟩
 ·rw[Zxl (by simpa using hi)] at h;cases h
@[simp] theorem QU{lo:Int}{n:Nat}:(ZeV lo n).length=n:=by simp[ZeV]
theorem Zaf{α β:Type}{f:α->Rr β}{g:α->β}:∀{xs:List α},(∀x∈xs,f x=.ok (g x))->Zay f xs=.ok (xs.map g)
 |[],_=>rfl
 |x::xs,h=>by
  simp only[Zay,h x (by simp),Rr.bind_ok,Zaf (xs:=xs) fun y hy=>h y (by simp[hy]),Zxf]
@[simp] theorem Zhj{x:PV}{ρ:List PV}:gv 0 (x::ρ)=x:=rfl
@[simp] theorem Zhk{x:PV}{ρ:List PV}{i:Nat}:gv (i+1) (x::ρ)=gv i ρ:=rfl
theorem Zee{ns:List Int}{k:Int}(h0:0<=k)(h1:k<ns.length):pIx (.lst (ns.map PV.int)) (.int k)=.ok (.int (ns.getD k.toNat 0)):=by
 have:atI (ns.map PV.int) k=some (.int (ns.getD k.toNat 0)):=by
  unfold atI
  rw[Zxc,Zex h0 h1]
  show (ns.map PV.int)[k.toNat]?=_
  rw[Zxm,Zxa (by lia),ZwZ,Zxa (by lia)]
  rfl
 simp only[pIx,this]
theorem Zgs{ns:List Int}{k y:Int}(h0:0<=k)(h1:k<ns.length):pSet (.lst (ns.map PV.int)) (.int k) (.int y)=.ok (.lst ((ns.set k.toNat y).map PV.int)):=by
 simp only[pSet,Zxc,Zex h0 h1,List.map_set]
theorem Zg6{ns:List Int}{y:Int}(h:ns.length<1000000):pApp (.lst (ns.map PV.int)) (.int y)=.ok (.lst ((ns++[y]).map PV.int)):=by
 simp only[pApp,Zxc,if_pos h,ZxF,Zxf,ZxT]
theorem US{ns:List Int}(h:ns.length<=1000000):newF (ns.map PV.int)=.ok (.lst (ns.map PV.int)):=by
 unfold newF
 rw[PV.flats_ints,Zxc,decide_eq_true h];rfl
theorem Zaq(ns:List Int):PV.dats (ns.map PV.int)=ns.map PyData.int:=by
 induction ns with
 |nil=>rfl
 |cons n ns ih=>simp[PV.dats,PV.dat,ih]
theorem Zd4(ns:List Int):PyData.canLayAll0 (ns.map PyData.int)=true:=by
 induction ns with
 |nil=>rfl
 |cons n ns ih=>simp[PyData.canLayAll0,PyData.canLay0,ih]
theorem ZgB(i:Int):okD (.int i)=true:=by simp[okD,PV.noX,PV.dat,PyData.canLay0,PyData.depth]
theorem Zei(ns:List Int):okD (.lst (ns.map PV.int))=true:=by
 have hd:PyData.depthAll (ns.map PyData.int)=0:=by
  induction ns with
  |nil=>rfl
  |cons n ns ih=>simp[PyData.depthAll,PyData.depth,ih]
 simp[okD,PV.noX,PV.noXs_ints,PV.dat,Zaq,PyData.canLay0,Zd4,PyData.depth,hd]
theorem U7:∀(ns ms:List Int),PyData.eqvAll (ns.map PyData.int) (ms.map PyData.int)=decide (ns=ms)
 |[],[]=>by simp[PyData.eqvAll]
 |[],m::ms=>by simp[PyData.eqvAll]
 |n::ns,[]=>by simp[PyData.eqvAll]
 |n::ns,m::ms=>by
  simp only[Zxf,PyData.eqvAll,PyData.eqv,U7 ns ms,List.cons.injEq,Bool.decide_and]
  rw[Bool.beq_eq_decide_eq]
theorem Zbq{g:Bool->Bool}(ns ms:List Int):ZbM g (.lst (ns.map PV.int)) (.lst (ms.map PV.int))=.ok (.bl (g (decide (ns=ms)))):=by
 unfold ZbM
 rw[Zei,Zei]
 simp only[Bool.and_self,if_true,PV.dat,Zaq,PyData.eqv,U7]
theorem Zg4{g:Bool->Bool}(i j:Int):ZbM g (.int i) (.int j)=.ok (.bl (g (decide (i=j)))):=by
 unfold ZbM
 rw[ZgB,ZgB]
 simp only[Bool.and_self,if_true,PV.dat,PyData.eqv]
 rw[Bool.beq_eq_decide_eq]
theorem Zcs(ns:List Int):ZfB [.lst (ns.map PV.int)]=.ok (.int ns.length):=by simp[ZfB]
theorem Zcr(ns:List Int):Znn [.lst (ns.map PV.int)]=.ok (.int ns.sum):=by simp[Znn,Zfe]
theorem Zfc{ns:List Int}(h:ns.length<=1000000):Ziu [.lst (ns.map PV.int)]=.ok (.lst (ns.map PV.int)):=by
 simp only[Ziu];exact US h
theorem Zem{ns ms:List Int}(h:ns.length+ms.length<=1000000):newF (ns.map PV.int++ms.map PV.int)=.ok (.lst ((ns++ms).map PV.int)):=by
 rw[<- ZxF];exact US (by simpa using h)
theorem Zgu{ns:List Int}{k:Int}(h0:ns.length*k.toNat<=1000000)(h1:-(2^63)<=k)(h2:k<2^63):ZlX (ns.map PV.int) (.int k)=.ok (.lst ((List.replicate k.toNat ns).flatten.map PV.int)):=by
 simp only[ZlX,Zxc]
 rw[if_pos ⟨h0,h1,h2⟩]
 have e:(List.replicate k.toNat (ns.map PV.int)).flatten=(List.replicate k.toNat ns).flatten.map PV.int:=by
  rw[List.map_flatten,List.map_replicate]
 rw[e]
 refine US ?_
 rw[ZgU,Nat.mul_comm];exact h0
theorem ZkM{i j:Int}(a b:Nat)(h1:i.natAbs<=10^a)(h2:j.natAbs<=10^b)(ha:a<=4000:=by decide)(hb:b<=4000:=by decide):ZdI i j:=by
 have t:∀c:Nat,c<=4000->(10:Nat)^c<2^60000:=fun c hc=>ZxS (Zyu (by decide) hc) (by decide +kernel)
 exact⟨ZxS h1 (t a ha),ZxS h2 (t b hb)⟩
theorem ZkN{i j:Int}(b:Nat)(h1:0<j)(h2:j.natAbs<=10^b)(hb:b<=2000:=by decide):ZdJ i j:=by
 have t:∀c:Nat,c<=2000->(10:Nat)^c<2^9000:=fun c hc=>ZxS (Zyu (by decide) hc) (by decide +kernel)
 exact⟨h1,ZxS h2 (t b hb)⟩
theorem Zkl{i j:Int}(h:ZdJ i j):Znr (.int i) (.int j)=.ok (.int (i/j)):=Zek (decide_eq_true h)
theorem Zkh{i j:Int}(h:ZdI i j):Zno (.int i) (.int j)=.ok (.int (i*j)):=Zek (decide_eq_true h)
theorem Zgx{i j:Int}(h:0<j):Znp (.int i) (.int j)=.ok (.int (i%j)):=Zek (decide_eq_true h)
theorem Zgv{i j:Int}(h:Zlq i j):ZmK (.int i) (.int j)=.ok (.int (i^j.toNat)):=Zek (decide_eq_true h)
@[simp] theorem Zg7{i j:Int}:Zoa (.int i) (.int j)=.ok (.int (i+j)):=rfl
@[simp] theorem Zgp{i j:Int}:ZnY (.int i) (.int j)=.ok (.int (i-j)):=rfl
@[simp] theorem Zjt{i j:Int}:pLt (.int i) (.int j)=.ok (.bl (decide (i<j))):=rfl
@[simp] theorem Zju{i j:Int}:pLe (.int i) (.int j)=.ok (.bl (decide (i<=j))):=rfl
@[simp] theorem Zj0{i j:Int}:pGt (.int i) (.int j)=.ok (.bl (decide (j<i))):=rfl
@[simp] theorem Zj1{i j:Int}:pGe (.int i) (.int j)=.ok (.bl (decide (j<=i))):=rfl
@[simp] theorem Zhn{i:Int}:grd (.int i)=.ok (.int i):=rfl
@[simp] theorem Zhm{i:Str}:grd (.str i)=.ok (.str i):=rfl
@[simp] theorem ZjG{b:Bool}:asB (.bl b)=.ok b:=rfl
@[simp] theorem ZhJ{xs:List PV}:asL (.lst xs)=.ok xs:=rfl
@[simp] theorem ZhK{i:Int}:asI (.int i)=.ok i:=rfl
@[simp] theorem Zjz{n:String}{x:Int}:Zfd n (.int x)=.ok (.bl (UY (Vi (.int x)) n)):=rfl
@[simp] theorem Zjy{n:String}{x:List PV}:Zfd n (.lst x)=.ok (.bl (UY (Vi (.lst x)) n)):=rfl
@[simp] theorem Zjx{n:String}{x:List PV}:Zfd n (.tup x)=.ok (.bl (UY (Vi (.tup x)) n)):=rfl
@[simp] theorem Zgw{i:Int}:ZmL (.int i)=.ok (.int (-i)):=rfl
@[simp] theorem Zjw{x:PV}{xs:List PV}:pIx (.tup (x::xs)) (.int 0)=.ok x:=by simp[pIx,atI,ixN]
@[simp] theorem Zjv{x y:PV}{xs:List PV}:pIx (.tup (x::y::xs)) (.int 1)=.ok y:=by
 have:atI (x::y::xs) 1=some y:=by unfold atI;rw[Zex (by lia) (by simp only[Zxp];lia)];rfl
 simp only[pIx,this]
theorem Zio{j:Int}(h:-(2^62)<=j/\j<2^62):Zgt [.int j]=.ok (ZeV 0 j.toNat):=by simp only[Zgt,okR,decide_eq_true h,if_true]
theorem Zkv{xs:List PV}(h:xs.length<=1000000):lenM xs=.ok ():=by simp only[lenM,if_pos h]
@[simp] theorem Ze0:UY (Vi (.int i)) "int"=true:=rfl
@[simp] theorem Ze1:UY (Vi (.int i)) "bool"=false:=rfl
@[simp] theorem Zez:UY (Vi (.lst xs)) "list"=true:=rfl
@[simp] theorem Zey:UY (Vi (.tup xs)) "tuple"=true:=rfl
theorem UR{I:List PV->Prop}{ρ:List PV}(h:I ρ):(RS.next ρ).good I:=h
theorem UZ{ns ms:List Int}(e:ns.map PV.int=ms.map PV.int):ns=ms:=by
 have:=congrArg Q0 e
 simpa using this
theorem ZaN{i j:Int}(h0:0<j)(h1:j<1000000000000):Znr (.int i) (.int j)=.ok (.int (i/j)):=Zkl (ZkN 12 h0 (by lia))
theorem Zmb:ZmK (.int 10) (.int 60)=.ok (.int (10^60)):=by rw[Zgv (by decide)];rfl
theorem Zj3{xs:List PV}(h:xs.length<=1000):mkT xs=.ok (.tup xs):=if_pos h
theorem Zj4{xs:List PV}(h:xs.length<=1000):mkL xs=.ok (.lst xs):=if_pos h
noncomputable def KD{α:Type}:Sem α->Prop
 |.pure _=>True
 |.raise _=>True
 |.unsupported _=>True
 |.finish _=>True
 |.rule _ k=>KD (k ())
 |.at _ k=>KD (k ())
 |.load _ _ k=>∀o,KD (k o)
 |.update _ _ f k=>(∀o:Obj,(f o).dict=o.dict/\(o.isFreed=false->(f o).isFreed=false))/\KD (k ())
 |.alloc _ k=>∀a,KD (k a)
 |.loadIfAlive _ k=>∀o,KD (k o)
 |.point _ k=>KD (k ())
 |.register _ _=>True
 |.fresh k=>∀t,KD (k t)
 |.ask k=>∀x,KD (k x)
 |.choose _ _ k=>∀n,KD (k n)
 |.os _ _ k=>∀r,KD (k r)
 |.call _ _ _ _ _=>False
 |.handled _ k=>∀x,KD (k x)
 |.newGen _ k=>∀g,KD (k g)
 |.genState _ k=>∀x,KD (k x)
 |.resume _ _ _ _=>False
 |.yield _ _ _ _=>True
 |.stack k=>∀x,KD (k x)
 |.fork _ _=>True
 |.thread k=>∀x,KD (k x)
 |.await _ _ _ _ _=>True
def DK(h h':Heap):Prop:=∀b o,h.get? b=some o->∃o',h'.get? b=some o'/\o'.dict=o.dict
theorem DK.refl(h:Heap):DK h h:=fun b o e=>⟨o,e,rfl⟩
theorem DK.trans{h1 h2 h3:Heap}(a:DK h1 h2)(b:DK h2 h3):DK h1 h3:=fun x o e=>by
 obtain⟨o1,e1,d1⟩:=a x o e
 obtain⟨o2,e2,d2⟩:=b x o1 e1
 exact⟨o2,e2,d2.trans d1⟩
theorem Znx{M:Model}{Γ:PySem.Ctx}{α:Type}{Q:α->Pos->Shared->Prop}{E:Value->Pos->Shared->Prop}{h0:Heap}:∀(t:Sem α) (p:Pos) (s:Shared),KD t->DK h0 s.heap->Sem.wp M Γ t Q E p s ->
  Sem.wp M Γ t (fun a p' s'=>Q a p' s'/\DK h0 s'.heap) (fun e p' s'=>E e p' s'/\DK h0 s'.heap) p s:=by
 intro t
 induction t with
 |pure a=>intro p s _ d h;exact⟨h,d⟩
 |raise e=>intro p s _ d h;exact⟨h,d⟩
 |unsupported w=>intro p s _ _ h;exact h
 |finish e=>intro p s _ _ h;exact h
 |rule t k ih=>intro p s k d h;exact ih () p s k d h
 |«at» q k ih=>intro p s k d h;exact ih () q s k d h
 |load a q k ih=>intro p s k d h;obtain⟨o,e,h⟩:=h;exact⟨o,e,ih o p s (k o) d h⟩
 |update a q f k ih =>
  intro p s k d h
  refine⟨h.1,ih () p _ k.2 (d.trans fun b o e=>?_) h.2⟩
  by_cases hb:a=b
  ·subst hb
   exact⟨_,Heap.get?_update_self f e ((k.1 o).2 (Heap.get?_some_iff.mp e).2),(k.1 o).1⟩
  ·exact⟨o,(Heap.get?_update_other _ f hb).trans e,rfl⟩
 |alloc o k ih=>intro p s k d h;exact ih _ p _ (k _) (d.trans fun b o' e=>⟨o',Heap.get?_push_of_some _ e,rfl⟩) h
 |loadIfAlive a k ih=>intro p s k d h;exact ih _ p s (k _) d h
 |point l k ih=>intro p s k d h;exact ih () p s k d h
 |register a k ih=>intro p s _ _ h;exact h
 |fresh k ih=>intro p s k d h;exact ih _ p _ (k _) d h
 |ask k ih=>intro p s k d h;exact ih _ p _ (k _) d h
 |choose a n k ih=>intro p s k d h;exact⟨h.1,ih _ p _ (k _) d h.2⟩
 |os q l k ih=>intro p s k d h;exact ih _ p _ (k _) d h
 |call c h g l k ih=>intro p s k d h;exact k.elim
 |handled o k ih=>intro p s k d h;exact ih _ p _ (k _) d h
 |newGen c k ih=>intro p s k d h;exact ih _ p _ (k _) d h
 |genState g k ih=>intro p s k d h;obtain⟨st,e,h⟩:=h;exact⟨st,e,ih _ p s (k _) d h⟩
 |resume g r l k ih=>intro p s k d h;exact k.elim
 |yield v g l k ih=>intro p s _ _ h;exact h
 |stack k ih=>intro p s k d h;exact ih _ p _ (k _) d h
 |fork c k ih=>intro p s _ _ h;exact h
 |thread k ih=>intro p s k d h;exact ih _ p _ (k _) d h
 |await a t d l k ih=>intro p s _ _ h;exact h
theorem Zc0{M:Model}{A:Around}{α:Type}{t:Sem α}{Q:α->Shared->Prop}{E:Value->Shared->Prop}{s:Shared}(k:KD t)(h:wpAny M A t Q E s):wpAny M A t (fun a s'=>Q a s'/\DK s.heap s'.heap) (fun e s'=>E e s'/\DK s.heap s'.heap) s:=
 fun Γ p hΓ=>Znx t p s k (DK.refl _) (h Γ p hΓ)
theorem ZK{α β:Type}:∀(m:Sem α) {f:α->Sem β},KD m->(∀a,KD (f a))->KD (m >>= f):=by
 intro m f
 show KD m->_->KD (m.bind f)
 induction m with
 |pure a=>intro _ h;exact h a
 |raise e=>intro _ _;trivial
 |unsupported w=>intro _ _;trivial
 |finish e=>intro _ _;trivial
 |rule t k ih=>intro k h;exact ih () k h
 |«at» q k ih=>intro k h;exact ih () k h
 |load a q k ih=>intro k h o;exact ih o (k o) h
 |update a q g k ih=>intro k h;exact⟨k.1,ih () k.2 h⟩
 |alloc o k ih=>intro k h a;exact ih a (k a) h
 |loadIfAlive a k ih=>intro k h o;exact ih o (k o) h
 |point l k ih=>intro k h;exact ih () k h
 |register a k ih=>intro _ _;trivial
 |fresh k ih=>intro k h a;exact ih a (k a) h
 |ask k ih=>intro k h a;exact ih a (k a) h
 |choose a n k ih=>intro k h a;exact ih a (k a) h
 |os q l k ih=>intro k h a;exact ih a (k a) h
 |call c h g l k ih=>intro k h;exact k.elim
 |handled o k ih=>intro k h a;exact ih a (k a) h
 |newGen c k ih=>intro k h a;exact ih a (k a) h
 |genState g k ih=>intro k h a;exact ih a (k a) h
 |resume g r l k ih=>intro k h;exact k.elim
 |yield v g l k ih=>intro _ _;trivial
 |stack k ih=>intro k h a;exact ih a (k a) h
 |fork c k ih=>intro _ _;trivial
 |thread k ih=>intro k h a;exact ih a (k a) h
 |await a t d l k ih=>intro _ _;trivial
theorem ZZ{α:Type}{a:α}:KD (pure a:Sem α):=trivial
theorem Za3{α:Type}{w:String}:KD (unsupported w:Sem α):=trivial
theorem Zdr{a:Addr}:KD (load a):=fun _=>trivial
theorem Zms(g:Array Value->Array Value)(o:Obj):(Obj.mapFields g o).dict=o.dict/\(o.isFreed=false->(Obj.mapFields g o).isFreed=false):=by
 obtain⟨c,d,dt,sl⟩:=o
 cases dt<;>exact⟨rfl,fun h=>h⟩
theorem Zdt(v:Value):KD (fieldsOf v):=by
 unfold fieldsOf
 cases v<;>try exact Za3
 refine ZK _ Zdr fun o=>?_
 cases o.data<;>first|exact ZZ|exact Za3
theorem QJ(v:Value)(i:Nat):KD (field v i):=by
 unfold field
 refine ZK _ (Zdt v) fun vs=>?_
 cases vs[i]?<;>first|exact ZZ|exact Za3
theorem U6(v:Value)(i:Nat)(x:Value):KD (setField v i x):=by
 unfold setField
 cases v<;>try exact Za3
 unfold updateField
 refine ZK _ Zdr fun o=>?_
 cases o.data<;>try exact Za3
 dsimp only
 split
 ·exact⟨fun o=>Zms _ o,trivial⟩
 ·exact Za3
theorem VW(e:Value)(f:Option Addr):KD (setFlight e f):=by
 unfold setFlight
 refine ZK _ (QJ e 1) fun tb=>?_
 split
 ·exact U6 _ _ _
 ·exact ZZ
theorem Zcz(ty:String)(vs:List Value):KD (newFields ty vs):=by
 unfold newFields newObj newObjAsIs
 dsimp only
 have al:∀(o:Obj),KD (alloc o):=fun _ _=>trivial
 split
 ·exact ZK _ Za3 fun _=>ZK _ (al _) fun _=>ZZ
 ·exact ZK _ (al _) fun _=>ZZ
theorem Zhb(env:Env)(outer:List Env):KD (behindIsImport env outer):=by
 unfold behindIsImport
 split
 ·exact ZZ
 ·split
  ·exact ZZ
  ·exact ZK _ (QJ _ _) fun _=>ZZ
theorem Zds(env:Env)(i:Bool)(outer:List Env):KD (keptBack env i outer):=by
 cases outer with
 |nil =>
  have u:KD underTheClaimsCaller:=by
   unfold underTheClaimsCaller
   exact ZK _ (show KD stack from fun _=>trivial) fun _=>ZZ
  rw[keptBack]
  split
  ·exact ZZ
  ·exact ZK _ u fun _=>ZZ
 |cons c r=>unfold keptBack;exact ZZ
theorem Zi9{o:Obj}{sl:Array (Option Value)}:({ o with slots:=sl }:Obj).dict=o.dict/\(o.isFreed=false->({ o with slots:=sl }:Obj).isFreed=false):=by
 obtain⟨c,d,dt,s⟩:=o
 cases dt<;>exact⟨rfl,fun h=>h⟩
theorem Zev:∀(l:List Env),KD (readyFrames l)
 |[]=>trivial
 |env::outer=>by
  unfold readyFrames
  cases env.frame with
  |none=>exact Za3
  |some f =>
   dsimp only
   refine ZK _ Zdr fun o=>?_
   split
   ·exact ZZ
   ·refine ZK _ (Zhb _ _) fun _=>ZK _ (Zds _ _ _) fun _=>ZK _ ⟨fun o=>Zi9,trivial⟩ fun _=>Zev outer
theorem Zfu(env:Env):KD (PySem.frameOf env):=by
 unfold PySem.frameOf
 refine ZK _ ?_ fun l=>ZK _ ?_ fun r=>?_
 ·unfold frameEnvs
  exact ZK _ (fun _=>trivial) fun _=>ZZ
 ·cases (List.dropWhile (fun x=>x.frame != env.frame) l) with
  |nil=>exact ZZ
  |cons a r=>exact ZK _ (Zev _) fun _=>ZZ
 ·cases r<;>first|exact ZZ|exact Za3
theorem ZiA(f:Addr)(b:Bool):KD (entryPlaceOf f b):=by
 unfold entryPlaceOf
 refine ZK _ (show KD stack from fun _=>trivial) fun acts=>?_
 split<;>exact ZZ
theorem Zha(e:Value)(env:Env):KD (noteFrame e env):=by
 unfold noteFrame
 cases env.frame with
 |none=>exact Za3
 |some f =>
  dsimp only
  refine ZK _ (QJ _ _) fun head=>?_
  have tail:∀(hd:Bool),KD (do setField e 1 (<- EntryCells.newEntry head (<- PySem.frameOf env) .none (rawInt f) .none (<- entryPlaceOf f hd))):=fun hd =>
   ZK _ (Zfu env) fun _=>ZK _ (ZiA _ _) fun _=>ZK _ (Zcz _ _) fun _=>U6 _ _ _
  split
  ·refine ZK _ (QJ _ _) fun x=>?_
   split
   ·exact ZZ
   ·exact ZK _ (U6 _ _ _) fun _=>tail _
  ·exact tail _
theorem ZaQ(env:Env)(e:Value):KD (leaving env e):=ZK _ (Zha e env) fun _=>VW e none
theorem JQ.there{P:Program}{w:World}{H:Hp}{h:Heap}{a:Addr}{o:HO}(x:JQ P w H h a o):∃u,h.get? a=some u:=by
 cases o with
 |lst xs=>obtain⟨_,_,_,_,e⟩:=x;exact⟨_,e⟩
 |tup xs=>obtain⟨_,_,_,_,e,_⟩:=x;exact⟨_,e⟩
 |dK kvs=>obtain⟨_,_,_,_,o,_,_,e,_⟩:=x;exact⟨_,e⟩
 |dT kvs=>obtain⟨_,_,_,_,o,_,_,e,_⟩:=x;exact⟨_,e⟩
 |set S n=>obtain⟨o,_,_,_,e,_⟩:=x;exact⟨_,e⟩
 |ins C dx fs=>obtain⟨_,_,_,e,_⟩:=x;exact⟨_,e⟩
 |own y=>obtain⟨_,e⟩:=x;exact⟨_,e⟩
 |xd fs=>obtain⟨_,⟨_,_,_,e,_⟩,_⟩:=x;exact⟨_,e⟩
 |rng lo hi=>obtain⟨_,_,_,e⟩:=x;exact⟨_,e⟩
 |frz ob u=>exact⟨_,x.1⟩
 |tbl ps=>exact⟨_,x⟩
 |met f y=>exact⟨_,x⟩
 |ext φ=>exact x.2.1
def Zle(H:Hp)(ea k:Addr)(o:Obj):Prop:=(o.dict=none/\k=ea)\/(o.dict=some k/\∃fs,H k=some (.xd fs))
structure Fly(P:Program)(w:World)(outer:List Env)(H:Hp)(s:Shared)(ea k:Addr)(cls:Value)(H':Hp)(s':Shared):Prop where
 os:s'.os=s.os
 bare:AllBare s'.gens
 un:Un (frs outer) [] H H' s.heap s'.heap
 hok:HOk P w H' s'.heap
 new:H' ea=none
 dict:∃o,s'.heap.get? ea=some o/\Zle H' ea k o
 fly:∃(Bh:Heap) (t:Addr),Heap.FlyingW Bh outer ea cls (.ref t) s'.heap/\(∀b u,H' b=some u->∀o,s'.heap.get? b=some o->Bh.get? b=some o)/\∀b o,s.heap.get? b=some o->b ∉ frs outer->∃o',Bh.get? b=some o'
noncomputable def CX1(P:Program)(w:World):CXT:=fun outer H s E e s'=>∃ea k cls H',e=.ref ea/\Fly P w outer H s ea k cls H' s'/\E cls (some k) H'
section
variable {P:Program}{w:World}{K:W.Frag}{mg:Str->Option Value}{base:Heap}{N:List Str}{qual:Str}{scope:Scope}{f:Addr}{cd:Value}{A:Around}{outer:List Env}{s:Shared}{H:Hp}{E:XK}{pins:List (Addr×Obj)}{σ:St}{H1 H':Hp}{s1 s':Shared}{g h'' Bh:Heap}{ea k t:Addr}{cls:Value}
theorem Zhp(I:Inv (ZcP (CX1 P w) P w K mg base N qual scope f cd A outer s H E) pins σ H1 s1)(os:s'.os=s1.os)(bare:AllBare s'.gens)(un:Un (s.heap.objs.size::frs outer) [] H1 H' s1.heap g)(hok:HOk P w H' g)(up:g.UpToSlots h'')(fl:Heap.FlyingW Bh outer ea cls (.ref t) h'')(st:Bh.StaysIn g)(c1:∀b u,H' b=some u->∀o,g.get? b=some o->Bh.get? b=some o)(c2:∀b o,s.heap.get? b=some o->b ∉ s.heap.objs.size::frs outer->∃o',Bh.get? b=some o')(new:H' ea=none)(dn:∃o,g.get? ea=some o/\Zle H' ea k o)(dk:DK g h''):Fly P w outer H s ea k cls H' { s' with heap:=h'' }:=by
 have neL:∀b o,s.heap.get? b=some o->b≠s.heap.objs.size:=fun b o e=>Zxv (Heap.lt_size e)
 have nin:∀b o,s.heap.get? b=some o->b ∉ frs outer->b ∉ s.heap.objs.size::frs outer:=fun b o e n z=>(Zxd.mp z).elim (neL b o e) n
 have b0:Un (frs outer) [] H H1 s.heap s1.heap:=I.base
 have fr0:∀b∈frs outer,H b=none:=I.ok.frf
 have slot:∀b o,s.heap.get? b=some o->H b=none->b∈frs outer->∃sl,h''.get? b=some { o with slots:=sl }:=fun b o q n hb=>by
  obtain⟨s2,e1⟩:=b0.slot b o q n hb (by simp)
  obtain⟨s3,e2⟩:=un.slot b _ e1 (b0.free b o q n (by simp)) (Zxs _ hb) (by simp)
  obtain⟨_,o',ho',hnf⟩:=Heap.FunFrames.mem (show s.heap.FunFrames base outer from I.ok.funs) hb
  rw[q] at ho';cases ho'
  obtain⟨s4,e3⟩:=up b _ e2 hnf
  exact⟨s4,e3⟩
 have keepB:∀b o,s.heap.get? b=some o->H b=none->b ∉ frs outer->Bh.get? b=some o:=fun b o q n hb=>by
  have e1:=b0.keep b o q n hb (by simp)
  have e2:=un.keep b o e1 (b0.free b o q n (by simp)) (nin b o q hb) (by simp)
  obtain⟨o',e3⟩:=c2 b o q (nin b o q hb)
  have e4:=st b o' e3
  rw[e2] at e4;cases e4
  exact e3
 have thereB:∀b o,s.heap.get? b=some o->b ∉ frs outer->∃o',Bh.get? b=some o':=fun b o q hb=>by
  exact c2 b o q (nin b o q hb)
 refine⟨os.trans I.os,bare,⟨fun b o q n hb _=>fl.1 b o (keepB b o q n hb),fun b o q n hb _=>slot b o q n hb,fun b o q n _=>?_,fun b o q _=>?_,fun b xs q=>un.tups b xs (b0.tups b xs q),fun b o xs q=>un.frzs b o xs (b0.frzs b o xs q),fun b ps q=>?_⟩,fun b u e=>?_,new,(let ⟨o,e,d⟩:=dn;let ⟨o',e',d'⟩:=dk ea o e;⟨o',e',by unfold Zle at d ⊢;rw[d'];exact d⟩),Bh,t,fl,fun b u e o q=>?_,thereB⟩
 ·obtain⟨o1,e1⟩:=b0.there b o q (by simp)
  exact un.free b o1 e1 (b0.free b o q n (by simp)) (by simp)
 ·by_cases hb:b∈frs outer
  ·obtain⟨sl,e⟩:=slot b o q (fr0 b hb) hb
   exact⟨_,e⟩
  ·obtain⟨o',e⟩:=thereB b o q hb
   exact⟨o',fl.1 b o' e⟩
 ·obtain⟨m1,e1⟩:=b0.tbls b ps q
  obtain⟨m2,e2⟩:=un.tbls b _ e1
  exact⟨m1++m2,by rw[e2,Array.append_assoc]⟩
 ·refine(hok b u e).stay (fun c v hc q=>?_) (fun _ q=>q) fun _ _ q=>q
  rcases hc with rfl|hc
  ·exact fl.1 c v (c1 c u e v q)
  ·exact fl.1 c v (c1 c _ hc v q)
 ·obtain⟨o1,e1⟩:=(hok b u e).there
  have e2:=c1 b u e o1 e1
  have e3:=fl.1 b o1 e2
  rw[e3] at q;cases q
  exact e2
def ZhO(X:Cx)(E:St->XK):Prop:=∀(pins:List (Addr×Obj)) (σ:St) (H:Hp) (s:Shared) (e:Value) (s':Shared),Inv X pins σ H s->CX1 X.prog X.w X.stack H s (E σ) e s'->X.xe e s'
def ZmD(X:Cx)(E:St->XK):Prop:=∀(pins:List (Addr×Obj)) (σ:St) (H:Hp) (s:Shared) (h':Heap) (ea:Addr) (cls:Value) (args:List Value),Inv X pins σ H s->Heap.MadeExcOf s.heap h' ea cls args->E σ cls (some ea) H->X.xe (.ref ea) { s with heap:=h' }
theorem VB:ZhO (ZcP (CX1 P w) P w K mg base N qual scope f cd A outer s H E) (fun _=>E):=fun pins σ H1 s1 e s' I hq=>by
 obtain⟨ea,k,cls,H',rfl,F,hE⟩:=hq
 obtain⟨Bh,t,fl,c1,c2⟩:=F.fly
 refine wpAny_mono (Zc0 (ZaQ _ _) (wpAny_leaves_onW (Q:=fun _ s''=>∃h'',s''={ s' with heap:=h'' }/\Heap.FlyingW Bh outer ea cls (.ref t) h''/\s'.heap.UpToSlots h'') I.ok.frames rfl fl fun h'' fl'' up=>⟨h'',rfl,fl'',up⟩)) (fun _ s'' q=>?_) fun _ _ q=>q.1
 obtain⟨⟨h'',rfl,fl'',up⟩,dk⟩:=q
 exact⟨ea,k,cls,H',rfl,Zhp I F.os F.bare F.un F.hok up fl'' fl.1 c1 (fun b o e n=>let ⟨o1,e1⟩:=(show Un (frs outer) [] H H1 s.heap s1.heap from I.base).there b o e (by simp);c2 b o1 e1 n) F.new F.dict dk,hE⟩
theorem Qr:ZmD (ZcP (CX1 P w) P w K mg base N qual scope f cd A outer s H E) (fun _=>E):=fun pins σ H1 s1 h' ea cls args I hx hE=>by
 have hin:∀env∈(ZcP (CX1 P w) P w K mg base N qual scope f cd A outer s H E).stack,∀b,env.frame=some b->b∈frs (ZcP (CX1 P w) P w K mg base N qual scope f cd A outer s H E).stack:=fun env he b hb=>Zy5.mpr ⟨env,he,hb⟩
 have trk:∀b u,H1 b=some u->b ∉ frs (ZcP (CX1 P w) P w K mg base N qual scope f cd A outer s H E).stack:=fun b u e z=>by rw[I.stkFree b z] at e;cases e
 have new:H1 ea=none:=by
  cases q:H1 ea with
  |none=>rfl
  |some u=>obtain⟨o,e⟩:=(I.hok ea u q).there;rw[hx.new] at e;cases e
 refine wpAny_mono (Zc0 (ZaQ _ _) (wpAny_leaves_madeW (Q:=fun _ s''=>∃h'' t,s''={ s1 with heap:=h'' }/\Heap.FlyingW (PySem.W.hideAll s1.heap (frs (ZcP (CX1 P w) P w K mg base N qual scope f cd A outer s H E).stack)) outer ea cls (.ref t) h''/\h'.UpToSlots h'')
  (base:=PySem.W.hideAll s1.heap (frs (ZcP (CX1 P w) P w K mg base N qual scope f cd A outer s H E).stack)) (h:=s1.heap) I.ok.frames rfl (fun b o q=>PySem.W.of_hideAll _ q) (PySem.W.funFrames_hide I.stack hin) hx fun h'' t fl _ _ up=>⟨h'',t,rfl,fl,up⟩)) (fun _ s'' q=>?_) fun _ _ q=>q.1
 obtain⟨⟨h'',t,rfl,fl,up⟩,dk⟩:=q
 have dn:∃o,h'.get? ea=some o/\Zle H1 ea ea o:=by obtain⟨t,e,_⟩:=hx.there;exact⟨_,e,.inl ⟨rfl,rfl⟩⟩
 refine⟨ea,ea,cls,H1,rfl,Zhp (g:=h') (t:=t) (s':={ s1 with heap:=h' }) I rfl I.bare (Un.kept hx.keeps) (I.hok.kept hx.keeps) up fl (fun b o q=>hx.keeps b o (PySem.W.of_hideAll _ q)) (fun b u e o q=>?_) (fun b o q n=>let ⟨o1,e1⟩:=(show Un (frs outer) [] H H1 s.heap s1.heap from I.base).there b o q (by simp);⟨o1,PySem.W.hideAll_get _ e1 n⟩) new dn dk,hE⟩
 obtain⟨o1,e1⟩:=(I.hok b u e).there
 have e2:=hx.keeps b o1 e1
 rw[q] at e2;cases e2
 exact PySem.W.hideAll_get _ e1 (trk b u e)
end
noncomputable def Zn7:List Value:=[.type "ValueError",.type "Exception",.type "BaseException",.type "object"]
noncomputable def Zjk(C:Addr)(E:St->XK)(ta:TA):TS:=fun D σ H=>ta σ H fun vs H1=>vs.length<=1000/\∀ea,H1 ea=none->E σ (.ref C) (some ea) H1
theorem Zk3{K:W.Frag}{h₀:Heap}{C:Addr}{bmB:List Value}{newId:String}(X:K.In h₀)(q:PySem.W.excIn K C bmB newId=true) :
  ∃tl N nm qn bs hdct sn sub ab col dd k0 k1 k2 k3 k5 mN,h₀.get? C=some (excClassObj nm qn C N bs tl hdct sn sub ab col dd k0 k1 k2 k3 k5 newId)/\h₀.Ns N mN/\mN "__init__"=none/\OwnTail h₀ bmB tl:=by
 unfold PySem.W.excIn at q
 split at q
 ·rename_i dd cd sl ho
  split at q
  ·rename_i C' bm k0 k1 k2 k3 n k5 hm hs
   simp only[Bool.and_eq_true,beq_iff_eq,Bool.not_eq_true'] at q
   obtain⟨⟨⟨⟨⟨rfl,rfl⟩,hdel⟩,ht⟩,hok⟩,hni⟩:=q
   obtain⟨nm,bs,mro,ns,qn,hd,sn,sub,ab,col,del⟩:=cd
   dsimp only at hm hdel hok hni
   subst hm hdel
   have hsl:sl=#[k0,k1,k2,k3,some (.builtin n),k5]:=by
    obtain⟨l⟩:=sl
    simp only at hs
    rw[hs]
   subst hsl
   exact⟨bm,ns,nm,qn,bs,hd,sn,sub,ab,col,dd,k0,k1,k2,k3,k5,_,X _ _ ho,.of_isNs (PySem.W.isNs_of_in X hok),PySem.W.nsMap_none_of_in X hok hni,PySem.W.tail_of_in X ht⟩
  ·cases q
 ·cases q
section
variable {X:Cx}{E:St->XK}{x:Str}{C:Addr}{np cpos pos:Pos}{e:Expr}{es:List Expr}{ta:TA}
theorem Uh(hM:ZmD X E)(hq:PySem.W.excIn X.K C Zn7 "ValueError.__new__"=true)(hg:Gl X x)(hm:X.mg x=some (.ref C))(hc:X.calm=true)(ha:PA X (e::es) ta)(hdb:(x==("__debug__":Str))=false:=by decide)(he:starEach (e::es) X.env=(false,eval e X.env)::starEach es X.env:=by rfl)(hpl:(backTo cpos (starEach es X.env)).any (·.1)=false:=by rfl) :
  PS X (.Raise (some (.Call (.Name x np) (e::es) [] cpos)) none pos) (Zjk C E ta):=by
 intro pins s σ H D I h
 obtain⟨tl,N,nm,q,bs,hdct,sn,sub,ab,col,dd,k0,k1,k2,k3,k5,mN,hC,hN,hni,T⟩:=Zk3 I.ok.mod.kin hq
 refine wpAny_Raise_call_subT (C:=C) (nm:=nm) (q:=q) (N:=N) (bs:=bs) (bm:=tl) (hdct:=hdct) (sn:=sn) (sub:=sub) (ab:=ab) (col:=col) (dd:=dd) (k0:=k0) (k1:=k1) (k2:=k2) (k3:=k3) (k5:=k5)
  PySem.F.excBase_ValueError (mN:=mN) (T.hasType PySem.F.excBase_ValueError.hasBase) (I.ok.hd hc) (by rw[he];show (false || (backTo cpos (starEach es X.env)).any (·.1))=false;rw[hpl];rfl) hni (VV I hg hm ⟨rfl, ?_⟩ hdb)
 have h2:=ha cpos pins s σ H _ I h
 rw[he] at h2 ⊢
 refine Calls.evalArgs_plain (wpAny_mono h2 (fun us s₂ z=>?_) fun _ _ y=>y)
 obtain⟨vs,H1,I1,r,hl,hE⟩:=z
 have hnew:∀{h':Heap}{ea:Addr}{args:List Value},Heap.MadeExcOf s₂.heap h' ea (.ref C) args->H1 ea=none:=fun {h' ea args} hx=>by
  cases q:H1 ea with
  |none=>rfl
  |some u=>obtain⟨o,e⟩:=(I1.hok ea u q).there;rw[hx.new] at e;cases e
 exact⟨rfl,Zx2 (by rw[<- r.length];exact hl) (by decide),I1.bk _ _ hC,hN.keeps I1.bk,T.keeps I1.bk,fun h' ea hx=>hM pins σ H1 s₂ h' ea _ _ I1 hx (hE ea (hnew hx))⟩
end
theorem Zmy{P:Program}{w:World}{outer:List Env}{H H':Hp}{s s':Shared}{ea k t:Addr}{cls:Value}{Bh h'':Heap}(F:Fly P w outer H s ea k cls H' s')(fl:Heap.FlyingW Bh outer ea cls (.ref t) s'.heap)(c1:∀b u,H' b=some u->∀o,s'.heap.get? b=some o->Bh.get? b=some o)(c2:∀b o,s.heap.get? b=some o->b ∉ frs outer->∃o',Bh.get? b=some o')(st:Bh.StaysIn h'')(up:s'.heap.UpToSlots h'') :
  Un (frs outer) [] H H' s.heap h''/\HOk P w H' h'':=by
 refine⟨⟨fun b o q n hb _=>?_,fun b o q n hb _=>?_,fun b o q n hx=>F.un.free b o q n hx,fun b o q _=>?_,F.un.tups,F.un.frzs,F.un.tbls⟩,fun b u e=>?_⟩
 ·have e2:=F.un.keep b o q n hb (by simp)
  obtain⟨o',e3⟩:=c2 b o q hb
  have e4:=fl.1 b o' e3
  rw[e2] at e4;cases e4
  exact st b o e3
 ·obtain⟨s2,e2⟩:=F.un.slot b o q n hb (by simp)
  obtain⟨_,o',ho',hnf⟩:=Heap.FunFrames.mem fl.2.2.1 hb
  rw[e2] at ho';cases ho'
  obtain⟨s3,e3⟩:=up b _ e2 hnf
  exact⟨s3,e3⟩
 ·by_cases hb:b∈frs outer
  ·obtain⟨_,o',ho',hnf⟩:=Heap.FunFrames.mem fl.2.2.1 hb
   obtain⟨sl,e⟩:=up b _ ho' hnf
   exact⟨_,e⟩
  ·obtain⟨o',e⟩:=c2 b o q hb
   exact⟨o',st b o' e⟩
 ·refine(F.hok b u e).stay (fun c v hc q=>?_) (fun _ q=>q) fun _ _ q=>q
  rcases hc with rfl|hc
  ·exact st c v (c1 c u e v q)
  ·exact st c v (c1 c _ hc v q)
section
variable {X:Cx}{pins:List (Addr×Obj)}{σ:St}{H:Hp}{s:Shared}
theorem Inv.track{ea:Addr}{oe:Obj}(I:Inv X pins σ H s)(e:s.heap.get? ea=some oe)(hn:H ea=none)(hL:ea≠X.env.locals)(hC:∀x c,X.env.cells.lookup x=some c->c≠ea)(hp:∀p∈X.pn++pins,p.1≠ea)(h0:X.s₀.heap.get? ea=none) :
  Inv X pins σ (upd H ea (.frz oe (.own ea))) s:=by
 refine⟨I.ok,I.os,I.bare,⟨I.base.keep,I.base.slot,fun b o q n hx=>?_,I.base.there,fun b xs q=>?_,fun b o u q=>?_,fun b ps q=>?_⟩,I.loc,I.cell, ?_,fun x c q=>?_,fun p hq=>?_,fun b u q=>?_,I.len⟩
 ·rw[Zv (fun z=>by rw[z,h0] at q;cases q)];exact I.base.free b o q n hx
 ·have:=I.base.tups b xs q
  rw[Zv (Z2 this hn)];exact this
 ·have:=I.base.frzs b o u q
  rw[Zv (Z2 this hn)];exact this
 ·obtain⟨m,this⟩:=I.base.tbls b ps q
  exact⟨m,by rw[Zv (Z2 this hn)];exact this⟩
 ·rw[Zv (Ne.symm hL)];exact I.free
 ·rw[Zv (hC x c q)];exact I.freeC x c q
 ·obtain⟨a,b,c,d,e⟩:=I.pin p hq
  exact⟨a,by rw[Zv (hp p hq)];exact b,c,d,e⟩
 ·by_cases hb:b=ea
  ·subst hb
   rw[ZE] at q;cases q
   exact⟨e,oe,e⟩
  ·rw[Zv hb] at q
   exact(I.hok b u q).stay (fun c v _ z=>z) (fun c z=>by rw[Zv (Z2 z hn)];exact z) fun c xs z=>by rw[Zv (Z2 z hn)];exact z
theorem Inv.gone{i:Nat}{n:Str}{m:Str->Option Value}{v:Option Value}{h':Heap}{t':Nat}(I:Inv X pins σ H s)(hN:X.N.Nodup)(hi:X.N[i]?=some n)(hm:∀(j:Nat) (x:Str) (v:V),X.N[j]?=some x->σ[j]?=some (some v)->Vis X.env.scope x->∃u,J2 v u/\Zop X.env s.heap m x u)(hn:h'.Ns X.env.locals (fun x=>if x=n then v else m x))(hs:Heap.SameBut X.env.locals s.heap h')(hoL:∃o,s.heap.get? X.env.locals=some o):Inv X pins (σ.set i none) H { s with heap:=h',toks:=t' }:=by
 have tracked:HOk X.prog X.w H h':=fun b ob e=>by
  refine(I.hok b ob e).stay (fun c w' hc q=>(hs.2 c ?_).trans q) (fun _ q=>q) fun _ _ q=>q
  intro z
  rw[z] at hc
  rcases hc with hc|hc
  ·rw[<- hc,I.free] at e;cases e
  ·rw[I.free] at hc;cases hc
 have neL:∀b o,X.s₀.heap.get? b=some o->b≠X.env.locals:=fun b o e=>Zxv (Zxj (Heap.lt_size e) I.ok.above)
 refine⟨I.ok,I.os,I.bare,⟨fun b o e n hb hx=>?_,fun b o e n hb hx=>?_,I.base.free,fun b o e hx=>?_,I.base.tups,I.base.frzs,I.base.tbls⟩,⟨_,hn,fun j y v' e1 e2 e3=>?_⟩,fun y c e=>?_,I.free,I.freeC,fun p hp=>?_,tracked,by simpa using I.len⟩
 ·exact(hs.2 b (neL b o e)).trans (I.base.keep b o e n hb hx)
 ·obtain⟨sl,e1⟩:=I.base.slot b o e n hb hx
  exact⟨sl,(hs.2 b (neL b o e)).trans e1⟩
 ·obtain⟨o',e1⟩:=I.base.there b o e hx
  exact⟨o',(hs.2 b (neL b o e)).trans e1⟩
 ·by_cases hj:j=i
  ·subst hj
   rw[List.getElem?_set] at e2
   simp only[if_true] at e2
   split at e2<;>cases e2
  ·rw[Zx1 (Ne.symm hj)] at e2
   obtain⟨u',r',q⟩:=hm j y v' e1 e2 e3
   refine⟨u',r', ?_⟩
   rcases q with ⟨k,e⟩|⟨k,c,e,z⟩
   ·refine .inl ⟨k, ?_⟩
    have:y≠n:=fun e=>hj (Zbt hN e1 (e▸hi))
    simp[this,e]
   ·exact .inr ⟨k,c,e,z.sameBut hs (I.cne y c e)⟩
 ·obtain⟨w',z⟩:=I.cell y c e
  exact⟨w',z.sameBut hs (I.cne y c e)⟩
 ·obtain⟨e,n,ne,nf,d⟩:=I.pin p hp
  exact⟨(hs.2 p.1 ne).trans e,n,ne,nf,d⟩
end
noncomputable def unE(D:ZfF)(i:Nat):ZfF:=⟨fun σ H=>D.nx (σ.set i none) H,D.rt,fun σ H=>D.bk (σ.set i none) H,fun σ H=>D.ct (σ.set i none) H⟩
noncomputable def ZmS(K:W.Frag)(C:Addr)(i:Nat)(th:TS)(D:ZfF):St->XK:=fun σ1 cls ea H1=>PySem.W.exmOne K cls (.ref C)=some true/\∃k,ea=some k/\∀(a:Addr) (oe:Obj),H1 a=none->oe.cls=cls->Zle H1 a k oe->PySem.W.notCls oe=true->th (unE D i) (σ1.set i (some (.ref a))) (upd H1 a (.frz oe (.own a)))
noncomputable def ZnI(K:W.Frag)(C:Addr)(i:Nat)(tb:(St->XK)->TS)(th:TS):TS:=fun D σ H=>tb (ZmS K C i th D) D σ H
noncomputable abbrev Cx.inTry(X:Cx)(xe:Value->Shared->Prop)(pn:List (Addr×Obj)):Cx:={ X with xe:=xe,pn:=pn }
noncomputable abbrev Cx.inExc(X:Cx)(A:Around):Cx:={ X with A:=A,calm:=false,xe:=fun _ _=>False }
section
variable {X:Cx}{pins:List (Addr×Obj)}{σ:St}{H:Hp}{s:Shared}
theorem Inv.tryIn{xe:Value->Shared->Prop}(I:Inv X pins σ H s):Inv (X.inTry xe (X.pn++pins)) [] σ H s:=
 ⟨⟨I.ok.mod,I.ok.kind,I.ok.glob,I.ok.blt,I.ok.above,I.ok.inj,I.ok.has,I.ok.cab,I.ok.hd,I.ok.frames,I.ok.stk,I.ok.exf,I.ok.bs,I.ok.bsz,I.ok.noex,I.ok.exfs,I.ok.funs,I.ok.frf⟩,I.os,I.bare,I.base,I.loc,I.cell,I.free,I.freeC,fun p hp=>I.pin p (by simpa using hp),I.hok,I.len⟩
theorem Inv.tryOut{xe:Value->Shared->Prop}{pins':List (Addr×Obj)}(I:Inv (X.inTry xe (X.pn++pins)) pins' σ H s):Inv X pins σ H s:=
 ⟨⟨I.ok.mod,I.ok.kind,I.ok.glob,I.ok.blt,I.ok.above,I.ok.inj,I.ok.has,I.ok.cab,I.ok.hd,I.ok.frames,I.ok.stk,I.ok.exf,I.ok.bs,I.ok.bsz,I.ok.noex,I.ok.exfs,I.ok.funs,I.ok.frf⟩,I.os,I.bare,I.base,I.loc,I.cell,I.free,I.freeC,fun p hp=>I.pin p (Zxe _ hp),I.hok,I.len⟩
theorem Inv.excIn{e:Value}(I:Inv X pins σ H s):Inv (X.inExc (X.A.mark (some e))) pins σ H s:=
 ⟨⟨I.ok.mod,I.ok.kind,I.ok.glob,I.ok.blt,I.ok.above,I.ok.inj,I.ok.has,I.ok.cab,fun z=>(by cases z),I.ok.frames,I.ok.stk,I.ok.exf,I.ok.bs,I.ok.bsz,I.ok.noex,I.ok.exfs,I.ok.funs,I.ok.frf⟩,I.os,I.bare,I.base,I.loc,I.cell,I.free,I.freeC,I.pin,I.hok,I.len⟩
theorem Inv.excOut{e:Value}(h:X.Ok)(I:Inv (X.inExc (X.A.mark (some e))) pins σ H s):Inv X pins σ H s:=⟨h,I.os,I.bare,I.base,I.loc,I.cell,I.free,I.freeC,I.pin,I.hok,I.len⟩
end
section
variable {X:Cx}{C:Addr}{i:Nat}{tb:(St->XK)->TS}{th:TS}{c n:Str}{np hpos pos:Pos}{body suite:List Stmt}{b₀:Stmt}
theorem ZlM(hb:∀(xe:Value->Shared->Prop) (pn:List (Addr×Obj)) (E:St->XK),ZhO (X.inTry xe pn) E->PSs (X.inTry xe pn) body (tb E))(hh:∀v:Value,PSs (X.inExc (X.A.mark (some v))) (b₀::suite) th)(hN:X.N.Nodup)(hi:X.N[i]?=some n)(hl:X.env.scope.names.lookup n=some .local)(hg:Gl X c)(hm:X.mg c=some (.ref C))(hst:X.stack=X.env::X.outer)(hf:X.env.frame=some X.env.locals)(hex:X.ex=[])(hdb:(c==("__debug__":Str))=false:=by decide) :
  PS X (.Try body [.ExceptHandler (some (.Name c np)) (some n) (b₀::suite) hpos] [] [] pos) (ZnI X.K C i tb th):=by
 intro pins s σ H D I h
 refine wpAny_Try_except ?_
 refine wpAny_mono (hb (fun e s'=>∃σ1 H1 s1,Inv X pins σ1 H1 s1/\CX1 X.prog X.w X.stack H1 s1 (ZmS X.K C i th D σ1) e s') (X.pn++pins) (ZmS X.K C i th D) (fun pins' σ1 H1 s1 e s' I' hq=>⟨σ1,H1,s1,I'.tryOut,hq⟩) [] s σ H D I.tryIn h) (fun f s1 q=>?_) (fun e s1 q=>?_)
 ·cases f with
  |next=>obtain⟨σ',H',I',q⟩:=q;exact wpAny_execs_nil ⟨σ',H',I'.tryOut,q⟩
  |brk=>obtain⟨σ',H',I',q⟩:=q;exact⟨σ',H',I'.tryOut,q⟩
  |cont=>obtain⟨σ',H',I',q⟩:=q;exact⟨σ',H',I'.tryOut,q⟩
  |ret u=>obtain⟨v,σ',H',I',r,q⟩:=q;exact⟨v,σ',H',I'.tryOut,r,q⟩
 ·obtain⟨σ1,H1,s0,I1,ea,kk,cls,H',rfl,F,hx,a,ha,hth⟩:=q
  cases ha
  obtain⟨Bh,t,fl,c1,c2⟩:=F.fly
  have hfr:X.A.frames=some (X.env::X.outer):=by rw[<- hst];exact I.ok.frames
  have fl0:=fl
  rw[hst] at fl
  have new0:s0.heap.get? ea=none:=by
   cases q:s0.heap.get? ea with
   |none=>rfl
   |some o =>
    exfalso
    by_cases hb:ea∈frs X.stack
    ·obtain⟨_,o',ho',hnf⟩:=Heap.FunFrames.mem fl0.2.2.1 hb
     obtain⟨oe,vs,hoe,_,hd,_⟩:=fl0.first
     rw[hoe] at ho';cases ho'
     exact hnf vs hd
    ·obtain⟨o',e⟩:=c2 ea o q hb
     rw[fl0.2.1] at e;cases e
  have neL:ea≠X.env.locals:=fun z=>by
   obtain⟨m,⟨o,_,_,ho,_⟩,_⟩:=I1.loc
   rw[<- z,new0] at ho;cases ho
  have neC:∀x c,X.env.cells.lookup x=some c->c≠ea:=fun x c e z=>by
   obtain⟨v,o,ho,_⟩:=I1.cell x c e
   rw[z,new0] at ho;cases ho
  have neP:∀p∈X.pn++pins,p.1≠ea:=fun p hp z=>by
   have:=(I1.pin p hp).1
   rw[z,new0] at this;cases this
  have new1:X.s₀.heap.get? ea=none:=by
   cases q:X.s₀.heap.get? ea with
   |none=>rfl
   |some o=>obtain⟨o',e⟩:=I1.base.there ea o q (by rw[hex];simp);rw[new0] at e;cases e
  have land:∀{h'':Heap},Bh.StaysIn h''->s1.heap.UpToSlots h''->Inv X pins σ1 H' { s1 with heap:=h'' }:=fun {h''} st up=>by
   obtain⟨u,hok⟩:=Zmy F fl0 c1 c2 st up
   exact I1.call' (s':={ s1 with heap:=h'' }) (ch:=[]) F.os u hok F.bare (fun b z=>absurd z (by simp))
  refine wpAny_mono (Zc0 (Zha _ _) (wpAny_looks_onW (Q:=fun _ s''=>∃h4,s''={ s1 with heap:=h4 }/\Heap.HeldW Bh (X.env::X.outer) ea cls (.ref t) X.env.locals h4/\s1.heap.UpToSlots h4) hfr hf fl fun h4 held4 up4=>⟨h4,rfl,held4,up4⟩)) (fun _ s'' q=>?_) fun _ _ q=>q.1
  obtain⟨⟨h4,rfl,held4,up4⟩,dk4⟩:=q
  refine wpAny_mono (Zc0 (VW _ _) (wpAny_landsW (Q:=fun _ s''=>∃h5,s''={ s1 with heap:=h5 }/\Heap.FlyingW Bh (X.env::X.outer) ea cls (.ref t) h5/\h4.UpToSlots h5) held4 fun h5 fl5 up5=>⟨h5,rfl,fl5,up5⟩)) (fun _ s'' q=>?_) fun _ _ q=>q.1
  obtain⟨⟨h5,rfl,fl5,up5⟩,dk5⟩:=q
  have up5':s1.heap.UpToSlots h5:=up4.trans up5
  have I5:=land fl5.1 up5'
  refine wpAny_handleBy_cons (codeAny_handlers_test ?_) (by intro q;cases q)
  refine VV (X:=X.inExc (X.A.mark (some (.ref ea)))) I5.excIn hg hm ?_ hdb
  obtain⟨oe5,hoe5,hc5⟩:=fl5.there
  have LT:PySem.W.Looks (model X.prog X.w) h5 (typeOf (.ref ea)) cls:=by
   subst hc5
   exact(PySem.W.Looks.ld hoe5).andThen .now
  refine PySem.W.Looks.here (s:={ s1 with heap:=h5 }) (PySem.W.exm_one I5.kIn LT hx) ?_
  refine codeAny_handlers_suite_as ?_
  refine wpAny_mono (Zc0 (VW _ _) (lands_againW (Q:=fun _ s''=>∃h6,s''={ s1 with heap:=h6 }/\Heap.FlyingW Bh (X.env::X.outer) ea cls (.ref t) h6/\h5.UpToSlots h6) fl5 fun h6 fl6 up6=>⟨h6,rfl,fl6,up6⟩)) (fun _ s'' q=>?_) fun _ _ q=>q.1
  obtain⟨⟨h6,rfl,fl6,up6⟩,dk6⟩:=q
  have I6:=land fl6.1 (up5'.trans up6)
  obtain⟨oe,ws,hoe,hc,hfd,_⟩:=fl6.first
  have hdn:Zle H' ea kk oe:=by
   obtain⟨o1,e1,d1⟩:=F.dict
   obtain⟨o2,e2,d2⟩:=dk4 ea o1 e1
   obtain⟨o3,e3,d3⟩:=dk5 ea o2 e2
   obtain⟨o4,e4,d4⟩:=dk6 ea o3 e3
   have e4':h6.get? ea=some o4:=e4
   rw[hoe] at e4';cases e4'
   unfold Zle at d1 ⊢
   rw[d4,d3,d2];exact d1
  have hnc:PySem.W.notCls oe=true:=by unfold PySem.W.notCls;rw[hfd]
  have I7:=I6.track (ea:=ea) (oe:=oe) hoe F.new neL neC neP new1
  refine UL (X:=X) I7 hN hi (.inl hl) (v:=.ref ea) rfl (fun s8 I8=>?_) (.inr hl)
  refine wpAny_mono (hh (.ref ea) pins s8 _ _ (unE D i) I8.excIn (hth ea oe F.new hc hdn hnc)) (fun f s9 q=>?_) (fun _ _ z=>False.elim z)
  have hcls:(X.env.scope.kind==.class || (X.env.scope.kind==.module&&X.env.locals != X.env.globals))=false:=by rw[I.ok.kind];rfl
  have go:∀{σ9:St}{H9:Hp},Inv (X.inExc (X.A.mark (some (.ref ea)))) pins σ9 H9 s9->∀{Q:Unit->Shared->Prop},(∀s',Inv X pins (σ9.set i none) H9 s'->Q () s') ->
    wpAny (model X.prog X.w) X.A (do bindName X.env n .none;unbindBehindTheSuite X.env n hpos) Q X.xe s9:=fun {σ9 H9} J {Q} hQ=>by
   have J':=Inv.excOut I.ok J
   obtain⟨m,hn,hlook⟩:=id J'.loc
   obtain⟨o,_,_,ho,_⟩:=id hn
   exact wpAny_nameGoes_keeps hl hn hcls fun h' v hn' hs'=>hQ _ (J'.gone hN hi hlook hn' hs' ⟨o,ho⟩)
  cases f with
  |next=>obtain⟨σ',H',I',q⟩:=q;exact go I' fun s' J=>⟨_,_,J,q⟩
  |brk=>obtain⟨σ',H',I',q⟩:=q;exact go I' fun s' J=>⟨_,_,J,q⟩
  |cont=>obtain⟨σ',H',I',q⟩:=q;exact go I' fun s' J=>⟨_,_,J,q⟩
  |ret u=>obtain⟨v,σ',H',I',r,q⟩:=q;exact go I' fun s' J=>⟨v,_,_,J,r,q⟩
end
end L2
namespace PySem.W
open PySem PySem.Spec PySem.Calls PyProof.Rows
section
variable {prog:Program}{w:World}{A:Around}{E:Value->Shared->Prop}{s:Shared}{K:Frag}{x D:Addr}{ox:Obj}{od:Option Obj}
theorem Zf0:Manifest.canonical "BaseException.__getattribute__" = "object.__getattribute__":=by decide +kernel
theorem method_exc{name:Str}{f:Addr}{pl:Sem Bool}{Q:Value×List Value->Shared->Prop}(X:K.In s.heap)(I:InstAt s.heap x ox D od)(hga:findIn K (.ref D) "__getattribute__"=some (some (.builtin "BaseException.__getattribute__")))(hk:findIn K (.ref D) "__getattr__"=some none)(hown:∀o,od=some o->lookIn name o=some none)(hf:findIn K (.ref D) name=some (some (.ref f)))(ht:typeIn K (.ref f)=some (.type "function"))(h:Q (.ref f,[.ref x]) s):wpAny (model prog w) A (getMethod (.ref x) name pl) Q E s:=by
 have hcan:=Zf0
 unfold getMethod specialOf
 refine wpAny_bind (wpAny_bind (I.type.here ((looks_findIn X hga).here ?_)))
 dsimp only
 rw[hcan,if_neg (by decide)]
 refine wpAny_bind (wpAny_bind (I.type.here ((looks_findIn X hk).here ?_)))
 refine wpAny_bind (wpAny_bind (I.type.here ((looks_findIn X hf).here (wpAny_bind ((looks_typeIn X ht).here ?_)))))
 rw[if_neg (by decide +kernel)]
 refine wpAny_bind (wpAny_loadPart I.at_ ?_)
 have hd:=I.dict
 cases e:ox.dict with
 |none=>exact wpAny_bind (wpAny_rule (wpAny_pure h))
 |some dx =>
  rw[e] at hd
  cases od with
  |none=>exact hd.elim
  |some o =>
   dsimp only
   refine wpAny_bind (wpAny_bind (wpAny_loadPart hd ?_))
   rw[nsLook_of (hown o rfl)]
   exact wpAny_pure (wpAny_bind (wpAny_rule (wpAny_pure h)))
noncomputable def exOk(K:Frag)(D:Addr):Bool:=(findIn K (.ref D) "__getattribute__" == some (some (.builtin "BaseException.__getattribute__")))&&(findIn K (.ref D) "__getattr__" == some none)&&(mroIn K D (.type "BaseException")==some true)&&(mroIn K D (.type "object")==some true) &&
 (findIn K (.ref D) "__class__" == some (some (.builtin "object.__class__")))&&(specialIn K (.builtin "object.__class__") "__get__" == some (some (.builtin "getset_descriptor.__get__")))&&(takesIn K (.builtin "object.__class__")==some true)&&(clsIn K D).isSome
end
end PySem.W
namespace L2
open PySem PySem.Spec PyProof.Rows
def OkX(P:Program)(w:World)(K:W.Frag)(mg:Str->Option Value)(base:Heap)(k:Nat)(x:Str)(ps:List Str)(sp:Sp):Prop:=
 ∃f fd,Jv P w K mg base (CX1 P w) k f fd ps sp/\mg x=some (.ref f)/\PySem.W.keepIn K (.ref f)=true/\ZbL K fd ps []
theorem Qq{P:Program}{w:World}{K:W.Frag}{mg:Str->Option Value}{base:Heap}{k:Nat}{x:Str}{st:Stmt}{ps:List Str}{sp:Sp}(d:Dfn K mg x st)(b:Zt x st ps)(h:∀{f fd},Fun K x x st f fd->Jv P w K mg base (CX1 P w) k f fd ps sp):OkX P w K mg base k x ps sp:=by
 obtain⟨f,fd,F,hm⟩:=d
 exact⟨f,fd,h F,hm,F.kp,F.binds b⟩
section
variable {X:Cx}{k:Nat}{x:Str}{ps:List Str}{sp:Sp}{p pos:Pos}{e:Expr}{es:List Expr}{t:TA}{E:St->XK}
noncomputable def ZdO(sp:Sp)(E:St->XK)(t:TA):TE:=fun σ H Q=>t σ H fun vs H1=>sp vs H1 Q (E σ)
theorem JJ(G:OkX X.prog X.w X.K X.mg X.base k x ps sp)(hr:Q2 k X.A)(hg:Gl X x)(hx:ZhO X E)(ha:PA X (e::es) t)(hdb:(x==("__debug__":Str))=false:=by decide)(he:starEach (e::es) X.env=(false,eval e X.env)::starEach es X.env:=by rfl)(hpl:(backTo pos (starEach es X.env)).any (·.1)=false:=by rfl):PE X (.Call (.Name x p) (e::es) [] pos) (ZdO sp E t):=by
 obtain⟨f,fd,F,hm,hk,hb⟩:=G
 intro pins s σ H Q I h
 refine wpAny_Call_Name_kw (VV I hg hm ?_ hdb)
 refine PySem.W.callWith_K (h₀:=X.base) I.ok.mod.kin hk (thn (ha pos pins s σ H _ I h) fun us s1 ⟨vs,H1,I1,r,q⟩=>⟨I1.kIn, ?_⟩) he hpl
 have hl:(us++[]).length=ps.length:=by rw[ZxA,<- r.length];exact F.len _ _ _ _ q
 have hb':=hb s1 us I1.kIn hl
 rw[ZxA] at hb'
 refine wpAny_call (codeAny_mono (F.run X.A X.stack s1 H1 ⟨us,[]⟩ us vs Q (E σ) hr I1.env0 hb' r q) fun r s' hq=>?_)
 cases r with
 |error e=>exact hx pins σ H1 s1 e s' I1 hq
 |ok fl =>
  cases fl with
  |ret u=>exact I1.after hq
  |next=>exact False.elim hq
  |brk=>exact False.elim hq
  |cont=>exact False.elim hq
end
noncomputable def Zo8:PV->Hp->Addr->Prop
 |.non,H,k=>H k=none
 |.int i,H,k=>∃fs,H k=some (.xd fs)/\fs=[(("at":Str),V.int i)]
 |_,_,_=>False
def W1(K:W.Frag):PX->XK->Hp->Prop:=fun e E H'=>∀C k,Za6 K e.1 C->Zo8 e.2 H' k->E (.ref C) (some k) H'
section
variable {P:Program}{w:World}{K:W.Frag}{mg:Str->Option Value}{base:Heap}
theorem Fun.okX{x qual:Str}{st:Stmt}{f:Addr}{fd:FuncData}{N ps:List Str}{k n l:Nat}{kd:Kd}{m:List PV->Rr PV}(F:Fun K x qual st f fd)(S:Zr N ps (Zd st))(hn:ps.length=n)(hl:N.length-n=l)(hbody:∀(cdv:Value) (A:Around) (outer:List Env) (s:Shared) (H:Hp) (E:XK),Q2 k (A.deeper (envOfC qual (Zd st) s.heap.objs.size f cdv)) ->
   ∃t g Y,Y.r=kd/\PSs (ZcP (CX1 P w) P w K mg base N qual (Zd st) f cdv A outer s H E) (Zo st) t/\DS K (fun e H'=>W1 K e E H') (List.replicate n .S++List.replicate l .U) Y t g/\∀xs,Ref (m xs) (g (xs++List.replicate l .non)).out)(hkN:kd≠.N:=by nofun)(hkM:kd≠.M:=by nofun) :
  Jv P w K mg base (CX1 P w) (k+1) f fd ps (spF K n kd (W1 K) m):=by
 obtain⟨oc,od,kV,doc,pm,an,cdv,ct,osl,rfl,lk,hcd⟩:=F.ex
 refine Zmx lk hcd S (fun vs H Q E h=>?_) fun A outer s H vs Q E hr h=>?_
 ·obtain⟨B,xs,h1,h2,_⟩:=h
  rw[h1.length,h2,hn]
 ·obtain⟨B,xs,h1,h2,dn⟩:=h
  obtain⟨t,g,Y,hY,ht,hd,href⟩:=hbody cdv A outer s H E hr
  refine⟨t,ht, ?_⟩
  have A0:=Ag.init (n:=l) h1
  have est:Q8 N vs=vs.map some++List.replicate l none:=by
   unfold Q8
   rw[h1.length,h2,hl]
  rw[est]
  rw[h2] at A0
  refine hd _ H H _ _ _ _ A0 ?_
  have hdn:Dn (g (xs++List.replicate l .non)).out (fun x=>∀v H',Z9 H H'->ZjJ K B H kd x v H'->Q v H') (fun e=>∀H',Z9 H H'->W1 K e E H'):=by
   rcases href xs with e|e
   ·rw[e] at dn;exact dn.elim
   ·rw[<- e];exact dn
  have retK:∀{x v H'},ZjJ K (fun a=>B a\/H a=none) H kd x v H'->ZjJ K B H kd x v H':=fun {x v H'} h=>by
   cases kd with
   |P=>exact h
   |F=>exact h
   |T=>exact Rep.mono (fun a us s r=>⟨r,s.elim id .inr⟩) (fun a us r=>r) h
   |Z=>exact Rep.mono (fun a us s r=>⟨r,s.elim id .inr⟩) (fun a us r=>r) h
   |A=>exact Rep.mono (fun a us s r=>⟨r,s.elim id .inr⟩) (fun a us r=>r) h
   |N=>exact h
   |M=>exact h
  cases e:g (xs++List.replicate l .non) with
  |next ρ =>
   rw[e] at hdn
   refine fun σ' H' F' fr A'=>hdn .non H' A'.same ?_
   cases kd with
   |P=>exact⟨rfl,rfl⟩
   |F=>exact⟨[],⟨rfl,rfl⟩,by simp⟩
   |T=>exact rfl
   |Z=>exact rfl
   |A=>exact rfl
   |N=>exact absurd rfl hkN
   |M=>exact absurd rfl hkM
  |ret x=>rw[e] at hdn;exact fun v H' s r=>hdn v H' s (retK (hY▸r))
  |exc q=>rw[e] at hdn;exact fun H' s=>hdn H' s
  |brk ρ=>rw[e] at hdn;exact hdn.elim
  |cont ρ=>rw[e] at hdn;exact hdn.elim
  |bad=>rw[e] at hdn;exact hdn.elim
end
section
variable {K:W.Frag}{n:Nat}{m:List PV->Rr PV}{ta:TA}{Γ Γ':List Md}{fa:List PV->Rr (List PV)}{E:XK}
noncomputable abbrev EX1(K:W.Frag)(E:XK):PX->Hp->Prop:=fun e H'=>W1 K e E H'
theorem Zlm(hn:Len fa n)(ha:DAA K (EX1 K E) Γ Γ' ta fa):DE K (EX1 K E) Γ Γ' .F (ZdO (spF K n .F (W1 K) m) (fun _=>E) ta) (fun ρ=>(fa ρ).bind m):=ZbG (E:=E) (W:=W1 K) (fun σ H Q h=>h) (fun e H' h=>h) hn ha
theorem ZmT(hn:Len fa n)(ha:DAA K (EX1 K E) Γ Γ' ta fa):DE K (EX1 K E) Γ Γ' .P (ZdO (spF K n .P (W1 K) m) (fun _=>E) ta) (fun ρ=>(fa ρ).bind m):=ZeA (E:=E) (W:=W1 K) (fun σ H Q h=>h) (fun e H' h=>h) hn ha
theorem Zk5{EX:PX->Hp->Prop}(hn:Len fa n)(hm:∀xs q,m xs≠.exc q)(ha:DAA K EX Γ Γ' ta fa):DE K EX Γ Γ' .F (ZaC (spF K n .F W0 m) ta) (fun ρ=>(fa ρ).bind m):=fun B H0 H σ ρ F R Q A d=>by
 refine ha B H0 H σ ρ F R _ A (d.bind.imp (fun xs hx d vs H1 F1 s1 f1 p1 A1=>?_) fun e q=>q)
 refine⟨fun _=>True,xs,p1,hn ρ xs hx, ?_⟩
 cases e:m xs with
 |ok x =>
  rw[e] at d
  intro v H2 s2 r
  obtain⟨G,r1,r2⟩:=r
  exact d v H2 (s1.trans s2) ⟨F1,f1,G,r1,fun a ha=>⟨(A1.fresh (r2 a ha)).1,.inl (s1.free (r2 a ha))⟩,A1.more s2 r2 r1.alive⟩
 |exc q=>exact(hm xs q e).elim
 |bad=>rw[e] at d;exact d.elim
theorem Zk4{EX:PX->Hp->Prop}(hn:Len fa n)(hm:∀xs q,m xs≠.exc q)(ha:DAA K EX Γ Γ' ta fa):DE K EX Γ Γ' .P (ZaC (spF K n .P W0 m) ta) (fun ρ=>(fa ρ).bind m):=fun B H0 H σ ρ F R Q A d=>by
 refine ha B H0 H σ ρ F R _ A (d.bind.imp (fun xs hx d vs H1 F1 s1 f1 p1 A1=>?_) fun e q=>q)
 refine⟨fun _=>True,xs,p1,hn ρ xs hx, ?_⟩
 cases e:m xs with
 |ok x=>rw[e] at d;exact fun v H2 s2 r=>d v H2 (s1.trans s2) ⟨F1,f1,r.1,r.2,A1.grow s2⟩
 |exc q=>exact(hm xs q e).elim
 |bad=>rw[e] at d;exact d.elim
def Pm.calm(m:Pm):Prop:=∀a q,m.out a≠.exc q
theorem Pm.calm_fn{m:Pm}(h:m.calm)(xs:List PV)(q:PX):m.fn xs≠.exc q:=by
 unfold Pm.fn
 by_cases hx:∃a,m.enc a=xs/\m.pre a
 ·rw[dif_pos hx];exact h _ q
 ·rw[dif_neg hx];exact fun z=>by cases z
theorem Uq{C:Addr}{x:Str}{Y:Tys}(hC:Za6 K x C)(hn:Len fa n)(hl:n<=1000)(ha:DAA K (EX1 K E) Γ Γ' ta fa):DS K (EX1 K E) Γ Y (Zjk C (fun _=>E) ta) (fun ρ=>(fa ρ).thenS fun _=>.exc (x,.non)):=fun B H0 H σ ρ F D A d=>by
 refine ha B H0 H σ ρ F [] _ A (d.thenS.imp (fun xs hx d vs H1 F1 s1 f1 p1 A1=>?_) fun e q=>q)
 exact⟨by rw[p1.length,hn ρ xs hx];exact hl,fun ea hea=>d H1 A1.same C ea hC hea⟩
end
theorem PS.nox{X:Cx}{st:Stmt}{t:TS}(h:PS X.nox st t):PS X st t:=fun pins s σ H D I hw =>
 wpAny_mono (h pins s σ H D (I.wish _) hw) (fun _ _ q=>q.unwish) fun _ _ z=>False.elim z
def Zlg(K:W.Frag)(H:Hp)(n:Str)(v:V):Prop:=Zlh K H n v\/∃i,Zli K H n i v
theorem Zlg.inst{X:Cx}{pins:List (Addr×Obj)}{σ:St}{H:Hp}{s:Shared}{n:Str}{v:V}(I:Inv X pins σ H s)(h:Zlg X.K H n v):∃a o C od,v=.ref a/\Za6 X.K n C/\PySem.W.InstAt s.heap a o C od/\∀u,od=some u->PySem.W.lookIn ("called":Str) u=some none:=by
 rcases h with ⟨a,o,C,rfl,h1,h2,h3,h4,h5⟩|⟨i,a,o,C,d,fs,rfl,h1,h1d,h2,h3,h4,h5,rfl⟩
 ·exact⟨a,o,C,none,rfl,h5,⟨(I.hok a _ h1.1).1,h2,h4,by rw[h3];trivial⟩,fun u z=>by cases z⟩
 ·obtain⟨m,n1,n2⟩:=I.hok d _ h1d.1
  obtain⟨ou,hu,hl⟩:=ZgT n1
  refine⟨a,o,C,some ou,rfl,h5,⟨(I.hok a _ h1.1).1,h2,h4,by rw[h3];exact hu⟩,fun u z=>?_⟩
  cases z
  rw[hl]
  have z:=n2 ("called":Str)
  cases q:m ("called":Str) with
  |none=>rfl
  |some y=>rw[q] at z;exact z.elim
section
end
noncomputable def ZfW(K:W.Frag)(L:List Str)(ta:TE):TE:=fun σ H Q=>ta σ H fun v H1=>∃n,n∈L/\Zlg K H1 n v/\∀H2,Z9 H1 H2->Q (.str n) H2
noncomputable def U1(L:List Str)(x:PV):Rr PV:=match x with
 |.exc n=>if n∈L then .ok (.str n) else .bad
 |.exa n _=>if n∈L then .ok (.str n) else .bad
 |_=>.bad
section
variable {K:W.Frag}{EX:PX->Hp->Prop}{Γ Γ':List Md}{te:TE}{f:List PV->Rr PV}
theorem Zhy{L:List Str}(he:DE K EX Γ Γ' .A te f):DE K EX Γ Γ' .P (ZfW K L te) (fun ρ=>(f ρ).bind (U1 L)):=fun B H0 H σ ρ F R Q A d=>by
 refine he B H0 H σ ρ F R _ A (d.bind.imp (fun x _ d v H1 s1 r1=>?_) fun e q=>q)
 obtain⟨F1,f1,p1,A1⟩:=r1
 cases x with
 |exc n =>
  simp only[U1] at d
  by_cases hn:n∈L
  ·rw[if_pos hn] at d;exact⟨n,hn,.inl p1,fun H2 s2=>d _ H2 (s1.trans s2) ⟨F1,f1,rfl,rfl,A1.grow s2⟩⟩
  ·rw[if_neg hn] at d;exact d.elim
 |exa n i =>
  simp only[U1] at d
  by_cases hn:n∈L
  ·rw[if_pos hn] at d;exact⟨n,hn,.inr ⟨i,p1⟩,fun H2 s2=>d _ H2 (s1.trans s2) ⟨F1,f1,rfl,rfl,A1.grow s2⟩⟩
  ·rw[if_neg hn] at d;exact d.elim
 |_=>exact d.elim
end
noncomputable def Zme(Γ:List Md):Bool:=Γ.all fun m=>m==.U || m==.P || m==.S
theorem Zkr{K:W.Frag}{B:Addr->Prop}{H0 H:Hp}{σ:St}{Γ:List Md}{ρ:List PV}{F:Nat->List Addr}{R:List Addr}(h:Zme Γ=true)(A:Ag K B H0 H σ Γ ρ F R):∀i,F i=[]:=fun i=>by
 have sl:=A.slot i
 by_cases hi:i<Γ.length
 ·have hm:=Zxz.mp h Γ[i] (ZyB hi)
  have e:Γ.getD i .U=Γ[i]:=by rw[ZwZ,Zxa hi];rfl
  rw[e] at sl
  simp only[Bool.or_eq_true,beq_iff_eq] at hm
  rcases hm with (hm|hm)|hm
  ·rw[hm] at sl;exact sl
  ·rw[hm] at sl;exact sl.1
  ·rw[hm] at sl;exact sl.1
 ·have e:Γ.getD i .U=.U:=by rw[ZwZ,Zxl (by lia)];rfl
  rw[e] at sl
  exact sl
theorem Ag.near{K:W.Frag}{B:Addr->Prop}{H0 H:Hp}{σ:St}{Γ:List Md}{ρ:List PV}{F:Nat->List Addr}(A:Ag K B H0 H σ Γ ρ F [])(h:∀i,F i=[]):Ag K B H H σ Γ ρ F []:=
 ⟨Z9.refl _,fun a q=>A.own a (A.same.free q),fun i a ha=>by rw[h i] at ha;simp at ha,by simp,A.live,A.liveR,A.disj,A.disjR,A.lenS,A.lenR,A.slot⟩
theorem Ag.far{K:W.Frag}{B:Addr->Prop}{H0 H1 H:Hp}{σ:St}{Γ:List Md}{ρ:List PV}{F:Nat->List Addr}(A:Ag K B H1 H σ Γ ρ F [])(s:Z9 H0 H1)(own:∀a,H0 a=none->B a):Ag K B H0 H σ Γ ρ F []:=
 ⟨s.trans A.same,own,fun i a ha=>s.free (A.young i a ha),by simp,A.live,A.liveR,A.disj,A.disjR,A.lenS,A.lenR,A.slot⟩
theorem Z9.newO{H:Hp}{p:Addr}{o:HO}(hp:H p=none):Z9 H (L2.upd H p o):=fun b u h=>by rw[L2.Zv (Z2 h hp)];exact h
theorem Ag.unset{K:W.Frag}{B:Addr->Prop}{H0 H:Hp}{σ:St}{Γ Γ':List Md}{ρ:List PV}{F:Nat->List Addr}(i:Nat)(A:Ag K B H0 H σ Γ ρ F [])(h:Zbv (Γ.set i .U) Γ'=true) :
  ∃F',(∀i,∀a∈F' i,a∈F i)/\Ag K B H0 H (σ.set i none) Γ' ρ F' []:=by
 have h0:Zbv Γ (Γ.set i .U)=true:=by
  have:∀(Γ:List Md) (i:Nat),Zbv Γ (Γ.set i .U)=true:=fun Γ=>by
   induction Γ with
   |nil=>intro i;rfl
   |cons m ms ih =>
    intro i
    have refl:∀l:List Md,Zbv l l=true:=fun l=>by induction l with|nil=>rfl|cons a l ih=>simp[Zbv,mle,ih]
    cases i with
    |zero=>simp[Zbv,mle,refl]
    |succ i=>simp[Zbv,mle,ih i]
  exact this Γ i
 obtain⟨F1,f1,A1⟩:=A.weak h0
 have hFi:F1 i=[]:=by
  have sl:=A1.slot i
  by_cases hi:i<Γ.length
  ·have e:(Γ.set i .U).getD i .U=.U:=by rw[ZwZ,Zxy hi];rfl
   rw[e] at sl;exact sl
  ·have e:(Γ.set i .U).getD i .U=.U:=by rw[ZwZ,Zxl (by simp;lia)];rfl
   rw[e] at sl;exact sl
 have A2:Ag K B H0 H (σ.set i none) (Γ.set i .U) ρ F1 []:=⟨A1.same,A1.own,A1.young,A1.youngR,A1.live,A1.liveR,A1.disj,A1.disjR,by simpa using A1.lenS,A1.lenR,fun j=>by
  by_cases hj:j=i
  ·subst hj
   have e:(Γ.set j .U).getD j .U=.U:=by
    by_cases hi:j<Γ.length
    ·rw[ZwZ,Zxy hi];rfl
    ·rw[ZwZ,Zxl (by simp;lia)];rfl
   rw[e];exact hFi
  ·have sl:=A1.slot j
   rw[Zx1 (Ne.symm hj)];exact sl⟩
 obtain⟨F3,f3,A3⟩:=A2.weak h
 exact⟨F3,fun j a ha=>f1 j a (f3 j a ha),A3⟩
noncomputable def Zll(e:PX):PV:=match e.2 with
 |.int i=>.exa e.1 i
 |_=>.exc e.1
noncomputable def ZmI(L:List Str)(i:Nat)(gb gh:List PV->RS)(ρ:List PV):RS:=match gb ρ with
 |.exc e=>if e.1∈L then gh (ρ.set i (Zll e)) else .bad
 |r=>r
section
variable {K:W.Frag}{EX:PX->Hp->Prop}{Γ Γs:List Md}{Y Yh:Tys}{tb:(St->XK)->TS}{th:TS}{gb gh:List PV->RS}{C:Addr}{i:Nat}{L:List Str}
theorem Zm1(hL:∀n∈L,∀D,Za6 K n D->PySem.W.exmOne K (.ref D) (.ref C)=some true)(hb:∀E:XK,DS K (EX1 K E) Γs Y (tb fun _=>E) gb)(hloc:∀(E:St->XK) D σ H,tb (fun _=>E σ) D σ H->tb E D σ H)(hh:DS K EX (Γs.set i .P) Yh th gh)(hs:Zbv Γ Γs=true)(ho:Zme Γs=true)(hi:i<Γs.length)(hn:Zbv (Yh.n.set i .U) Y.n=true)(hbk:Zbv (Yh.b.set i .U) Y.b=true)(hct:Zbv (Yh.c.set i .U) Y.c=true)(hr:Yh.r=Y.r) :
  DS K EX Γ Y (ZnI K C i tb th) (ZmI L i gb gh):=fun B H0 H σ ρ F D A d=>by
 obtain⟨F1,f1,A1⟩:=A.weak hs
 have hF:=Zkr ho A1
 have AN:=A1.near hF
 refine hloc _ D σ H (hb (ZmS K C i th D σ) B H H σ ρ F1 D AN ?_)
 have frm0:∀{H' F'},Frm H F1 H' F'->Frm H F H' F':=fun {H' F'} fr=>(Frm.of (Z9.refl _) f1).trans fr
 unfold ZmI at d
 cases e:gb ρ with
 |next ρ1=>rw[e] at d;exact fun σ' H' F' fr A'=>d σ' H' F' (frm0 fr) (A'.far A.same A.own)
 |brk ρ1=>rw[e] at d;exact fun σ' H' F' fr A'=>d σ' H' F' (frm0 fr) (A'.far A.same A.own)
 |cont ρ1=>rw[e] at d;exact fun σ' H' F' fr A'=>d σ' H' F' (frm0 fr) (A'.far A.same A.own)
 |ret x =>
  rw[e] at d
  refine fun v H' s r=>d v H' (A.same.trans s) ?_
  cases hk:Y.r with
  |P=>rw[hk] at r;exact r
  |F=>rw[hk] at r;obtain⟨G,r1,r2⟩:=r;exact⟨G,r1,fun a ha=>A.same.free (r2 a ha)⟩
  |T=>rw[hk] at r;exact Rep.mono (fun a us s r=>⟨r,s.elim .inl fun z=>.inr (A.same.free z)⟩) (fun a us r=>r) r
  |Z=>rw[hk] at r;exact Rep.mono (fun a us s r=>⟨r,s.elim .inl fun z=>.inr (A.same.free z)⟩) (fun a us r=>r) r
  |A=>rw[hk] at r;exact Rep.mono (fun a us s r=>⟨r,s.elim .inl fun z=>.inr (A.same.free z)⟩) (fun a us r=>r) r
  |N=>rw[hk] at r;obtain⟨y,a,s,xs,G1,G2,r1,r2,r3,r4,r5,r6⟩:=r;exact⟨y,a,s,xs,G1,G2,r1,r2,r3,r4,fun b hb=>A.same.free (r5 b hb),fun b hb=>A.same.free (r6 b hb)⟩
  |M=>rw[hk] at r;obtain⟨y,a0,x0,a1,x1,a2,x2,r1,r2,r3,r4,r5,r6,r7,r8,r9⟩:=r;exact⟨y,a0,x0,a1,x1,a2,x2,r1,r2,r3,r4,r5,r6,A.same.free r7,A.same.free r8,A.same.free r9⟩
 |bad=>rw[e] at d;exact d
 |exc q =>
  rw[e] at d
  dsimp only at d
  by_cases hq:q.1∈L
  ·rw[if_pos hq] at d
   intro H' sm C' k hC' hk
   refine⟨hL q.1 hq C' hC',k,rfl,fun ea oe hea hc hdn hnc=>?_⟩
   have s1:Z9 H' (upd H' ea (.frz oe (.own ea))):=Z9.newO hea
   have s2:Z9 H (upd H' ea (.frz oe (.own ea))):=sm.trans s1
   have A2:Ag K B H0 (upd H' ea (.frz oe (.own ea))) σ Γs ρ F1 []:=A1.grow s2
   have key:∀S:Addr->Prop,PV.flat (Zll q)=true/\Rep K (upd H' ea (.frz oe (.own ea))) S (Zll q) (.ref ea):=fun S=>by
    obtain⟨qn,qv⟩:=q
    cases qv with
    |non =>
     have hk:H' k=none:=hk
     rcases hdn with ⟨z,_⟩|⟨_,fs,z⟩
     ·exact⟨rfl,ea,oe,C',rfl,⟨ZE,trivial⟩,hc,z,hnc,hC'⟩
     ·rw[hk] at z;cases z
    |int i =>
     obtain⟨fs,z1,z2⟩:=(show ∃fs,H' k=some (.xd fs)/\fs=[(("at":Str),V.int i)] from hk)
     rcases hdn with ⟨_,z⟩|⟨z,_⟩
     ·rw[z,hea] at z1;cases z1
     ·exact⟨rfl,ea,oe,C',k,fs,rfl,⟨ZE,trivial⟩,⟨s1 _ _ z1,trivial⟩,hc,z,hnc,hC',z2⟩
    |_=>exact hk.elim
   have A3:=Ag.put (i:=i) (m:=.P) (x:=Zll q) (v:=.ref ea) (G:=[]) (R:=[]) A2 hi (by simp) ⟨rfl,_,rfl,(key fun _=>True).1,(key _).2⟩
   refine hh B H0 _ _ _ _ (unE D i) A3 ?_
   have fr3:Frm H F (upd H' ea (.frz oe (.own ea))) (Qo F1 i []):=frm0 (Zb4 (G:=[]) s2 (fun _ _ h=>h) (by simp))
   cases e2:gh (ρ.set i (Zll q)) with
   |next ρ1 =>
    rw[e2] at d
    intro σ' H2 F2 fr A'
    obtain⟨F4,f4,A4⟩:=A'.unset i hn
    exact d _ H2 F4 (fr3.trans (fr.trans (Frm.of (Z9.refl _) f4))) A4
   |brk ρ1 =>
    rw[e2] at d
    intro σ' H2 F2 fr A'
    obtain⟨F4,f4,A4⟩:=A'.unset i hbk
    exact d _ H2 F4 (fr3.trans (fr.trans (Frm.of (Z9.refl _) f4))) A4
   |cont ρ1 =>
    rw[e2] at d
    intro σ' H2 F2 fr A'
    obtain⟨F4,f4,A4⟩:=A'.unset i hct
    exact d _ H2 F4 (fr3.trans (fr.trans (Frm.of (Z9.refl _) f4))) A4
   |ret x=>rw[e2] at d;exact fun v H2 s r=>d v H2 s (hr▸r)
   |exc q2=>rw[e2] at d;exact d
   |bad=>rw[e2] at d;exact d
  ·rw[if_neg hq] at d;exact d.elim
end
noncomputable def ZnH(K:W.Frag)(n:Str):Bool:=match PySem.W.nsIn K mainGlobals n with
 |some (some (.ref C))=>PySem.W.exOk K C&&(PySem.W.kitOne K (.type "NoneType") (.ref C)==some false)&&(PySem.W.kitOne K (.ref C) (.type "ValueError")==some true)
 |_=>false
noncomputable def ZnG(K:W.Frag)(q:Str×Str×Bool):Bool:=match PySem.W.nsIn K mainGlobals q.1,PySem.W.nsIn K mainGlobals q.2.1 with
 |some (some (.ref D)),some (some (.ref C))=>(PySem.W.kitOne K (.ref D) (.ref C)==some q.2.2)&&(PySem.W.exmOne K (.ref D) (.ref C)==some q.2.2)
 |_,_=>false
noncomputable def ZjM(K:W.Frag)(ns:List Str)(ss:List (Str×Str×Bool)):Bool:=(PySem.W.kitOne K (.type "NoneType") (.type "ValueError")==some false)&&(ns.all (ZnH K)&&ss.all (ZnG K))
section
variable {K:W.Frag}{ns:List Str}{ss:List (Str×Str×Bool)}{n c:Str}
theorem Jp(h:ZjM K ns ss=true)(hn:n∈ns):∃C,Za6 K n C/\True/\PySem.W.exOk K C=true/\PySem.W.kitOne K (.type "NoneType") (.ref C)=some false/\PySem.W.kitOne K (.ref C) (.type "ValueError")=some true:=by
 simp only[ZjM,Bool.and_eq_true] at h
 have:=Zxz.mp h.2.1 n hn
 unfold ZnH at this
 split at this
 ·rename_i C e
  simp only[Bool.and_eq_true,beq_iff_eq] at this
  exact⟨C,e,trivial,this.1.1,this.1.2,this.2⟩
 ·cases this
noncomputable def ZjN(K:W.Frag)(ns:List Str):Bool:=ns.all fun n=>match PySem.W.nsIn K mainGlobals n with
 |some (some (.ref C))=>PySem.W.excIn K C Zn7 "ValueError.__new__"
 |_=>false
theorem Ud(h:ZjN K ns=true)(hn:n∈ns):∃C,Za6 K n C/\PySem.W.excIn K C Zn7 "ValueError.__new__"=true:=by
 have:=Zxz.mp h n hn
 split at this
 ·rename_i C e
  exact⟨C,e,this⟩
 ·cases this
theorem Za6.inj{C D:Addr}(a:Za6 K n C)(b:Za6 K n D):C=D:=by have z:=a.symm.trans b;simpa using z
theorem ZhT(h:ZjM K ns ss=true){b:Bool}(hm:(n,c,b)∈ss){D C:Addr}(hD:Za6 K n D)(hC:Za6 K c C):PySem.W.kitOne K (.ref D) (.ref C)=some b/\PySem.W.exmOne K (.ref D) (.ref C)=some b:=by
 simp only[ZjM,Bool.and_eq_true] at h
 have:=Zxz.mp h.2.2 _ hm
 unfold ZnG at this
 have hD':PySem.W.nsIn K mainGlobals n=some (some (.ref D)):=hD
 have hC':PySem.W.nsIn K mainGlobals c=some (some (.ref C)):=hC
 simp only[hD',hC',Bool.and_eq_true,beq_iff_eq] at this
 exact this
theorem ZhU{L:List Str}{C:Addr}(h:ZjM K ns ss=true)(hC:Za6 K c C)(hL:(L.all fun n=>ss.contains (n,c,true))=true):∀n∈L,∀D,Za6 K n D->PySem.W.exmOne K (.ref D) (.ref C)=some true:=fun n hn D hD=>by
 have:=Zxz.mp hL n hn
 exact(ZhT h (ZxM.mp this) hD hC).2
end
def ZfE(K:W.Frag)(n m qual:Str)(st:Stmt):Prop:=∃C f fd,Za6 K n C/\PySem.W.findIn K (.ref C) m=some (some (.ref f))/\PySem.W.typeIn K (.ref f)=some (.type "function")/\Fun K m qual st f fd
theorem Zkf{X:Cx}:ZhO X (fun _=>E0):=fun _ _ _ _ _ _ _ h=>by obtain⟨_,_,_,_,_,_,q⟩:=h;exact q.elim
section
variable {K:W.Frag}{n:Nat}{m:List PV->Rr PV}{ta:TA}{Γ Γ':List Md}{fa:List PV->Rr (List PV)}
theorem Zo3(hn:Len fa n)(ha:DAA K X0 Γ Γ' ta fa):DE K X0 Γ Γ' .F (ZdO (spF K n .F (W1 K) m) (fun _=>E0) ta) (fun ρ=>(fa ρ).bind m):=ZbG (E:=E0) (W:=W1 K) (fun σ H Q h=>h) (fun e H' h=>h.elim) hn ha
end
noncomputable def Zlw(L:List Str)(i:Nat)(gh:List PV->RS)(ρ:List PV)(r:RS):RS:=match r with
 |.exc e=>if e.1∈L then gh (ρ.set i (Zll e)) else .bad
 |r=>r
@[simp] theorem ZjS{L:List Str}{i:Nat}{gb gh:List PV->RS}{ρ:List PV}:ZmI L i gb gh ρ=Zlw L i gh ρ (gb ρ):=by
 unfold ZmI Zlw
 cases gb ρ<;>rfl
@[simp] theorem ZhY{L:List Str}{i:Nat}{gh:List PV->RS}{ρ:List PV}{x:PV}:Zlw L i gh ρ (.ret x)=.ret x:=rfl
@[simp] theorem ZhZ{L:List Str}{i:Nat}{gh:List PV->RS}{ρ:List PV}{n:Str}:Zlw L i gh ρ (.exc (n,.non))=if n∈L then gh (ρ.set i (.exc n)) else .bad:=rfl
theorem Zad{L:List Str}{n:Str}(h:n∈L):U1 L (.exc n)=.ok (.str n):=by unfold U1;simp only[if_pos h]
section
end
theorem ZgA{x:Str}(h:PyData.canLay0 (.str x)=true):okD (.str x)=true:=by simp[okD,PV.noX,PV.dat,PyData.depth,h]
theorem VT{g:Bool->Bool}{a b:Str}(ha:PyData.canLay0 (.str a)=true)(hb:PyData.canLay0 (.str b)=true):ZbM g (.str a) (.str b)=.ok (.bl (g (a==b))):=by
 unfold ZbM
 rw[ZgA ha,ZgA hb]
 simp only[Bool.and_self,if_true,PV.dat,PyData.eqv]
section
end
theorem Z3{ns ms:List Int}:ns.map PV.int=ms.map PV.int ↔ ns=ms:=⟨UZ,fun h=>by rw[h]⟩
noncomputable def orX(o:Option Str)(x:PV):Rr PV:=match o with
 |none=>.ok x
 |some n=>.exc (n,.non)
theorem Qa{b:PV->List PV->RS}{xs:List PV}{ρ:List PV}{W:RS}(hw:Zfv b xs ρ=W)(I:Nat->List PV->Prop)(h0:I 0 ρ)(h:∀i x ρ,xs[i]?=some x->I i ρ->(b x ρ).good (I (i+1))) :
  ∃ρ',W=.next ρ'/\I xs.length ρ':=by
 obtain⟨ρ',h1,h2⟩:=ZiG I h0 h
 exact⟨ρ',hw.symm.trans h1,h2⟩
theorem Jg{c:List PV->Rr Bool}{b:List PV->RS}{ρ:List PV}{W:RS}(hw:Vh c b ρ=W)(N:Nat)(I:Nat->List PV->Prop)(h0:I 0 ρ)(hs:∀i ρ,i<N->I i ρ->c ρ=.ok true/\(b ρ).good (I (i+1)))(he:∀ρ,I N ρ->c ρ=.ok false) :
  ∃ρ',W=.next ρ'/\I N ρ':=by
 subst hw
 have key:∀m i ρ,N=i+m->I i ρ->∃ρ',VM c b (m+1) ρ=some (.next ρ')/\I N ρ':=by
  intro m
  induction m with
  |zero =>
   intro i ρ hl hI
   obtain rfl:N=i:=by lia
   refine⟨ρ, ?_,hI⟩
   unfold VM
   rw[he ρ hI]
  |succ m ih =>
   intro i ρ hl hI
   obtain⟨h1,h2⟩:=hs i ρ (by lia) hI
   obtain⟨ρ',h3,h4⟩:=RS.good_ex h2
   obtain⟨ρ2,h5,h6⟩:=ih (i+1) ρ' (by lia) h4
   refine⟨ρ2, ?_,h6⟩
   unfold VM
   rw[h1]
   rcases h3 with h3|h3<;>(rw[h3];exact h5)
 obtain⟨ρ',h1,h2⟩:=key N 0 ρ (by lia) h0
 exact⟨ρ',ZbP h1,h2⟩
theorem Zep{f:PV->Rr PV}{g:Int->Int}{ns:List Int}(h:∀z∈ns,f (.int z)=.ok (.int (g z))):Zay f (ns.map PV.int)=.ok ((ns.map g).map PV.int):=by
 induction ns with
 |nil=>rfl
 |cons n ns ih =>
  simp only[Zxf,Zay,h n (by simp),Rr.bind_ok,ih fun z hz=>h z (by simp[hz])]
theorem Zks{f:PV->Rr PV}{g:Int->Bool}{ns:List Int}(h:∀z∈ns,f (.int z)=.ok (.bl (g z))):Zay f (ns.map PV.int)=.ok ((ns.map g).map PV.bl):=by
 induction ns with
 |nil=>rfl
 |cons n ns ih =>
  simp only[Zxf,Zay,h n (by simp),Rr.bind_ok,ih fun z hz=>h z (by simp[hz])]
theorem ZgQ{f:PV->Rr PV}{g:Nat->Int}{lo:Int}{n:Nat}(h:∀i,i<n->f (.int (lo+(i:Nat)))=.ok (.int (g i))):Zay f (ZeV lo n)=.ok (((List.range n).map g).map PV.int):=by
 unfold ZeV
 have:∀l:List Nat,(∀i∈l,i<n)->Zay f (l.map fun(k:Nat)=>PV.int (lo+(k:Int)))=.ok ((l.map g).map PV.int):=by
  intro l
  induction l with
  |nil=>intro _;rfl
  |cons a l ih =>
   intro hl
   simp only[Zxf,Zay,h a (hl a (by simp)),Rr.bind_ok,ih fun i hi=>hl i (by simp[hi])]
 exact this _ fun i hi=>ZxQ.mp hi
theorem Zef(bs:List Bool):Zma [.lst (bs.map PV.bl)]=.ok (.bl (bs.all id)):=by simp only[Zma,ZhF]
theorem ZkZ{ns:List Int}{p:Int->Prop}[DecidablePred p]:(ns.map fun z=>decide (p z)).all id=decide (∀x∈ns,p x):=by
 rw[Bool.eq_iff_iff,Zxz,decide_eq_true_iff]
 simp
theorem Zm8{ns:List Int}{h:Int}(h0:0<=h):ZhR (ns.map PV.int) none (some h)=(ns.take h.toNat).map PV.int:=by
 unfold ZhR HT.sIx
 simp only[Zxc,List.drop_zero,Nat.sub_zero]
 rw[if_neg (by lia),<- List.map_take]
 congr 1
 rw[List.take_eq_take_iff];lia
theorem ZiS{ns:List Int}{l:Int}(h0:0<=l):ZhR (ns.map PV.int) (some l) none=(ns.drop l.toNat).map PV.int:=by
 unfold ZhR HT.sIx
 simp only[Zxc]
 rw[if_neg (by lia),<- List.map_drop,<- List.map_take]
 congr 1
 rw[Zyl (by simp)]
 by_cases h:l.toNat<=ns.length
 ·rw[Nat.min_eq_left h]
 ·rw[ZxJ (by lia),ZxJ (by lia)]
theorem ZlY{i j:Int}(h1:-(10^80)<=i)(h2:i<=10^80)(h3:-(10^80)<=j)(h4:j<=10^80):Zno (.int i) (.int j)=.ok (.int (i*j)):=Zkh (ZkM 80 80 (by lia) (by lia))
theorem Zip{k:Int}{z:Int}(h1:-(2^63)<=k)(h2:k<=1000000):ZlX [.int z] (.int k)=.ok (.lst ((List.replicate k.toNat z).map PV.int)):=by
 have:=Zgu (ns:=[z]) (k:=k) (by simp;lia) h1 (by lia)
 simp only[Zxf,ZxT] at this
 rw[this,List.flatten_replicate_singleton]
theorem Ziy{ns:List Int}(h:ns≠[]):pIx (.lst (ns.map PV.int)) (.int (-1))=.ok (.int (ns.getD (ns.length-1) 0)):=by
 have hl:0<ns.length:=Zyb.mpr h
 have:atI (ns.map PV.int) (-1)=some (.int (ns.getD (ns.length-1) 0)):=by
  unfold atI ixN
  rw[if_neg (by lia),Zxc,if_pos (by lia)]
  show (ns.map PV.int)[(-1+(ns.length:Int)).toNat]?=_
  rw[show (-1+(ns.length:Int)).toNat=ns.length-1 by lia,Zxm,Zxa (by lia),ZwZ,Zxa (by lia)]
  rfl
 simp only[pIx,this]
theorem Zi2{x:PV}:orX none x=.ok x:=rfl
theorem Zi1{x:PV}{n:Str}:orX (some n) x=.exc (n,.non):=rfl
theorem ZgJ{ns:List Int}{z:Int}(h:ns.length<1000000):newF (ns.map PV.int++[.int z])=.ok (.lst ((ns++[z]).map PV.int)):=Zem (ms:=[z]) (by simp only[Zxp,Zx9,Zxq];lia)
theorem ZjR{L:List Str}{i:Nat}{gh:List PV->RS}{ρ:List PV}{n:Str}(h:n∈L):Zlw L i gh ρ (.exc (n,.non))=gh (ρ.set i (.exc n)):=by rw[ZhZ,if_pos h]
theorem Zgg{n:Nat}:List.replicate (n+1) PV.non=PV.non::List.replicate n PV.non:=rfl
theorem Zgf:List.replicate 0 PV.non=[]:=rfl
theorem Zkj{a b:PV}:ZfB [.tup [a,b]]=.ok (.int 2):=rfl
theorem Zki{a b c:PV}:ZfB [.tup [a,b,c]]=.ok (.int 3):=rfl
section
end
theorem Zhl{a:Str}{b c:Int}:grd (.tup [.str a,.int b,.int c])=.ok (.tup [.str a,.int b,.int c]):=rfl
theorem Zkk{g:Bool->Bool}{ns:List Int}:ZbM g (.lst (ns.map PV.int)) (.lst [])=.ok (.bl (g (decide (ns=[])))):=Zbq ns []
section
variable {X:Cx}{pins:List (Addr×Obj)}{σ:St}{H:Hp}{s:Shared}{h':Heap}
theorem Inv.adoptT{D:Addr}{ys:List V}{its:List Value}(I:Inv X pins σ H s)(hn:H D=none)(h1:X.s₀.heap.objs.size<=D)(hL:D≠X.env.locals)(hc:∀x c,X.env.cells.lookup x=some c->c≠D)(hp:∀p∈X.pn++pins,p.1≠D)(ho:s.heap.get? D=some { cls:=.type "tuple",data:=.seq its.toArray })(r:ZU ys its)(hz:ys.length<=sizeLine):Inv X pins σ (upd H D (.tup ys)) s:=by
 refine I.step (h':=s.heap) (g':=s.gens) (d':=s.drawn) (t':=s.toks) (ch:=[D]) (fun b hb=>?_) (fun b o _ _ _ e _=>e) (fun b o _ _ _ e _=>⟨o.slots,e⟩) (fun b o hb _ e=>?_) (fun b o _ e=>⟨o,e⟩)
  (fun b xs e=>?_) (fun b o u e=>?_) (fun b ps e=>⟨#[], ?_⟩) (fun m hm=>hm) (fun b u e=>?_) I.bare
 ·have e:b=D:=by simpa using hb
  subst e
  exact⟨.inr h1,hL,hc,hp⟩
 ·rw[Zv (by simpa using hb)];exact e
 ·rw[Zv (Z2 e hn)];exact e
 ·rw[Zv (Z2 e hn)];exact e
 ·rw[Zv (Z2 e hn),e];simp
 ·by_cases hb:b=D
  ·subst hb
   rw[ZE] at e;cases e
   exact⟨hz,its,r,_,ho,rfl,_,rfl⟩
  ·rw[Zv hb] at e
   exact(I.hok b u e).stay (fun c v _ q=>q) (fun c q=>by rw[Zv (Z2 q hn)];exact q) fun c xs q=>by rw[Zv (Z2 q hn)];exact q
end
section
variable {prog:Program}{w:World}{A:Around}{R:Result->Shared->Prop}{s:Shared}
theorem UD{elt target iter:Expr}{ifs:List Expr}{scope:Scope}{pos:Pos}{it acc:Value}{env:Env}(I:Nat->Shared->Prop)(turn:∀n s,I n s->wpAny (model prog w) A (pyNext it) (fun r s₁=>match r with
   |none=>R (.ok .next) s₁
   |some v=>wpAny (model prog w) A (letOwnedTupleGo target it v) (fun _ s₁'=>wpAny (model prog w) A (assign target env v) (fun _ s₂ =>
     wpAny (model prog w) A (forIn ifs true fun c r=>if r=true then do let ok <- isTrue c env (eval c env);pure (ForInStep.yield ok) else pure (ForInStep.yield r)) (fun ok s₃ =>
      if ok=true then wpAny (model prog w) A (eval elt env) (fun x s₄ =>
       wpAny (model prog w) A (call (.builtin "list.append") [acc,x]) (fun _ s₅=>∃m,m<n/\I m s₅) (notedBy (model prog w) A env fun e s'=>R (.error e) s') s₄) (notedBy (model prog w) A env fun e s'=>R (.error e) s') s₃
      else ∃m,m<n/\I m s₃) (notedBy (model prog w) A env fun e s'=>R (.error e) s') s₂) (notedBy (model prog w) A env fun e s'=>R (.error e) s') s₁') (notedBy (model prog w) A env fun e s'=>R (.error e) s') s₁) (notedBy (model prog w) A env fun e s'=>R (.error e) s') s)(n:Nat)(h:I n s) :
  codeAny (model prog w) A (.compLoop (.ListComp elt [⟨target,iter,ifs,0⟩] scope pos) 0 it acc env) R s:=by
 refine codeAny_loop rfl I (fun n s hI=>?_) n h
 show wpAny _ A ((compTurn (.ListComp elt [⟨target,iter,ifs,0⟩] scope pos) 0 it acc env).onRaise (fun x=>do noteFrame x env;theTreesLotGoes x)) _ _ s
 refine wpAny_noted ?_
 rw[compTurn_list]
 refine wpAny_bind (wpAny_standAt (wpAny_bind (wpAny_mono (turn n s hI) (fun r s₁ h₁=>?_) fun _ _ h'=>h')))
 cases r with
 |none=>exact wpAny_pure h₁
 |some v =>
  refine wpAny_bind (wpAny_mono h₁ (fun _ s₁' h₁'=>?_) fun _ _ h'=>h')
  refine wpAny_bind (wpAny_mono h₁' (fun _ s₂ h₂=>wpAny_bind (wpAny_mono h₂ (fun ok s₃ h₃=>?_) fun _ _ h'=>h')) fun _ _ h'=>h')
  cases ok with
  |false=>exact wpAny_pure ⟨rfl,h₃⟩
  |true =>
   exact wpAny_bind (wpAny_bind (wpAny_mono h₃ (fun x s₄ h₄=>wpAny_bind (wpAny_mono h₄ (fun _ s₅ h₅=>wpAny_pure (wpAny_pure ⟨rfl,h₅⟩)) fun _ _ h'=>h')) fun _ _ h'=>h'))
end
noncomputable def Za4(xs:List Str)(y:Str):Str:=if xs.contains y then "" else y
noncomputable def Uy(X:Cx)(scope:Scope)(xs:List Str)(C:Addr)(ex:List Addr)(s₂:Shared)(H₂:Hp):Cx:=
 { X with N:=X.N.map (Za4 xs)++xs,s₀:=s₂,H₀:=H₂,env:=compEnvC scope (Zh5 scope X.env) C X.env,outer:=X.stack,ex:=ex,fn:=fun _=>false,pn:=[],xe:=fun _ _=>False }
noncomputable abbrev TB:=V->Hp->List V->Prop
noncomputable def tB1:TB:=fun x _ vs=>vs=[x]
noncomputable def tB2(K:W.Frag):TB:=fun x H vs=>∃t a b,x=.ref t/\SqT K H t [a,b]/\vs=[a,b]
def PB(X:Cx)(scope:Scope)(xs:List Str)(tg:Expr)(Bd:TB):Prop:=∀C s₂ H₂ ex,∀(pins:List (Addr×Obj)) (s:Shared) (σ σx:St) (H:Hp) (x:V) (u:Value) (vs:List V) (E:Value->Shared->Prop),σ.length=X.N.length->σx.length=xs.length ->
 Inv (Uy X scope xs C ex s₂ H₂) pins (σ++σx) H s->J2 x u->Bd x H vs->wpAny (model X.prog X.w) X.A (assign tg (Uy X scope xs C ex s₂ H₂).env u) (fun _ s'=>Inv (Uy X scope xs C ex s₂ H₂) pins (σ++vs.map some) H s') E s
def PCi(X:Cx)(ifs:List Expr)(t:TT):Prop:=∀(pins:List (Addr×Obj)) (s:Shared) (σ:St) (H:Hp) (Q:Bool->Hp->Prop) (E:Value->Shared->Prop),Inv X pins σ H s->t σ H Q ->
 wpAny (model X.prog X.w) X.A (forIn ifs true fun c r=>if r=true then do let ok <- isTrue c X.env (eval c X.env);pure (ForInStep.yield ok) else pure (ForInStep.yield r)) (TP X pins σ Q) E s
noncomputable def Zl1:TT:=fun _ H Q=>Q true H
theorem Zec{X:Cx}:PCi X [] Zl1:=fun pins s σ H Q E I h=>wpAny_tests_nil ⟨_,I,h⟩
def ZfV(σ:St)(Bd:TB)(tt:TT)(te:TE)(J:It)(H1:Hp)(Q:VK):Prop:=∃W:Nat->Nat->List V->Hp->Prop,(∃m,W 0 m [] H1)/\∀i m ys H2,W i m ys H2->ys.length<=sizeLine /\
 ((J.stop i H2/\∀p,H2 p=none->Q (.ref p) (upd H2 p (.lst ys))) \/
  (J.go i H2/\∃N:List V->Hp->Prop,(∀ys' H',N ys' H'->∃m',m'<m/\W (i+1) m' ys' H')/\∀x H3,J.yld i H2 x H3->∃vs,Bd x H3 vs/\tt (σ++vs.map some) H3 fun b H4=>if b=true then te (σ++vs.map some) H4 fun y H5=>N (ys++[y]) H5 else N ys H4))
noncomputable def ZaB(wi:TI)(Bd:TB)(tt:TT)(te:TE):TE:=fun σ H Q=>wi σ H fun J H1=>ZfV σ Bd tt te J H1 Q
noncomputable def JU(N:List Str)(sc scope:Scope)(xs:List Str):Bool:=xs.all (fun x=>Zd3 [] sc scope x)&&decide (N.map (Za4 xs)++xs).Nodup&&!xs.isEmpty&&(N.all fun y=>xs.contains y || !(scope.names.lookup y==some .local))&&(scope.names.lookup (Str.ofString "")==none)
structure CkN(N:List Str)(sc scope:Scope)(xs:List Str):Prop where
 scs:∀x∈xs,Zbb [] sc scope x
 nd:(N.map (Za4 xs)++xs).Nodup
 ex:∃x,x∈xs
 noN:∀y∈N,y ∉ xs->scope.names.lookup y≠some .local
 noE:scope.names.lookup (Str.ofString "")=none
theorem VI{N:List Str}{sc scope:Scope}{xs:List Str}(h:JU N sc scope xs=true):CkN N sc scope xs:=by
 unfold JU at h
 simp only[Bool.and_eq_true,Zxz,decide_eq_true_eq,Bool.not_eq_true',Bool.or_eq_true,beq_iff_eq,beq_eq_false_iff_ne] at h
 obtain⟨⟨⟨⟨h1,h2⟩,h3⟩,h4⟩,h5⟩:=h
 refine⟨fun x hx=>Zbb.of (h1 x hx),h2, ?_,fun y hy hn=>?_,h5⟩
 ·cases xs with
  |nil=>simp at h3
  |cons a l=>exact⟨a,by simp⟩
 ·rcases h4 y hy with z|z
  ·exact absurd (ZxM.mp z) hn
  ·exact z
section
variable {X:Cx}{pins:List (Addr×Obj)}{σ:St}{s₂:Shared}{H₂:Hp}{scope:Scope}{x:Str}{xs:List Str}{tg elt iter:Expr}{ifs:List Expr}{pos:Pos}{Bd:TB}{tt:TT}{te:TE}{J:It}{fp:List Addr}{it:Addr}{tn:Nat->Heap->Prop}
theorem JH{N0:List Str}(sc:Zbb N0 X.env.scope scope x)(ok:X.Ok){y:Str}{c:Addr}(h:(Zh5 scope X.env).lookup y=some c):X.env.cells.lookup y=some c:=by
 have hm:=PySem.mem_of_lookup h
 unfold Zh5 at hm
 obtain⟨p,hp,e⟩:=Zxr.mp hm
 have hp':=Zyw.mp (List.mem_reverse.mp hp)
 obtain⟨e1,e2⟩:=Prod.mk.inj e
 have hk:=sc.fr p hp'.1 (beq_iff_eq.mp hp'.2)
 obtain⟨c',hc'⟩:=ok.has p.1 hk
 rw[hc'] at e2
 rw[<- e1,hc']
 exact congrArg some e2
theorem ZkP{N0:List Str}(I:Inv X pins σ H₂ s₂)(sc:Zbb N0 X.env.scope scope x){C:Addr}(hC:s₂.heap.objs.size<=C)(ff:∀b∈fp,ZhQ X pins H₂ b)(fo:∀b∈fp,∃o,s₂.heap.get? b=some o):(Uy X scope xs C fp s₂ H₂).Ok where
 mod:=I.ok.mod
 kind:=sc.kind
 glob:=I.ok.glob
 blt:=I.ok.blt
 above:=hC
 inj:=fun y z c h1 h2=>I.ok.inj y z c (JH sc I.ok h1) (JH sc I.ok h2)
 has:=fun y hy=>by
  have hy':(relabel scope X.env).names.lookup y=some .cell\/(relabel scope X.env).names.lookup y=some .free:=hy
  have hf:scope.names.lookup y=some .free:=by
   rcases hy' with z|z
   ·exact(ZR sc.nc z).2 (.inl rfl)
   ·exact(ZR sc.nc z).2 (.inr rfl)
  exact ZeD hf
 cab:=fun y c h=>by cases h
 hd:=I.ok.hd
 frames:=I.ok.frames
 stk:=.inl rfl
 exf:=fun b hb=>by
  obtain⟨f0,f1,f2,f3,f4,f5⟩:=ff b hb
  obtain⟨o,ho⟩:=fo b hb
  exact⟨Zxv (Zxj (Heap.lt_size ho) hC),fun y c h=>f4 y c (JH sc I.ok h)⟩
 bs:=I.bs
 bsz:=Zx2 I.ok.bsz I.sz
 noex:=fun b o e hb=>by
  obtain⟨f0,f1,f2,f3,f4,f5⟩:=ff b hb
  rcases f3 with z|z
  ·exact I.ok.noex b o e z
  ·exact absurd (Zxj (Heap.lt_size e) (Zx2 I.ok.bsz z)) (ZxE _)
 exfs:=fun b hb z=>by
  obtain⟨f0,f1,f2,f3,f4,f5⟩:=ff b hb
  rcases Zxd.mp (I.stkSub b z) with e|e
  ·exact f1 e
  ·exact f2 e
 funs:=I.stack
 frf:=I.stkFree
theorem ZcE{E:Value->Shared->Prop}{Q:VK}{RR:Value->Addr->Result->Shared->Prop}(I:Inv X pins σ H₂ s₂)(ck:CkN X.N X.env.scope scope xs)(hx:x∈xs)(hNd:X.N.Nodup)(hc:X.calm=true)(T:ZjI X.prog X.w X.K tg J fp it tn)(st:tn 0 s₂.heap)(ff:∀b∈fp,ZhQ X pins H₂ b)(hw:ZfV σ Bd tt te J H₂ Q)(hb:PB X scope xs tg Bd)(ht:∀C s₂ H₂ ex,PCi (Uy X scope xs C ex s₂ H₂) ifs tt)(he:∀C s₂ H₂ ex,PE (Uy X scope xs C ex s₂ H₂) elt te)(hvs:∀x H vs,Bd x H vs->vs.length=xs.length)(hRR:∀D C s' H' m',s₂.heap.objs.size<=C->Inv X pins σ H' s'->s'.heap.Ns C m'->H' C=none->Q (.ref D) H'->RR (.ref D) C (.ok .next) s') :
  wpAny (model X.prog X.w) X.A (newList []) (fun acc s₃=>wpAny (model X.prog X.w) X.A (newFunctionEnv scope X.env.globals (Zh5 scope X.env) [] X.env.qual none .none (some X.env)) (fun cenv s₄ =>
   codeAny (model X.prog X.w) X.A (.compStart (.ListComp elt [⟨tg,iter,ifs,0⟩] scope pos) 0 (.ref it) acc { cenv with scope:=relabel scope X.env }) (RR acc cenv.locals) s₄) E s₃) E s₂:=by
 have sc:=ck.scs x hx
 refine wpAny_newObj_type (wpAny_newFunctionEnv sc.nc (by intro y hy;simp at hy) (fun h₁ hns₁ hsb₁=>?_) sc.kind)
 dsimp only at hns₁ hsb₁ ⊢
 generalize hP2:s₂.heap.push { cls:=.type "list",dict:=none,data:=.seq ([]:List Value).toArray }=P2 at hns₁ hsb₁ ⊢
 have hCs:P2.objs.size=s₂.heap.objs.size+1:=by rw[<- hP2,Heap.size_push]
 have hCle:s₂.heap.objs.size<=P2.objs.size:=by rw[hCs];exact Nat.le_succ _
 have hDC:s₂.heap.objs.size≠P2.objs.size:=by rw[hCs];exact Zxv (Zyp _)
 generalize hCe:P2.objs.size=C at hns₁ hsb₁ hCs hCle hDC ⊢
 generalize hDe:s₂.heap.objs.size=D at hCs hCle hDC ⊢
 have fo:∀b∈fp,∃o,s₂.heap.get? b=some o:=fun b hb=>let ⟨o,e,_⟩:=T.obj _ _ st b hb;⟨o,e⟩
 have flt:∀b∈fp,b<D:=fun b hb=>by obtain⟨o,e⟩:=fo b hb;rw[<- hDe];exact Heap.lt_size e
 have old:∀b o,s₂.heap.get? b=some o->h₁.get? b=some o:=fun b o e=>by
  have hb:=Heap.lt_size e
  exact hsb₁.extBut b o (Zxv (by rw[hCs];exact ZxW (hDe▸hb))) (Heap.get?_push_of_some _ (hP2▸Heap.get?_push_of_some _ e))
 have hacc:h₁.get? D=some { cls:=.type "list",data:=.seq ([]:List Value).toArray 0 }:=hsb₁.extBut _ _ hDC (Heap.get?_push_of_some _ (hP2▸hDe▸Heap.get?_push_size _ rfl))
 have okB:=ZkP (x:=x) (xs:=xs) (C:=C) I sc (by rw[hDe];exact hCle) ff fo
 have hfreshD:H₂ D=none:=I.hok.fresh (by rw[hDe];exact Zxi _)
 have hfreshC:H₂ C=none:=I.hok.fresh (by rw[hDe];exact hCle)
 have I0:Inv (Uy X scope xs C fp s₂ H₂) [(D,{ cls:=.type "list",data:=.seq ([]:List Value).toArray 0 })] (σ++List.replicate xs.length none) H₂ { s₂ with heap:=h₁,toks:=s₂.toks+([]:List (Str×Value)).length }:=by
  refine⟨okB,rfl,I.bare,Un.kept old,⟨_,hns₁,fun i y v e1 e2 e3=>?_⟩,fun y c e=>?_,hfreshC,fun y c e=>I.freeC y c (JH sc I.ok e),fun p hp=>?_,I.hok.kept old,by simp[Uy,I.len]⟩
  ·have hi:i<σ.length:=by
    by_cases hi:i<σ.length
    ·exact hi
    ·rw[Zxn (by lia)] at e2
     rw[Zyc] at e2
     split at e2<;>cases e2
   rw[Zxk hi] at e2
   have e1':(X.N.map (Za4 xs)++xs)[i]?=some y:=e1
   rw[Zxk (by rw[Zxc,<- I.len];exact hi),Zxm] at e1'
   have lk:scope.names.lookup y=some .local\/scope.names.lookup y=some .free:=by
    have e3':(relabel scope X.env).names.lookup y=some .local\/(relabel scope X.env).names.lookup y=some .cell\/(relabel scope X.env).names.lookup y=some .free:=e3
    rcases e3' with z|z|z
    ·exact .inl ((ZR sc.nc z).1 rfl)
    ·exact .inr ((ZR sc.nc z).2 (.inl rfl))
    ·exact .inr ((ZR sc.nc z).2 (.inr rfl))
   obtain⟨y0,ey0,ey⟩:∃y0,X.N[i]?=some y0/\Za4 xs y0=y:=by
    cases q:X.N[i]? with
    |none=>rw[q] at e1';cases e1'
    |some y0=>rw[q] at e1';exact⟨y0,rfl,Option.some.inj e1'⟩
   have hy0:y0 ∉ xs:=fun z=>by
    have:y=Str.ofString "":=by rw[<- ey];unfold Za4;rw[if_pos (ZxM.mpr z)]
    rw[this,ck.noE] at lk
    rcases lk with z|z<;>cases z
   have ey2:y0=y:=by rw[<- ey];unfold Za4;rw[if_neg (fun z=>hy0 (ZxM.mp z))]
   rw[ey2] at ey0 hy0
   have e1':X.N[i]?=some y:=ey0
   have yN:y∈X.N:=Zx3 e1'
   have e3':(relabel scope X.env).names.lookup y=some .local\/(relabel scope X.env).names.lookup y=some .cell\/(relabel scope X.env).names.lookup y=some .free:=e3
   have hcf:(relabel scope X.env).names.lookup y=some .cell\/(relabel scope X.env).names.lookup y=some .free:=by
    rcases e3' with z|z
    ·exact absurd ((ZR sc.nc z).1 rfl) (ck.noN y yN hy0)
    ·exact z
   have hfree:scope.names.lookup y=some .free:=by
    rcases hcf with z|z
    ·exact(ZR sc.nc z).2 (.inl rfl)
    ·exact(ZR sc.nc z).2 (.inr rfl)
   obtain⟨c,hcl⟩:=ZeD (X:=X) hfree
   have hcx:=JH sc I.ok hcl
   have hvis:=sc.fr _ (PySem.mem_of_lookup hfree) rfl
   obtain⟨m,hn,hl⟩:=I.loc
   obtain⟨u,ru,hlook⟩:=hl i y v e1' e2 (.inr hvis)
   refine⟨u,ru,.inr ⟨hcf,c,hcl, ?_⟩⟩
   rcases hlook with ⟨k,_⟩|⟨k,c',ec,hcell⟩
   ·have k':X.env.scope.names.lookup y=some .local:=k
    have hv':X.env.scope.names.lookup y=some .cell\/X.env.scope.names.lookup y=some .free:=hvis
    rw[k'] at hv'
    rcases hv' with z|z<;>cases z
   ·rw[hcx] at ec;cases ec
    obtain⟨o,ho,hd⟩:=hcell
    exact⟨o,old _ _ ho,hd⟩
  ·obtain⟨v,o,ho,hd⟩:=I.cell y c (JH sc I.ok e)
   exact⟨v,o,old _ _ ho,hd⟩
  ·have e:p=(D,{ cls:=.type "list",data:=.seq ([]:List Value).toArray 0 }):=by simpa[Uy] using hp
   subst e
   exact⟨hacc,hfreshD,hDC,(fun z=>by
    rcases Zxd.mp (I.stkSub D z) with e|e
    ·exact absurd I.lt (by rw[<- e,hDe];exact ZxE _)
    ·exact I.nofs (by rw[hDe];exact Zxi _) e),fun v z=>nomatch z⟩
 obtain⟨W,⟨m0,w0⟩,turn⟩:=hw
 have fpB:∀{H':Hp}{o:Obj},(∀b∈fp,H' b=none)->∀b∈fp,ZhQ (Uy X scope xs C fp s₂ H₂) [(D,o)] H' b:=fun {H' o} hn b hb=>by
  obtain⟨f0,f1,f2,f3,f4,f5⟩:=ff b hb
  obtain⟨g1,g2⟩:=okB.exf b hb
  exact⟨hn b hb,g1,okB.exfs b hb,.inl hb,g2,fun p hp=>by
   have e:p=(D,o):=by simpa[Uy] using hp
   subst e
   exact(Zxv (flt b hb)).symm⟩
 have hσ:σ.length=X.N.length:=I.len
 have loop:∀s₃:Shared,s₃={ s₂ with heap:=h₁,toks:=s₂.toks+([]:List (Str×Value)).length } ->
   codeAny (model X.prog X.w) X.A (.compLoop (.ListComp elt [⟨tg,iter,ifs,0⟩] scope pos) 0 (.ref it) (.ref D) (compEnvC scope (Zh5 scope X.env) C X.env)) (RR (.ref D) C) s₃:=by
  rintro s₃ rfl
  refine UD
   (fun n s'=>∃i ys its k σx H',σx.length=xs.length/\Inv (Uy X scope xs C fp s₂ H₂) [(D,{ cls:=.type "list",data:=.seq (List.toArray its) k })] (σ++σx) H' s'/\tn i s'.heap/\(∀b∈fp,H' b=none)/\ZU ys its/\W i n ys H') ?_ m0
   ⟨0,[],[],0,List.replicate xs.length none,H₂,by simp,I0,T.keep _ _ _ st (fun b hb o e=>old b o e),fun b hb=>(ff b hb).1,.nil,w0⟩
  rintro n s' ⟨i,ys,its,k,σx,H',hσx,I',st',fr',rv,w'⟩
  obtain⟨hz,hcase⟩:=turn i n ys H' w'
  have hpinD:=I'.pin (D,{ cls:=.type "list",data:=.seq (List.toArray its) k }) (by simp[Uy])
  rcases hcase with ⟨stop,q⟩|⟨go,N,hN,step⟩
  ·refine thn (T.done (Uy X scope xs C fp s₂ H₂) rfl rfl rfl hc i _ s' _ H' _ I' (fpB fr') st' stop) fun r s4 ⟨hr,I4⟩=>?_
   subst hr
   have pD:=I4.pin (D,{ cls:=.type "list",data:=.seq (List.toArray its) k }) (by simp[Uy])
   obtain⟨m4,hn4,_⟩:=I4.loc
   have IX:Inv X pins σ H' s4:=I.call' I4.os I4.base I4.hok I4.bare fun b hb=>by
    obtain⟨f0,f1,f2,f3,f4,f5⟩:=ff b hb
    exact⟨f3,f1,f4,f5⟩
   have IX2:=IX.adopt (D:=D) (ys:=ys) (its:=its) (n:=k) hpinD.2.1 (by rw[<- hDe];exact I.sz) (by rw[<- hDe];exact Zy4 I.lt)
    (fun y c e z=>by
     obtain⟨v,o,ho,hd⟩:=I.cell y c e
     have:=Heap.lt_size ho
     rw[hDe,z] at this
     exact ZxE _ this)
    (fun p hp z=>by
     have:=Heap.lt_size (I.pin p hp).1
     rw[hDe,z] at this
     exact ZxE _ this) pD.1 rv hz
   refine hRR D C s4 _ m4 (by rw[hDe];exact hCle) IX2 hn4 ?_ (q D hpinD.2.1)
   rw[Zv (Ne.symm hDC)]
   exact I4.free
  ·refine thn (T.item (Uy X scope xs C fp s₂ H₂) rfl rfl rfl hc i _ s' _ H' _ I' (fpB fr') st' go) fun r s4 ⟨u,hr,h4⟩=>?_
   subst hr
   refine thn h4 fun _ s5 ⟨y,H5,I5,r5,y5,st5,fr5⟩=>?_
   have I5':=I5.pinned (fpB fr5) (T.obj _ _ st5)
   obtain⟨vs,bd5,stp⟩:=step y H5 y5
   refine thn (hb C s₂ H₂ fp _ s5 σ σx H5 y u vs _ hσ hσx I5' r5 bd5) fun _ s6 I6=>?_
   refine thn (ht C s₂ H₂ fp _ s6 _ H5 _ _ I6 stp) fun ok s6' hok=>?_
   obtain⟨H6',I6',q6'⟩:=hok
   have hvl:=hvs _ _ _ bd5
   have stay:∀{s9:Shared}{H9:Hp}{ys':List V}{its':List Value}{k':Nat},True:=fun {_ _ _ _ _}=>trivial
   cases ok with
   |false =>
    rw[if_neg Bool.false_ne_true] at q6' ⊢
    have pD6:=I6'.pin (D,{ cls:=.type "list",data:=.seq (List.toArray its) k }) (by simp[Uy])
    obtain⟨m',hm,w8⟩:=hN _ _ q6'
    refine⟨m',hm,i+1,ys,its,k,vs.map some,H6',by simp[hvl],I6'.pins_of fun p hp=>?_, ?_,fun b hb'=>?_,rv,w8⟩
    ·have e:p=(D,{ cls:=.type "list",data:=.seq (List.toArray its) k }):=by simpa using hp
     subst e
     exact⟨pD6.1,pD6.2.1,pD6.2.2.1,pD6.2.2.2.1,fun v z=>nomatch z⟩
    ·refine T.keep _ _ _ st5 fun b hb' o e=>?_
     exact(I6'.pin (b,o) (Zxb _ (Zxb _ (Vd hb' e)))).1
    ·obtain⟨o,e,d⟩:=T.obj _ _ st5 b hb'
     exact(I6'.pin (b,o) (Zxb _ (Zxb _ (Vd hb' e)))).2.1
   |true =>
   rw[if_pos rfl] at q6' ⊢
   refine wpAny_mono (he C s₂ H₂ fp _ s6' _ H6' _ I6' q6') (fun u7 s7 h7=>?_) fun _ _ f=>f.elim
   obtain⟨v7,H7,I7,r7,n7⟩:=h7
   have pD7:=I7.pin (D,{ cls:=.type "list",data:=.seq (List.toArray its) k }) (by simp[Uy])
   have hlen:=rv.length
   refine append_at (hsz:=by show its.toArray.size<=sizeLine;rw[Zxh,<- hlen];exact hz) pD7.1 fun h8 hs8 hD8=>?_
   obtain⟨m',hm,w8⟩:=hN _ _ n7
   have hD8':h8.get? D=some { cls:=.type "list",data:=.seq (its++[u7]).toArray (k+1) }:=by rw[hD8,List.push_toArray]
   have I8:Inv (Uy X scope xs C fp s₂ H₂) [] (σ++vs.map some) H7 { s7 with heap:=h8 }:=by
    refine(I7.pins_of (pins':=[]) fun p hp=>absurd hp (by simp)).turned (t':=s7.toks) (it:=D) (fun b o hb e=>(hs8.2 b hb).trans e) pD7.2.1 pD7.2.2.1 (.inr (by show s₂.heap.objs.size<=D;rw[hDe];exact Zxi _)) (fun y' c' e' z=>?_) fun p hp=>absurd (show p∈([]:List (Addr×Obj)) from by simpa[Uy] using hp) (by simp)
    obtain⟨v,o,ho,hd⟩:=I.cell y' c' (JH sc I.ok e')
    have:=Heap.lt_size ho
    rw[hDe,z] at this
    exact ZxE _ this
   refine⟨m',hm,i+1,ys++[v7],its++[u7],k+1,vs.map some,H7,by simp[hvl],I8.pins_of fun p hp=>?_, ?_,fun b hb'=>?_,rv.append (.cons r7 .nil),w8⟩
   ·have e:p=(D,{ cls:=.type "list",data:=.seq (its++[u7]).toArray (k+1) }):=by simpa using hp
    subst e
    exact⟨hD8',pD7.2.1,pD7.2.2.1,pD7.2.2.2.1,fun v z=>nomatch z⟩
   ·refine T.keep _ _ _ st5 fun b hb' o e=>?_
    have hpb:=I7.pin (b,o) (Zxb _ (Zxb _ (Vd hb' e)))
    exact(hs8.2 b (Zxv (flt b hb'))).trans hpb.1
   ·obtain⟨o,e,d⟩:=T.obj _ _ st5 b hb'
    exact(I7.pin (b,o) (Zxb _ (Zxb _ (Vd hb' e)))).2.1
 exact codeAny_compStart_list (loop _ rfl) (T.self _ 0 _ _ _ (T.keep _ _ _ st fun b hb o e=>old b o e) (loop _ rfl))
theorem Zdh{px:Pos}(hNd:X.N.Nodup)(hchk:JU X.N X.env.scope scope [x]=true:=by rfl):PB X scope [x] (.Name x px) tB1:=by
 intro C s₂ H₂ ex pins s σ σx H y u vs E hσ hσx I r hb
 have ck:=VI hchk
 have sc:=ck.scs x (by simp)
 have hb:vs=[y]:=hb
 subst hb
 have ndB:=ck.nd
 refine wpAny_assign_Name ?_
 refine UL (X:=Uy X scope [x] C ex s₂ H₂) (i:=X.N.length) (x:=x) (v:=y) I ndB (by simp[Uy]) (.inl (lookup_relabel_local sc.var)) r (fun s6 I6=>?_) (.inr (lookup_relabel_local sc.var))
 obtain⟨o,rfl⟩:∃o,σx=[o]:=by
  cases σx with
  |nil=>simp at hσx
  |cons a l =>
   cases l with
   |nil=>exact⟨a,rfl⟩
   |cons b l=>simp at hσx
 have eσ:(σ++[o]).set X.N.length (some y)=σ++[some y]:=by
  rw[<- hσ];simp
 rw[eσ] at I6
 exact I6
theorem Zke{x y:Str}{px py tp:Pos}{k:Nat}(hNd:X.N.Nodup)(hc:X.calm=true)(hchk:JU X.N X.env.scope scope [x,y]=true:=by rfl):PB X scope [x,y] (.Tuple [.Name x px,.Name y py] k tp) (tB2 X.K):=by
 intro C s₂ H₂ ex pins s σ σx H v u vs E hσ hσx I r hb
 have ck:=VI hchk
 have sx:=ck.scs x (by simp)
 have sy:=ck.scs y (by simp)
 obtain⟨t,a,b,rfl,hq,rfl⟩:=hb
 have ndB:=ck.nd
 obtain⟨o1,o2,rfl⟩:∃o1 o2,σx=[o1,o2]:=by
  match σx,hσx with
  |[a,b],_=>exact⟨a,b,rfl⟩
 have e1:(σ++[o1,o2]).set X.N.length (some a)=σ++[some a,o2]:=by
  rw[<- hσ];simp
 have e2:(σ++[some a,o2]).set (X.N.length+1) (some b)=σ++[some a,some b]:=by
  rw[<- hσ]
  show List.set (σ++([some a,o2]:St)) _ _=_
  rw[List.set_append_right _ _ (Nat.le_succ _)]
  simp
 have g1:PG (Uy X scope [x,y] C ex s₂ H₂) (.Name x px) (Zb3 X.N.length):=Qn ndB (by
  show (X.N.map (Za4 [x,y])++[x,y])[X.N.length]?=some x
  rw[Zxn (by simp)];simp) (.inl (lookup_relabel_local sx.var)) (.inr (lookup_relabel_local sx.var))
 have g2:PG (Uy X scope [x,y] C ex s₂ H₂) (.Name y py) (Zb3 (X.N.length+1)):=Qn ndB (by
  show (X.N.map (Za4 [x,y])++[x,y])[X.N.length+1]?=some y
  rw[Zxn (by simp)];simp) (.inl (lookup_relabel_local sy.var)) (.inr (lookup_relabel_local sy.var))
 have g:PG (Uy X scope [x,y] C ex s₂ H₂) (.Tuple [.Name x px,.Name y py] k tp) (Zoe X.K 2 (Zk2 (Zb3 X.N.length) (Zk2 (Zb3 (X.N.length+1)) Zog))):=ZlQ (X:=Uy X scope [x,y] C ex s₂ H₂) hc (Zeb g1 (Zeb g2 Zka))
 refine wpAny_mono (g pins s _ H _ _ (fun σ' H'=>σ'=σ++[some a,some b]/\H'=H) I r ⟨t,[a,b],rfl,hq,rfl,a,[b],rfl,b,[],rfl,rfl, ?_⟩) (fun _ s' hq'=>?_) fun _ _ z=>z.elim
 ·exact⟨by rw[e1,e2],rfl⟩
 ·obtain⟨σ',H',I',e3,e4⟩:=hq'
  subst e3 e4
  exact I'
theorem Zbm{wi:TI}(hi:PI X tg iter wi)(hb:PB X scope xs tg Bd)(ht:∀C s₂ H₂ ex,PCi (Uy X scope xs C ex s₂ H₂) ifs tt)(he:∀C s₂ H₂ ex,PE (Uy X scope xs C ex s₂ H₂) elt te)(hvs:∀x H vs,Bd x H vs->vs.length=xs.length)(hNd:X.N.Nodup)(hc:X.calm=true)(hclos:closureFor scope X.env=pure (Zh5 scope X.env):=by rfl)(hchk:JU X.N X.env.scope scope xs=true:=by rfl)(hs:∀x,foldedSetIterable iter X.env x=pure x:=by exact fun _=>rfl) :
  PE X (.ListComp elt [⟨tg,iter,ifs,0⟩] scope pos) (ZaB wi Bd tt te):=by
 intro pins s σ H Q I h
 have ck:=VI hchk
 obtain⟨x,hx⟩:=ck.ex
 have sc:=ck.scs x hx
 rw[eval_ListComp]
 refine wpAny_comprehension_free (use:=none) rfl hs hclos sc.kind sc.locs (thn (hi pins s σ H _ I h) fun xv s₁ h₁=>thn h₁ fun itv s₂ h₂=>?_)
 obtain⟨it,fp,tn,J,H2,e,I2,T,st2,f2,q⟩:=h₂
 subst e
 refine ZcE (RR:=fun acc C=>compPost (model X.prog X.w) X.A X.xe none (EP X pins σ Q) acc C) I2 ck hx hNd hc T st2 f2 q hb ht he hvs ?_
 intro D C s' H' m' hC I' hn hC0 hq
 refine⟨m',hn,fun h'' hs''=>⟨.ref D,H', ?_,rfl,hq⟩⟩
 refine I'.turned (t':=s'.toks) (it:=C) (fun b o hb e=>(hs''.2 b hb).trans e) hC0 (Zy4 (Zxj I2.lt hC)) (.inr (Zx2 I2.sz hC)) (fun y c e z=>?_) fun p hp z=>?_
 ·obtain⟨v,o,ho,hd⟩:=I2.cell y c e
  exact absurd (Heap.lt_size ho) (Nat.not_lt.mpr (by rw[z];exact hC))
 ·exact absurd (Heap.lt_size (I2.pin p hp).1) (Nat.not_lt.mpr (by rw[z];exact hC))
noncomputable def QT(i:Nat)(wi:TI)(Bd:TB)(tt:TT)(te:TE):TS:=fun D σ H=>ZaB wi Bd tt te σ H fun v H'=>D.nx (σ.set i (some v)) H'
theorem Zdb{i:Nat}{y:Str}{py spos:Pos}{wi:TI}(hN:X.N.Nodup)(hi:X.N[i]?=some y)(hit:PI X tg iter wi)(hb:PB X scope xs tg Bd)(ht:∀C s₂ H₂ ex,PCi (Uy X scope xs C ex s₂ H₂) ifs tt)(he:∀C s₂ H₂ ex,PE (Uy X scope xs C ex s₂ H₂) elt te)(hvs:∀x H vs,Bd x H vs->vs.length=xs.length)(hc:X.calm=true)(hsw:swapsWith (.ListComp elt [⟨tg,iter,ifs,0⟩] scope pos) (some (.Name y py)) spos.line X.env=pure true:=by rfl)(hy:X.env.scope.names.lookup y=some .local:=by rfl)(hclos:closureFor scope X.env=pure (Zh5 scope X.env):=by rfl)(hchk:JU X.N X.env.scope scope xs=true:=by rfl)(hs:∀x,foldedSetIterable iter X.env x=pure x:=by exact fun _=>rfl) :
  PS X (.Assign [.Name y py] (.ListComp elt [⟨tg,iter,ifs,0⟩] scope pos) spos) (QT i wi Bd tt te):=by
 intro pins s σ H D0 I h
 have ck:=VI hchk
 obtain⟨x,hx⟩:=ck.ex
 have sc:=ck.scs x hx
 rw[exec_Assign_Name_used _ _ _ _ hsw]
 refine wpAny_bind (wpAny_standAt (wpAny_bind ?_))
 show wpAny _ X.A (do let _ <- comprehension (.ListComp elt [⟨tg,iter,ifs,0⟩] scope pos) scope X.env _ (newList []) false (eval iter X.env) (some (assign (.Name y py) X.env))) _ _ s
 refine wpAny_bind (wpAny_mono (wpAny_comprehension_free (use:=some (assign (.Name y py) X.env)) (Q:=fun _ s'=>SP X pins D0 .next s') rfl hs hclos sc.kind sc.locs
  (thn (hit pins s σ H _ I h) fun xv s₁ h₁=>thn h₁ fun itv s₂ h₂=>?_)) (fun _ s' hq=>wpAny_pure (wpAny_pure hq)) fun _ _ e=>e)
 obtain⟨it,fp,tn,J,H2,e,I2,T,st2,f2,q⟩:=h₂
 subst e
 refine ZcE (RR:=fun acc C=>compPost (model X.prog X.w) X.A X.xe (some (assign (.Name y py) X.env)) (fun _ s'=>SP X pins D0 .next s') acc C) I2 ck hx hN hc T st2 f2 q hb ht he hvs ?_
 intro D C s' H' m' hC I' hn hC0 hq
 show wpAny _ X.A (assign (.Name y py) X.env (.ref D)) _ _ _
 have cellC:∀y c,X.env.cells.lookup y=some c->c≠C:=fun y c e z=>by
  obtain⟨v,o,ho,hd⟩:=I2.cell y c e
  exact absurd (Heap.lt_size ho) (Nat.not_lt.mpr (by rw[z];exact hC))
 have locC:C≠X.env.locals:=Zy4 (Zxj I2.lt hC)
 refine wpAny_assign_Name (Zca (i:=i) (v:=.ref D) I' hN hi (.inl hy) rfl (fun s'' I'' ⟨a,hsa,ha⟩=>?_) (.inr hy))
 have hCa:C≠a:=by
  rcases ha with z|z
  ·rw[z];exact locC
  ·exact(cellC _ _ z).symm
 refine⟨m',hn.sameBut hsa hCa,fun h'' hs''=>⟨σ.set i (some (.ref D)),H', ?_,hq⟩⟩
 refine I''.turned (t':=s''.toks) (it:=C) (fun b o hb e=>(hs''.2 b hb).trans e) hC0 locC (.inr (Zx2 I2.sz hC)) cellC fun p hp z=>?_
 exact absurd (Heap.lt_size (I2.pin p hp).1) (Nat.not_lt.mpr (by rw[z];exact hC))
end
noncomputable def ZiH{α β:Type}(f:α->Rr (Option β)):List α->Rr (List β)
 |[]=>.ok []
 |x::xs=>(f x).bind fun o=>(ZiH f xs).bind fun ys=>.ok (o.toList++ys)
def DB(K:W.Frag)(Bd:TB)(k:Nat)(hb:PV->Rr (List PV)):Prop:=(∀x e,hb x≠.exc e)/\∀(H:Hp) (S:Addr->Prop) (x:PV) (v:V) (xs:List PV),Rep K H S x v->hb x=.ok xs->xs.length=k/\∃vs,Bd v H vs/\Reps K H S xs vs
theorem Zoh{K:W.Frag}:DB K tB1 1 (fun x=>.ok [x]):=⟨fun x e h=>(by cases h),fun H S x v xs r h=>by
 cases h
 exact⟨rfl,[v],rfl,v,[],rfl,r,rfl⟩⟩
theorem Zo4{K:W.Frag}:DB K (tB2 K) 2 (asT 2):=by
 refine⟨fun x e h=>?_,fun H S x v xs r h=>?_⟩
 ·unfold asT at h
  split at h
  ·split at h<;>cases h
  ·cases h
 ·unfold asT at h
  split at h
  ·rename_i ys
   split at h
   ·rename_i hl
    cases h
    obtain⟨a,vs,rfl,hq,hr⟩:=r
    refine⟨hl,vs, ?_,hr⟩
    match xs,vs,hl,hr,hq with
    |[p,q],vs,_,hr,hq =>
     obtain⟨u,w,rfl,_,_⟩:=ZlE hr
     exact⟨a,u,w,rfl,hq.sqT,rfl⟩
   ·cases h
  ·cases h
section
variable {K:W.Frag}{B:Addr->Prop}{EX:PX->Hp->Prop}{H0 H H':Hp}{σ:St}{Γ Γ' Γ1 Γ2:List Md}{ρ:List PV}{F:Nat->List Addr}{R:List Addr}{k:Nat}{x:PV}{v:V}{te:TE}{tt:TT}{f fe:List PV->Rr PV}{c:List PV->Rr Bool}{Bd:TB}{hb:PV->Rr (List PV)}
theorem Zhs:DT K EX Γ Γ Zl1 (fun _=>.ok true):=fun B H0 H σ ρ F R Q A d=>d H F (Z9.refl H) (fun _ _ h=>h) A
theorem Ag.pushN:∀{xs:List PV}{vs:List V}{σ:St}{Γ:List Md}{ρ:List PV},Reps K H (NO B F R) xs vs->Ag K B H0 H σ Γ ρ F R->Ag K B H0 H (σ++vs.map some) (Γ++List.replicate xs.length .S) (ρ++xs) F R
 |[],vs,σ,Γ,ρ,h,A=>by
  have h:vs=[]:=h
  subst h
  simpa using A
 |x::xs,vs,σ,Γ,ρ,h,A=>by
  obtain⟨v,r,rfl,h1,h2⟩:=h
  have:=Ag.pushN (xs:=xs) (vs:=r) h2 (A.push h1)
  simpa[Zx8] using this
theorem Ag.popN{n:Nat}{τ:St}{xs:List PV}(A:Ag K B H0 H (σ++τ) (Γ++List.replicate n .S) (ρ++xs) F R)(l1:σ.length=Γ.length)(l2:ρ.length=Γ.length):Ag K B H0 H σ Γ ρ F R:=by
 refine⟨A.same,A.own,A.young,A.youngR,A.live,A.liveR,A.disj,A.disjR,l1,l2,fun i=>?_⟩
 have:=A.slot i
 by_cases h1:i<Γ.length
 ·rw[ZwZ,ZwZ,Zxk h1,Zxk (by rw[l2];exact h1),Zxk (by rw[l1];exact h1),<- ZwZ,<- ZwZ] at this
  exact this
 ·rw[ZwZ,Zxl (by lia)]
  by_cases h2:i<Γ.length+n
  ·rw[ZwZ,Zxn (by lia),Zyc,if_pos (by lia)] at this
   simp only[ZyA] at this
   exact this.1
  ·exact A.outF (by simp;lia)
theorem ZbF{wi:TI}{fi:List PV->Rr (List PV)}(hi:DIc K EX Γ Γ1 wi fi)(hB:DB K Bd k hb)(ht:DT K EX (Γ1++List.replicate k .S) (Γ1++List.replicate k .S) tt c)(he:DE K EX (Γ1++List.replicate k .S) (Γ1++List.replicate k .S) .F te fe) :
  DE K EX Γ Γ1 .F (ZaB wi Bd tt te) (fun ρ=>(fi ρ).bind fun xs=>(lenM xs).bind fun _=>(ZiH (fun x=>(hb x).bind fun as=>(c (ρ++as)).bind fun b=>if b=true then (fe (ρ++as)).bind fun y=>.ok (some y) else .ok none) xs).bind fun ys=>.ok (.lst ys)):=fun B H0 H σ ρ F R Q A d=>by
 refine hi B H0 H σ ρ F R _ A (d.bind.imp (fun xs _ d J H1 F1 s1 f1 A1 it=>?_) fun e q=>q)
 obtain⟨hlen,d⟩:=Dn.lenM d.bind
 generalize hgx:(fun x=>(hb x).bind fun as=>(c (ρ++as)).bind fun b=>if b=true then (fe (ρ++as)).bind fun y=>Rr.ok (some y) else .ok none)=gx at d
 have l1:=A1.lenS
 have l2:=A1.lenR
 refine⟨fun i m ys H2=>∃zs G F2,m=xs.length-i/\i<=xs.length/\ys.length<=i/\Z9 H1 H2/\Trees K H2 zs ys G/\(∀a∈G,a ∉ R/\(H1 a=none\/∃j,a∈F1 j))/\(∀i,∀a∈F2 i,a∈F1 i)/\Ag K B H0 H2 σ Γ1 ρ F2 (G++R) /\
  Dn ((ZiH gx (xs.drop i)).bind fun ys'=>.ok (.lst (zs++ys'))) (fun x=>∀v H',Z9 H H'->Res K B H0 H σ Γ1 ρ F R .F x v H'->Q v H') (fun e=>∀H',Z9 H0 H'->EX e H'),
  ⟨xs.length,[],[],F1,by simp,Zym _,Zxi _,Z9.refl _,⟨rfl,rfl⟩,by simp,fun _ _ h=>h,A1,by simpa using d⟩, ?_⟩
 rintro i m ys H2 ⟨zs,G,F2,rfl,hi',hl,s2,tr,o2,f2,A2,dn⟩
 refine⟨Ul (by lia), ?_⟩
 have itp:=it H2 F2 s2 f2 i
 cases hx:xs[i]? with
 |none =>
  refine .inl ⟨itp.2 hx,fun p hp=>?_⟩
  have hd:xs.drop i=[]:=ZxJ (Zx6.mp hx)
  rw[hd] at dn
  have dn':∀v H',Z9 H H'->Res K B H0 H σ Γ1 ρ F R .F (.lst (zs++[])) v H'->Q v H':=dn
  rw[ZxA] at dn'
  exact dn' _ _ ((s1.trans s2).trans (Z9.new hp)) (Res.newF (s1.trans s2) (fun i a h=>f1 i a (f2 i a h)) tr (fun a ha=>⟨(o2 a ha).1,(o2 a ha).2.elim (fun z=>.inl (s1.free z)) fun⟨j,z⟩=>.inr ⟨j,f1 j a z⟩⟩) A2 hp)
 |some x =>
  have hlt:i<xs.length:=(Zx0.mp hx).1
  obtain⟨go,yl⟩:=itp.1 x hx
  have hdx:xs.drop i=x::xs.drop (i+1):=by
   rw[Zx5 hlt]
   rw[Zxa hlt] at hx;cases hx;rfl
  rw[hdx] at dn
  simp only[ZiH,Rr.assoc] at dn
  rw[<- hgx] at dn
  simp only[Rr.assoc] at dn
  rw[hgx] at dn
  refine .inr ⟨go,fun ys' H'=>∃zs G F2,ys'.length<=i+1/\Z9 H1 H'/\Trees K H' zs ys' G/\(∀a∈G,a ∉ R/\(H1 a=none\/∃j,a∈F1 j))/\(∀i,∀a∈F2 i,a∈F1 i)/\Ag K B H0 H' σ Γ1 ρ F2 (G++R) /\
   Dn ((ZiH gx (xs.drop (i+1))).bind fun ys'=>.ok (.lst (zs++ys'))) (fun x=>∀v H',Z9 H H'->Res K B H0 H σ Γ1 ρ F R .F x v H'->Q v H') (fun e=>∀H',Z9 H0 H'->EX e H'),
   fun ys' H' ⟨zs,G,F2,a1,a2,a3,a4,a5,a6,a7⟩=>⟨xs.length-(i+1),by lia,zs,G,F2,rfl,hlt,a1,a2,a3,a4,a5,a6,a7⟩,fun v H3 y=>?_⟩
  obtain⟨s3,rx⟩:=yl v H3 y
  have rx':Rep K H3 (NO B F2 (G++R)) x v:=Rep.mono (fun a us s r=>⟨r,s.1.1,fun z=>by
   rcases Zxg.mp z with z|z
   ·rcases (o2 a z).2 with q|⟨j,q⟩
    ·exact s.2.1 q
    ·exact s.2.2 j q
   ·exact s.1.2.1 z,s.1.2.2⟩) (fun a us r=>r) rx
  cases hbx:hb x with
  |exc e=>exact absurd hbx (hB.1 x e)
  |bad=>rw[hbx] at dn;exact dn.elim
  |ok as =>
   rw[hbx] at dn
   simp only[Rr.bind_ok] at dn
   obtain⟨hk,vs,bd,ra⟩:=hB.2 H3 _ x v as rx' hbx
   refine⟨vs,bd, ?_⟩
   have A3:=Ag.pushN ra (A2.grow s3)
   rw[hk] at A3
   refine ht B H0 H3 _ _ F2 (G++R) _ A3 (dn.bind.imp (fun b _ dn H4 F4 s4 f4 A4=>?_) fun e q=>q)
   cases b with
   |false =>
    rw[if_neg Bool.false_ne_true] at dn ⊢
    simp only[Rr.bind_ok,Option.toList] at dn
    refine⟨zs,G,F4,by lia,(s2.trans s3).trans s4,(tr.same s3).same s4,o2,fun i a h=>f2 i a (f4 i a h),A4.popN l1 l2, ?_⟩
    simp only[Rr.assoc,Rr.bind_ok,Zye] at dn
    exact dn
   |true =>
    rw[if_pos rfl] at dn ⊢
    simp only[Rr.assoc] at dn
    refine he B H0 H4 _ _ F4 (G++R) _ A4 (dn.bind.imp (fun z _ dn w H5 s5 r5=>?_) fun e q=>q)
    obtain⟨F5,f5,G5,t5,o5,A5⟩:=r5
    refine⟨zs++[z],G++G5,F5,by simp;lia,((s2.trans s3).trans s4).trans s5,Trees.append (((tr.same s3).same s4).same s5) (Trees.one t5) (fun a ha z=>(o5 a z).1 (Zxe _ ha)),fun a ha=>?_,fun i a h=>f2 i a (f4 i a (f5 i a h)),(A5.popN l1 l2).less fun a ha=>?_, ?_⟩
    ·rcases Zxg.mp ha with z|z
     ·exact o2 a z
     ·refine⟨fun q=>(o5 a z).1 (Zxb _ q), ?_⟩
      rcases (o5 a z).2 with q|⟨j,q⟩
      ·exact .inl (((s2.trans s3).trans s4).free q)
      ·exact .inr ⟨j,f2 j a (f4 j a q)⟩
    ·simp only[Zxg] at ha ⊢
     rcases ha with (z|z)|z
     ·exact .inr (.inl z)
     ·exact .inl z
     ·exact .inr (.inr z)
    ·simp only[Rr.assoc,Rr.bind_ok,Option.toList,ZxV,List.singleton_append] at dn ⊢
     exact dn
theorem JG{EX:PX->Hp->Prop}{kd:Kd}{i:Nat}{wi:TI}(he:DE K EX Γ Γ' .F (ZaB wi Bd tt te) f)(hi:i<Γ'.length):DS K EX Γ ⟨Γ'.set i .O,Γ1,Γ2,kd⟩ (QT i wi Bd tt te) (fun ρ=>(f ρ).thenS fun x=>.next (ρ.set i x)):=ZQ he hi
end
theorem hv1{n:Str}:∀(x:V) (H:Hp) (vs:List V),tB1 x H vs->vs.length=[n].length:=fun _ _ _ h=>congrArg List.length h
theorem hv2{K:W.Frag}{n m:Str}:∀(x:V) (H:Hp) (vs:List V),tB2 K x H vs->vs.length=[n,m].length:=fun _ _ _ ⟨_,_,_,_,_,h⟩=>congrArg List.length h
theorem Zim{X:Cx}{K:W.Frag}{scope:Scope}{x y:Str}{px py tp:Pos}{k:Nat}(hNd:X.N.Nodup)(hc:X.calm=true)(hchk:JU X.N X.env.scope scope [x,y]=true:=by rfl)(e:X.K=K:=by rfl):PB X scope [x,y] (.Tuple [.Name x px,.Name y py] k tp) (tB2 K):=by subst e;exact Zke hNd hc hchk
section
end
theorem Zns:ZmK (.int 10) (.int 59)=.ok (.int (10^59)):=by rw[Zgv (by decide)];rfl
noncomputable def Zos:Nat:=4000000
def ZmH(i j:Int):Prop:=i.natAbs<2^Zos/\j.natAbs<2^Zos
noncomputable instance (i j:Int):Decidable (ZmH i j):=by unfold ZmH;infer_instance
end L2
namespace Att
open PySem PySem.W PySem.Calls PyProof.Rows
end Att
namespace L2
open PySem PySem.Spec PyProof.Rows
section
end
noncomputable def okE(x:PV):Bool:=x.noX&&x.dat.canLay0&&decide (x.dat.depth<=60)
noncomputable def Znh(K:W.Frag)(g:Bool->Bool):R2:=fun x y H Q=>∃p qs a vs,Rep K H (fun _=>True) p x/\y=.ref a/\(SqL K H a vs\/SqT K H a vs)/\Reps K H (fun _=>True) qs vs/\okE p=true/\(qs.all okE)=true/\Q (.bl (g (qs.any fun q=>PyData.eqv q.dat p.dat))) H
open Classical in
noncomputable def QD(h:Heap)(dx:PyData)(y:Value):Bool:=if hy:∃d as,Reads h y d as/\d.canLay0=true/\d.depth<=60 then PyData.eqv hy.choose dx else false
section
variable {X:Cx}{K:W.Frag}
theorem Zan{H:Hp}{pins:List (Addr×Obj)}{σ:St}{s:Shared}{S:Addr->Prop}(I:Inv X pins σ H s)(dx:PyData):∀{qs:List PV}{vs:List V}{us:List Value},Reps X.K H S qs vs->ZU vs us->(qs.all okE)=true ->
  (us.any (QD s.heap dx)=qs.any fun q=>PyData.eqv q.dat dx)/\∀y∈us,∃d as,Reads s.heap y d as/\d.canLay0=true/\d.depth<=60
 |[],_,us,h,r,_=>by
  rw[h] at r;cases r
  exact⟨rfl,by simp⟩
 |q::qs,_,us,h,r,hk=>by
  obtain⟨v,vs,rfl,h1,h2⟩:=h
  simp only[Zyg,Bool.and_eq_true] at hk
  cases r with
  |cons r1 r2 =>
   rename_i u us
   obtain⟨e1,e2⟩:=Zan I dx h2 r2 hk.2
   have h3:=hk.1
   simp only[okE,Bool.and_eq_true,decide_eq_true_eq] at h3
   obtain⟨as,ra⟩:=h1.reads I h3.1.1 r1
   have hx:∃d as,Reads s.heap u d as/\d.canLay0=true/\d.depth<=60:=⟨_,_,ra,h3.1.2,h3.2⟩
   refine⟨?_,fun y hy=>?_⟩
   ·have:QD s.heap dx u=PyData.eqv q.dat dx:=by
     unfold QD
     rw[dif_pos hx]
     obtain⟨as',ra',c1,c2⟩:=hx.choose_spec
     rw[SeqAt.Reads.unique _ _ _ _ _ c1 ra' ra]
    rw[Zyh,Zyh,e1,this]
   ·rcases Zxd.mp hy with rfl|hy
    ·exact hx
    ·exact e2 y hy
theorem Zmv{H:Hp}{pins:List (Addr×Obj)}{σ:St}{s:Shared}{g:Bool->Bool}{x y:V}{v u:Value}{Q:VK}(I:Inv X pins σ H s)(hu:X.A.units+64<cLine)(rx:J2 x v)(ry:J2 y u)(h:Znh X.K g x y H Q) :
  ∃a items,u=.ref a/\(s.heap.IsList a items\/s.heap.IsTuple a items)/\∃e:Value->Bool,(∀y,y∈items->SeqAt.EqAt X.A.in1 s y v (e y))/\Q (.bl (g (items.any e))) H:=by
 obtain⟨p,qs,a,vs,h1,rfl,hq,hr,h3,h4,q⟩:=h
 cases ry
 simp only[okE,Bool.and_eq_true,decide_eq_true_eq] at h3
 obtain⟨as,ra⟩:=h1.reads I h3.1.1 rx
 have fin:∀its:List Value,ZU vs its->(∀y,y∈its.toArray->SeqAt.EqAt X.A.in1 s y v (QD s.heap p.dat y))/\Q (.bl (g (its.toArray.any (QD s.heap p.dat)))) H:=fun its rv=>by
  obtain⟨e1,e2⟩:=Zan I p.dat hr rv h4
  refine⟨fun y hy=>?_, ?_⟩
  ·have hx:=e2 y (by simpa using hy)
   unfold QD
   rw[dif_pos hx]
   obtain⟨as',ra',c1,c2⟩:=hx.choose_spec
   refine SeqAt.eqAt_reads _ _ _ _ _ _ _ _ ra' ra c1 h3.1.2 ?_
   have:=Zy0 hx.choose.depth p.dat.depth
   have hin:X.A.in1.units<=X.A.units+1:=by simp[Around.in1]
   lia
  ·rw[List.any_toArray,e1];exact q
 rcases hq with hq|hq
 ·obtain⟨its,rv,pl,hz⟩:=I.list hq
  obtain⟨f1,f2⟩:=fin its rv
  exact⟨a,its.toArray,rfl,.inl pl.isList,_,f1,f2⟩
 ·obtain⟨its,rv,pl,hz⟩:=I.tuple hq
  obtain⟨f1,f2⟩:=fin its rv
  exact⟨a,its.toArray,rfl,.inr pl,_,f1,f2⟩
theorem Zg9(hu:X.A.units+64<cLine)(e:X.K=K:=by rfl):OpR X (compareOp .In) (Znh K id):=by
 subst e
 intro pins s σ H x y v u Q I rx ry h
 obtain⟨a,items,rfl,hl,e,he,q⟩:=Zmv I hu rx ry h
 rcases hl with hl|hl
 ·exact SeqAt.in_listAt e hl he ⟨.bl _,H,I,rfl,q⟩
 ·exact SeqAt.in_tupleAt e hl he ⟨.bl _,H,I,rfl,q⟩
end
section
end
theorem Zbl{X:Cx}{K:W.Frag}{tg l:Expr}{tl:TE}(hl:PE X l tl)(e:X.K=K:=by rfl):PI X tg l (Zny K tl):=by subst e;exact ZlO hl
noncomputable def Zoj(x:PV):Rr (List PV):=match x with
 |.tup xs=>.ok xs
 |_=>.bad
section
variable {K:W.Frag}{H:Hp}{EX:PX->Hp->Prop}{Γ Γ':List Md}{te:TE}{f:List PV->Rr PV}
theorem Zkz{a:Addr}{xs:List PV}{S:Addr->Prop}(h:Rep K H S (.tup xs) (.ref a)):ItP K S (Itt K a) xs H:=by
 obtain⟨a',vs,e,hn,hr⟩:=h
 cases e
 intro i
 constructor
 ·intro x hx
  obtain⟨u,e1,e2⟩:=hr.get hx
  refine⟨⟨vs,u,hn.sqT,e1⟩,fun v H' ⟨e,y⟩=>?_⟩
  subst e
  have:=y vs hn.sqT
  rw[e1] at this;cases this
  exact⟨Z9.refl _,e2⟩
 ·intro hx
  exact⟨vs,hn.sqT,by rw[hr.length];exact Zx6.mp hx⟩
theorem Ze7(he:DE K EX Γ Γ' .Z te f):DI K EX Γ Γ' (Zny K te) (fun ρ=>(f ρ).bind Zoj):=fun B H0 H σ ρ F R Q A d=>by
 refine he B H0 H σ ρ F R _ A (d.bind.imp (fun x _ d v H1 s1 r1=>?_) fun e q=>q)
 obtain⟨F1,f1,p1,A1⟩:=r1
 cases x with
 |tup xs =>
  obtain⟨a,vs,rfl,hn,hr⟩:=id p1
  exact⟨a,rfl,⟨vs,hn.sqT⟩,d _ H1 F1 s1 f1 A1 fun H2 F2 h=>Zkz (p1.frm h A1)⟩
 |_=>exact d.elim
end
theorem ZkV{xs:List PV}:Zoj (.tup xs)=.ok xs:=rfl
section
variable {K:W.Frag}{EX:PX->Hp->Prop}{Γ Γ1 Γ3:List Md}{k:Kd}{H:Hp}
theorem Trees.dropLastP:∀{xs:List PV}{vs:List V}{G:List Addr},Trees K H xs vs G->∃G',(∀a∈G',a∈G)/\Trees K H xs.dropLast vs.dropLast G'
 |[],_,_,h=>⟨[],by simp,by rw[h.1];exact⟨rfl,rfl⟩⟩
 |[x],_,_,h=>by
  obtain⟨v,r,G1,G2,rfl,h1,h2,h3,rfl⟩:=h
  have:=h2.1
  subst this
  exact⟨[],by simp,rfl,rfl⟩
 |x::y::xs,_,_,h=>by
  obtain⟨v,r,G1,G2,rfl,h1,h2,h3,rfl⟩:=h
  obtain⟨G',h4,h5⟩:=Trees.dropLastP h2
  have hr:r≠[]:=by
   obtain⟨v',r',_,_,rfl,_⟩:=h2
   simp
  refine⟨G1++G',fun a ha=>?_,v,r.dropLast,G1,G',by rw[List.dropLast_cons_of_ne_nil hr],h1,h5,fun a ha z=>h3 a ha (h4 a z),rfl⟩
  rcases Zxg.mp ha with z|z
  ·simp[z]
  ·simp[h4 a z]
noncomputable def pPop(x:PV):Rr PV:=match x with
 |.lst xs=>if xs.length=0 then .bad else .ok (.lst xs.dropLast)
 |_=>.bad
theorem Dn.pPop{x:PV}{ok:PV->Prop}{ex:PX->Prop}(d:Dn (pPop x) ok ex):∃xs,x=.lst xs/\0<xs.length/\ok (.lst xs.dropLast):=by
 unfold L2.pPop at d
 split at d
 ·rename_i xs
  by_cases h:xs.length=0
  ·rw[if_pos h] at d;exact d.elim
  ·rw[if_neg h] at d;exact⟨xs,rfl,by lia,d⟩
 ·exact d.elim
theorem Zk6{i:Nat}(hm:Γ[i]?=some .O) :
  DS K EX Γ ⟨Γ,Γ1,Γ3,k⟩ (Zia (ZnP K "list" ZnU (ZeR i))) (fun ρ=>(pPop (gv i ρ)).thenS fun z=>.next (ρ.set i z)):=fun B H0 H σ ρ F D A d=>by
 obtain⟨v,h1,h2⟩:=A.getO hm
 refine⟨v,h1, ?_⟩
 obtain⟨xs,e1,hp,d⟩:=Dn.pPop d.thenS
 rw[show ρ.getD i .non=.lst xs from e1] at h2
 obtain⟨a,vs,G,rfl,hH,ht,hn,hF⟩:=h2
 have hl:=ht.length
 have hg:vs[vs.length-1]?=some (vs[vs.length-1]'(by lia)):=Zxa (by lia)
 refine⟨.inl ⟨rfl,_,SqL.of hH⟩,a,vs,_,rfl,rfl,hH,hg, ?_⟩
 obtain⟨G',g1,g2⟩:=Trees.dropLastP ht
 have haF:a∈F i:=by rw[hF];simp
 have hsub:∀b∈a::G',b∈F i:=fun b hb=>by
  rw[hF]
  rcases Zxd.mp hb with rfl|hb
  ·simp
  ·simp[g1 b hb]
 refine d σ _ (Qo F i (a::G')) (Zb5 (fun b u h=>h) (fun j b hb=>hb) haF fun b hb=>.inr ⟨i,hsub b hb⟩) (Ag.chg (G:=[]) A hm haF (fun b hb=>.inl (hsub b hb)) (by simp) ?_)
 exact⟨_,h1,a,_,G',rfl,ZE,g2.put hH (fun z=>hn (g1 a z)),fun z=>hn (g1 a z),rfl⟩
end
noncomputable def VC(a:List Int×Int):PV:=.tup [.lst (a.1.map PV.int),.int a.2]
theorem Zgo{a b:List Int×Int}(h:VC a=VC b):a=b:=by
 simp only[VC,PV.tup.injEq,List.cons.injEq,PV.lst.injEq,PV.int.injEq,and_true] at h
 exact Prod.ext (UZ h.1) h.2
theorem Zfa{a b:List (List Int×Int)}(h:a.map VC=b.map VC):a=b:=by
 induction a generalizing b with
 |nil=>cases b with
  |nil=>rfl
  |cons x b=>simp at h
 |cons x a ih=>cases b with
  |nil=>simp at h
  |cons y b =>
   simp only[Zxf,List.cons.injEq] at h
   rw[Zgo h.1,ih h.2]
theorem Qy{a b:List Int×Int}(h1:HL.Je a b=false)(h2:HL.Je b a=false):a=b:=by
 unfold HL.Je at h1 h2
 by_cases e:a.1=b.1
 ·rw[if_pos e] at h1
  rw[if_pos e.symm] at h2
  have:=of_decide_eq_false h1
  have:=of_decide_eq_false h2
  exact Prod.ext e (by lia)
 ·rw[if_neg e] at h1
  rw[if_neg (Ne.symm e)] at h2
  exact absurd (HL.U5 h1 h2) e
def Zav(ts:List (List Int×Int))(t:List Int×Int):Prop:=t∈ts/\∀u∈ts,HL.Je u t=false
theorem Zav.uniq{ts:List (List Int×Int)}{t u:List Int×Int}(h:Zav ts t)(h':Zav ts u):t=u:=Qy (h'.2 t h.1) (h.2 u h'.1)
open Classical in
noncomputable def Zir(x:PV):Rr PV:=if h:∃a:List (List Int×Int)×(List Int×Int),x=.lst (a.1.map VC)/\Zav a.1 a.2 then .ok (VC h.choose.2) else .bad
theorem Ziq{ts:List (List Int×Int)}{t:List Int×Int}(h:Zav ts t):Zir (.lst (ts.map VC))=.ok (VC t):=by
 have hex:∃a:List (List Int×Int)×(List Int×Int),PV.lst (ts.map VC)=.lst (a.1.map VC)/\Zav a.1 a.2:=⟨(ts,t),rfl,h⟩
 unfold Zir
 rw[dif_pos hex]
 have hs:=hex.choose_spec
 have e:=Zfa (PV.lst.inj hs.1)
 have h2:=hs.2
 rw[<- e] at h2
 rw[h2.uniq h]
section
variable {K:W.Frag}{B:Addr->Prop}{EX:PX->Hp->Prop}{H0 H:Hp}{σ:St}{Γ Γ':List Md}{ρ:List PV}{F:Nat->List Addr}{R:List Addr}{te:TE}{f:List PV->Rr PV}
theorem ZeP{ns:List Int}:∀{vs:List V}{G:List Addr},Trees K H (ns.map PV.int) vs G->vs=ns.map V.int/\G=[]:=by
 induction ns with
 |nil=>intro vs G h;exact h
 |cons n ns ih =>
  intro vs G h
  obtain⟨v,r,G1,G2,rfl,⟨rfl,rfl⟩,h2,h3,rfl⟩:=h
  obtain⟨rfl,rfl⟩:=ih h2
  exact⟨rfl,rfl⟩
theorem QS:∀{ts:List (List Int×Int)}{vs:List V}{G:List Addr},Trees K H (ts.map VC) vs G->∃qs:List PT4,vs=(qs.map fun t=>V.ref t.1)/\(qs.map fun t=>(t.2.2.1,t.2.2.2))=ts /\
  ∀t∈qs,(SqT K H t.1 [.ref t.2.1,.int t.2.2.2]/\SqL K H t.2.1 (t.2.2.1.map V.int))/\∃G',V0 K H (VC (t.2.2.1,t.2.2.2)) (.ref t.1) G'/\∀a∈G',a∈G
 |[],vs,G,h=>⟨[],h.1,rfl,by simp⟩
 |(ns,k)::ts,vs,G,h=>by
  obtain⟨v,r,G1,G2,rfl,h1,h2,h3,rfl⟩:=h
  obtain⟨qs,rfl,e2,e3⟩:=QS h2
  have h1':=h1
  obtain⟨a,us,rfl,hq,hu⟩:=h1
  obtain⟨w,r2,G3,G4,rfl,⟨l,ws,G5,rfl,hl,hw,hn,rfl⟩,h6,h7,rfl⟩:=hu
  obtain⟨w2,r3,G6,G7,rfl,⟨rfl,rfl⟩,⟨rfl,rfl⟩,_,rfl⟩:=h6
  obtain⟨rfl,rfl⟩:=ZeP hw
  refine⟨(a,l,ns,k)::qs,rfl,by rw[Zxf,e2],fun t ht=>?_⟩
  rcases Zxd.mp ht with rfl|ht
  ·exact⟨⟨hq.sqT,SqL.of hl⟩,_,h1',fun b hb=>Zxe _ hb⟩
  ·obtain⟨e4,G',e5,e6⟩:=e3 t ht
   exact⟨e4,G',e5,fun b hb=>Zxb _ (e6 b hb)⟩
theorem ZkB(he:DE K EX Γ Γ' .F te f):DE K EX Γ Γ' .F (tCB (ZlH K) (Q6 te Zf9)) (fun ρ=>(f ρ).bind Zir):=fun B H0 H σ ρ F R Q A d=>by
 refine he B H0 H σ ρ F R _ A (d.bind.imp (fun x _ d v H1 s1 r1=>?_) fun e q=>q)
 obtain⟨F1,f1,G,t1,o1,A1⟩:=r1
 unfold Zir at d
 split at d
 ·rename_i hex
  have hs:=hex.choose_spec
  generalize hex.choose=c at d hs
  obtain⟨ts,t⟩:=c
  obtain⟨rfl,hm⟩:=hs
  have hm:Zav ts t:=hm
  obtain⟨a,vs,G',rfl,ha,ht,hn,rfl⟩:=t1
  obtain⟨qs,rfl,e2,e3⟩:=QS ht
  have e2:(qs.map fun t=>(t.2.2.1,t.2.2.2))=ts:=e2
  have hne:0<qs.length:=by
   have:=hm.1
   rw[<- e2] at this
   obtain⟨q,hq,_⟩:=Zxr.mp this
   exact List.length_pos_of_mem hq
  refine⟨a,qs,rfl,SqL.of ha,fun t ht=>(e3 t ht).1,hne,fun q hq hq2=>?_⟩
  have hmq:Zav ts (q.2.2.1,q.2.2.2):=⟨by rw[<- e2];exact Zxr.mpr ⟨q,hq,rfl⟩,fun u hu=>by
   rw[<- e2] at hu
   obtain⟨u',hu',rfl⟩:=Zxr.mp hu
   exact hq2 u' hu'⟩
  have:t=(q.2.2.1,q.2.2.2):=hm.uniq hmq
  subst this
  obtain⟨_,G2,t2,o2⟩:=e3 q hq
  refine d _ H1 s1 ⟨F1,f1,G2,t2,fun b hb=>o1 b (Zxs _ (o2 b hb)),A1.less fun b hb=>?_⟩
  rcases Zxg.mp hb with z|z
  ·exact Zxe _ (Zxs _ (o2 b z))
  ·exact Zxb _ z
 ·exact d.elim
variable {X:Cx}
theorem Zf1(hu:X.A.units+64<cLine)(hc:X.calm=true)(e:X.K=K:=by rfl):Vs X (.builtin "min") (ZlH K):=by subst e;exact Zh7 (by lia) hc (by lia)
end
structure Dat(n:Nat)(x:PV):Prop where
 nx:x.noX=true
 can:x.dat.canLay0=true
 dep:x.dat.depth<=n
theorem Dat.ok{n:Nat}{x:PV}(h:Dat n x)(hn:n<=64:=by decide):okD x=true:=by
 unfold okD
 rw[h.nx,h.can,decide_eq_true (Zx2 h.dep hn)];rfl
theorem ZbJ(i:Int):Dat 0 (.int i):=⟨rfl,by simp[PV.dat,PyData.canLay0],by simp[PV.dat,PyData.depth]⟩
theorem ZbH{n:Nat}:∀{xs:List PV},(∀x∈xs,Dat n x)->PV.noXs xs=true/\PyData.canLayAll0 (PV.dats xs)=true/\PyData.depthAll (PV.dats xs)<=n
 |[],_=>⟨rfl,rfl,Zym _⟩
 |x::xs,h=>by
  obtain⟨h1,h2,h3⟩:=ZbH (xs:=xs) fun y hy=>h y (by simp[hy])
  have hx:=h x (by simp)
  refine⟨by simp[PV.noXs,hx.nx,h1],by simp[PV.dats,PyData.canLayAll0,hx.can,h2], ?_⟩
  simp only[PV.dats,PyData.depthAll]
  exact Nat.max_le.mpr ⟨hx.dep,h3⟩
theorem ZkJ{n:Nat}{xs:List PV}(h:∀x∈xs,Dat n x):Dat (n+1) (.lst xs):=by
 obtain⟨h1,h2,h3⟩:=ZbH h
 exact⟨by simp[PV.noX,h1],by simp[PV.dat,PyData.canLay0,h2],by simp only[PV.dat,PyData.depth];lia⟩
theorem ZbI{n:Nat}{xs:List PV}(h:∀x∈xs,Dat n x):Dat (n+1) (.tup xs):=by
 obtain⟨h1,h2,h3⟩:=ZbH h
 exact⟨by simp[PV.noX,h1],by simp[PV.dat,PyData.canLay0,h2],by simp only[PV.dat,PyData.depth];lia⟩
theorem Dat.up{m n:Nat}{x:PV}(h:Dat m x)(hn:m<=n):Dat n x:=⟨h.nx,h.can,Zx2 h.dep hn⟩
theorem QK(ns:List Int):Dat 1 (.lst (ns.map PV.int)):=ZkJ fun x hx=>by
 obtain⟨i,_,rfl⟩:=Zxr.mp hx
 exact ZbJ i
theorem Zar{a:Str}(h:PyData.canLay0 (.str a)=true):Dat 0 (.str a):=⟨rfl,h,by simp[PV.dat,PyData.depth]⟩
theorem Zbw{f:PV->Rr PV}{g:Nat->PV}{lo:Int}{n:Nat}(h:∀i,i<n->f (.int (lo+(i:Nat)))=.ok (g i)):Zay f (ZeV lo n)=.ok ((List.range n).map g):=by
 have key:∀(l:List Nat),(∀i∈l,i<n)->Zay f (l.map fun(i:Nat)=>PV.int (lo+i))=.ok (l.map g):=by
  intro l
  induction l with
  |nil=>intro _;rfl
  |cons a l ih =>
   intro hl
   simp only[Zxf,Zay,h a (hl a (by simp)),Rr.bind_ok,ih fun i hi=>hl i (by simp[hi])]
 exact key _ fun i hi=>ZxQ.mp hi
section
end
theorem us1{α:Type}{us:List α}(h:us.length=1):∃a,us=[a]:=match us,h with | [a],_=>⟨a,rfl⟩
theorem us2{α:Type}{us:List α}(h:us.length=2):∃a b,us=[a,b]:=match us,h with | [a,b],_=>⟨a,b,rfl⟩
theorem us3{α:Type}{us:List α}(h:us.length=3):∃a b c,us=[a,b,c]:=match us,h with | [a,b,c],_=>⟨a,b,c,rfl⟩
theorem us4{α:Type}{us:List α}(h:us.length=4):∃a b c d,us=[a,b,c,d]:=match us,h with | [a,b,c,d],_=>⟨a,b,c,d,rfl⟩
section
end
theorem Dat.okE{n:Nat}{x:PV}(h:Dat n x)(hn:n<=60:=by decide):okE x=true:=by
 unfold L2.okE
 rw[h.nx,h.can,decide_eq_true (Zx2 h.dep hn)];rfl
section
end
noncomputable abbrev PL2:=Addr×List Int
section
variable {X:Cx}
def ZjX(K:W.Frag):List V->Hp->VK->Prop:=fun xs H Q=>∃p,∃ts:List PL2,xs=[.ref p]/\SqL K H p (ts.map fun t=>V.ref t.1) /\
  (∀t∈ts,SqL K H t.1 (t.2.map V.int))/\0<ts.length/\∀t,t∈ts->(∀u∈ts,HT.Ji u.2 t.2=false)->Q (.ref t.1) H
theorem Zh8(hu:X.A.units+1<cLine)(hc:X.calm=true):Vs X (.builtin "min") (ZjX X.K):=by
 intro pins s σ H xs us Q I r h
 obtain⟨p,ts,rfl,hq,hall,hne,q⟩:=h
 obtain⟨u,rfl,rx⟩:=UJ r
 cases rx
 obtain⟨its,r',pl,hz⟩:=I.list hq
 have hlen:=r'.length
 rw[Zxc] at hlen
 have hlt:p<s.heap.objs.size:=by obtain⟨_,e,_⟩:=pl.isList;exact Heap.lt_size e
 have item:∀i v,its[i]?=some v->∃t:PL2,ts[i]?=some t/\v=Value.ref t.1:=fun i v hv=>by
  have hi:i<its.length:=(Zx0.mp hv).1
  have hx:(ts.map fun t=>V.ref t.1)[i]?=some (V.ref (ts[i]'(by lia)).1):=by simp[Zxa (show i<ts.length by lia)]
  obtain⟨w,hw,rw'⟩:=r'.get hx
  rw[hv] at hw;cases hw
  exact⟨ts[i]'(by lia),Zxa (by lia),rw'⟩
 let d0:PL2:=(0,[])
 let key:Nat->List Int:=fun i=>(ts.getD i d0).2
 refine HL.ZcG (wpAny_pyIter_list pl.isList ?_)
 refine⟨s.heap.objs.size,[s.heap.objs.size,p],[s.heap.objs.size],its.toArray.size,_,_,fun i j=>HT.Ji (key i) (key j),rfl,Walks.list (A:=X.A.in1) (I.ok.hd hc) _ p (Zxv hlt) its.toArray,
  ⟨⟨_,Heap.get?_push_size _ rfl,rfl,rfl⟩,pl.isList.push _⟩,fun b hb=>?_,by rw[Zxh];lia, ?_,fun v h' tk hv hk=>?_⟩
 ·show b<(s.heap.push _).objs.size
  rw[Heap.size_push]
  rcases Zxd.mp hb with rfl|hb
  ·exact Zyp _
  ·rw[Zx7.mp hb];exact ZxW hlt
 ·intro i j vi vj s' Q' E' hi hj hk hQ
  obtain⟨t,et,rfl⟩:=item i vi (by simpa using hi)
  obtain⟨t',et',rfl⟩:=item j vj (by simpa using hj)
  have k':∀b o,s.heap.get? b=some o->s'.heap.get? b=some o:=fun b o e=>by
   have hb:=Heap.lt_size e
   exact hk b o (by simp;exact Zxv hb) (by show b≠(s.heap.push _).objs.size;rw[Heap.size_push];exact Zxv (ZxW hb)) (Heap.get?_push_of_some _ e)
  have hL:=hall t (Zx3 et)
  have hL':=hall t' (Zx3 et')
  have I':Inv X pins σ H { s with heap:=s'.heap,toks:=s'.toks }:=I.kept k'
  obtain⟨m,r3,p3,_⟩:=I'.list hL
  obtain⟨m2,r4,p4,_⟩:=I'.list hL'
  have ek:key i=t.2:=by show (ts.getD i d0).2=_;rw[ZwZ,et];rfl
  have ek':key j=t'.2:=by show (ts.getD j d0).2=_;rw[ZwZ,et'];rfl
  have hQ2:Q' (Value.bool (HT.Ji t.2 t'.2)) s':=by rw[<- ek,<- ek'];exact hQ
  exact HL.ZaG p3.isList p4.isList (by simpa using Ve r3) (by simpa using Ve r4) (by show X.A.units+1<cLine;lia) hQ2
 ·obtain⟨t,et,rfl⟩:=item _ v (by simpa using hv)
  obtain⟨b1,b2⟩:=HL.UF (bt:=fun i j=>HT.Ji (key i) (key j)) (fun i=>HL.Vv _) (fun i j k=>HL.U4) (its.toArray.size-1)
  rw[Zxh] at b1 b2
  refine⟨.ref t.1,H,I.kept (LSm.kept_iter hk),rfl,q t (Zx3 et) fun u hu=>?_⟩
  obtain⟨j,hj,rfl⟩:=Zya hu
  have:=b2 j (by lia)
  have ek:key (argBest (fun i j=>HT.Ji (key i) (key j)) (its.length-1))=t.2:=by
   show (ts.getD _ d0).2=_
   rw[ZwZ,et];rfl
  rw[ek] at this
  have ej:key j=ts[j].2:=by
   show (ts.getD j d0).2=_
   rw[ZwZ,Zxa hj];rfl
  rw[ej] at this
  exact this
theorem ZaZ{K:W.Frag}(hu:X.A.units+64<cLine)(hc:X.calm=true)(e:X.K=K:=by rfl):Vs X (.builtin "min") (ZjX K):=by subst e;exact Zh8 (by lia) hc
end
def Qj(ts:List (List Int))(t:List Int):Prop:=t∈ts/\∀u∈ts,HT.Ji u t=false
theorem Qj.uniq{ts:List (List Int)}{t u:List Int}(h:Qj ts t)(h':Qj ts u):t=u:=HL.U5 (h'.2 t h.1) (h.2 u h'.1)
noncomputable def Zcu(t:List Int):PV:=.lst (t.map PV.int)
theorem ZgR{a b:List (List Int)}(h:a.map Zcu=b.map Zcu):a=b:=by
 induction a generalizing b with
 |nil=>cases b with
  |nil=>rfl
  |cons x b=>simp at h
 |cons x a ih=>cases b with
  |nil=>simp at h
  |cons y b =>
   simp only[Zxf,List.cons.injEq,Zcu,PV.lst.injEq] at h
   rw[UZ h.1,ih h.2]
open Classical in
noncomputable def Zit(x:PV):Rr PV:=if h:∃a:List (List Int)×List Int,x=.lst (a.1.map Zcu)/\Qj a.1 a.2 then .ok (Zcu h.choose.2) else .bad
theorem Zis{ts:List (List Int)}{t:List Int}(h:Qj ts t):Zit (.lst (ts.map Zcu))=.ok (Zcu t):=by
 have hex:∃a:List (List Int)×List Int,PV.lst (ts.map Zcu)=.lst (a.1.map Zcu)/\Qj a.1 a.2:=⟨(ts,t),rfl,h⟩
 unfold Zit
 rw[dif_pos hex]
 have hs:=hex.choose_spec
 have e:=ZgR (PV.lst.inj hs.1)
 have h2:=hs.2
 rw[<- e] at h2
 rw[h2.uniq h]
section
end
section
end
noncomputable def Za5(qs:List PV)(d:PyData):Nat:=qs.findIdx fun q=>PyData.eqv q.dat d
def Zgh(K:W.Frag):V->List V->Hp->VK->Prop:=fun x xs H Q=>∃a vs qs p u,x=.ref a/\xs=[u]/\SqL K H a vs/\Reps K H (fun _=>True) qs vs/\Rep K H (fun _=>True) p u/\okE p=true/\(qs.all okE)=true/\qs.length<=1000000/\Za5 qs p.dat<qs.length/\Q (.int (Za5 qs p.dat:Nat)) H
section
variable {X:Cx}{K:W.Frag}
theorem ZcB{H:Hp}{pins:List (Addr×Obj)}{σ:St}{s:Shared}{S:Addr->Prop}(I:Inv X pins σ H s)(dx:PyData):∀{qs:List PV}{vs:List V}{us:List Value},Reps X.K H S qs vs->ZU vs us->(qs.all okE)=true ->
  us.map (QD s.heap dx)=qs.map fun q=>PyData.eqv q.dat dx
 |[],_,us,h,r,_=>by
  rw[h] at r;cases r
  rfl
 |q::qs,_,us,h,r,hk=>by
  obtain⟨v,vs,rfl,h1,h2⟩:=h
  simp only[Zyg,Bool.and_eq_true] at hk
  cases r with
  |cons r1 r2 =>
   rename_i u us
   have e1:=ZcB I dx h2 r2 hk.2
   have h3:=hk.1
   simp only[okE,Bool.and_eq_true,decide_eq_true_eq] at h3
   obtain⟨as,ra⟩:=h1.reads I h3.1.1 r1
   have hx:∃d as,Reads s.heap u d as/\d.canLay0=true/\d.depth<=60:=⟨_,_,ra,h3.1.2,h3.2⟩
   have:QD s.heap dx u=PyData.eqv q.dat dx:=by
    unfold QD
    rw[dif_pos hx]
    obtain⟨as',ra',c1,c2⟩:=hx.choose_spec
    rw[SeqAt.Reads.unique _ _ _ _ _ c1 ra' ra]
   rw[Zxf,Zxf,e1,this]
theorem ZgL(hu:X.A.units+64<cLine)(e:X.K=K:=by rfl):MtR X "list.index" (Zgh K):=by
 subst e
 intro pins s σ H x xs v us Q I rx rv h
 obtain⟨a,vs,qs,p,u,rfl,rfl,hq,hr,hp,h3,h4,hl6,hlt,q⟩:=h
 cases rx
 obtain⟨u',rfl,ru⟩:=rv.one
 simp only[okE,Bool.and_eq_true,decide_eq_true_eq] at h3
 obtain⟨as,ra⟩:=hp.reads I h3.1.1 ru
 obtain⟨its,r',pl,hz⟩:=I.list hq
 obtain⟨e1,e2⟩:=Zan I p.dat hr r' h4
 have e3:=ZcB I p.dat hr r' h4
 have elen:its.length=qs.length:=by simpa using congrArg List.length e3
 have eget:∀m (h1:m<its.length) (h2:m<qs.length),QD s.heap p.dat its[m]=PyData.eqv qs[m].dat p.dat:=fun m h1 h2=>by
  have:=congrArg (fun l=>l[m]?) e3
  simpa[h1,h2] using this
 obtain⟨⟨c,dct,dt,sl⟩,hl,hc,n,hd⟩:=pl.isList
 replace hc:c=.type "list":=hc
 replace hd:dt=.seq its.toArray n:=hd
 subst hc hd
 have hj:Za5 qs p.dat<its.toArray.size:=by simp;lia
 refine call_meets F.slot_list_index ⟨_,hl,rfl⟩ F.entry_list_index (F.args_list_index_2 _ _) (PySem.SeqAt.list_indexAt _ its.toArray n dct sl u' (QD s.heap p.dat) (Za5 qs p.dat) hj (by lia) ?_ fun m hm hmj=>?_) ⟨hl,fun y hy=>?_, ?_⟩
 ·simp only[List.getElem_toArray]
  rw[eget _ (by lia) hlt]
  exact List.findIdx_getElem (p:=fun(q:PV)=>PyData.eqv q.dat p.dat) (xs:=qs) (w:=hlt)
 ·simp only[List.getElem_toArray]
  rw[eget _ (by lia) (by lia)]
  have:=List.not_of_lt_findIdx (p:=fun(q:PV)=>PyData.eqv q.dat p.dat) (xs:=qs) (i:=m) hmj
  simpa using this
 ·have hx:=e2 y (by simpa using hy)
  unfold QD
  rw[dif_pos hx]
  obtain⟨as',ra',c1,c2⟩:=hx.choose_spec
  refine SeqAt.eqAt_reads _ _ _ _ _ _ _ _ ra' ra c1 h3.1.2 ?_
  have:=Zy0 hx.choose.depth p.dat.depth
  have hin:X.A.in1.units<=X.A.units+1:=by simp[Around.in1]
  lia
 ·exact⟨.int (Za5 qs p.dat:Nat),H,I.tok _,⟨_,rfl⟩,q⟩
end
noncomputable def Zac(ys as:List PV):Rr PV:=match as with
 |[x]=>if (okE x&&ys.all okE)=true/\ys.length<=1000000/\Za5 ys x.dat<ys.length then .ok (.int (Za5 ys x.dat:Nat)) else .bad
 |_=>.bad
section
variable {K:W.Frag}{EX:PX->Hp->Prop}{Γ Γ1 Γ2:List Md}{te:TE}{ta:TA}{f:List PV->Rr PV}{fa:List PV->Rr (List PV)}
theorem Zhv(he:DE K EX Γ Γ1 .A te f)(ha:DAA K EX Γ1 Γ2 ta fa):DE K EX Γ Γ2 .P (tBM K "list" (Zgh K) te ta) (fun ρ=>(f ρ).bind fun x=>(asL x).bind fun ys=>(fa ρ).bind fun as=>Zac ys as):=fun B H0 H σ ρ F R Q A d=>by
 refine he B H0 H σ ρ F R _ A (d.bind.imp (fun x _ d v H1 s1 r1=>?_) fun e q=>q)
 obtain⟨F1,f1,p1,A1⟩:=r1
 obtain⟨ys,rfl,d2⟩:=Dn.asL d.bind
 obtain⟨a,vs,rfl,hn,hr⟩:=id p1
 refine⟨.inl ⟨rfl,vs,JN (S:=fun _=>True) hn⟩,ha B H0 H1 σ ρ F1 R _ A1 (d2.bind.imp (fun as _ d us H2 F2 s2 f2 p2 A2=>?_) fun e q=>q)⟩
 unfold Zac at d
 split at d
 ·rename_i x _
  split at d
  ·rename_i hc
   obtain⟨u,rfl,hu⟩:=UO p2
   obtain⟨a',vs',e,hn',hr'⟩:=p1.same s2
   cases e
   rw[Bool.and_eq_true] at hc
   exact⟨a,vs',ys,x,u,rfl,rfl,JN (S:=fun _=>True) hn',hr',hu,hc.1.1,hc.1.2,hc.2.1,hc.2.2,d _ H2 (s1.trans s2) ⟨F2,fun i z h=>f1 i z (f2 i z h),rfl,rfl,A2⟩⟩
  ·exact d.elim
 ·exact d.elim
end
theorem Zam{l:List Int}:∀M:List (List Int),Za5 (M.map fun q=>.lst (q.map PV.int)) (PV.lst (l.map PV.int)).dat=M.idxOf l
 |[]=>rfl
 |q::M=>by
  unfold Za5
  rw[Zxf,List.findIdx_cons,List.idxOf_cons]
  have:=Zam (l:=l) M
  unfold Za5 at this
  rw[this]
  simp only[PV.dat,Zaq,PyData.eqv,U7]
  by_cases c:q=l
  ·simp[c]
  ·have c2:(q==l)=false:=by simpa using c
   rw[c2];simp[c]
theorem Zbo{l:List Int}{M:List (List Int)}(h:M.length<=1000000)(hm:l∈M):Zac (M.map fun q=>.lst (q.map PV.int)) [.lst (l.map PV.int)]=.ok (.int (M.idxOf l:Nat)):=by
 have h1:(okE (.lst (l.map PV.int))&&(M.map fun q=>PV.lst (q.map PV.int)).all okE)=true:=by
  rw[(QK l).okE,Bool.true_and,Zxz]
  intro x hx
  obtain⟨q,_,rfl⟩:=Zxr.mp hx
  exact(QK q).okE
 simp only[Zac]
 rw[Zam,if_pos ⟨h1,by simpa using h,by simpa using Zy1 hm⟩]
theorem ZjA{α:Type}{f:PV->Rr (Option PV)}{q:α->PV}{p:α->Bool}{g:α->PV}{L:List α}(h:∀x∈L,f (q x)=.ok (if p x=true then some (g x) else none)):ZiH f (L.map q)=.ok ((L.filter p).map g):=by
 induction L with
 |nil=>rfl
 |cons a l ih =>
  simp only[Zxf,ZiH,h a (by simp),Rr.bind_ok,ih fun z hz=>h z (by simp[hz])]
  cases hp:p a<;>simp[hp,List.filter_cons]
section
end
noncomputable def frz(m:Md):Md:=if m=.O\/m=.T then .S else m
section
variable {K:W.Frag}{B:Addr->Prop}{H0 H:Hp}{σ:St}{Γ:List Md}{ρ:List PV}{F:Nat->List Addr}{R:List Addr}
theorem Ag.freezeAll(A:Ag K B H0 H σ Γ ρ F R):Ag K B H0 H σ (Γ.map frz) ρ (fun _=>[]) R:=by
 refine⟨A.same,A.own,by simp,A.youngR,by simp,A.liveR,by simp,by simp,by simp[A.lenS],by simp[A.lenR],fun i=>?_⟩
 have sl:=A.slot i
 have e:(Γ.map frz).getD i .U=frz (Γ.getD i .U):=by
  rw[ZwZ,ZwZ,Zxm]
  cases Γ[i]?<;>rfl
 rw[e]
 have up:∀{a},NO B F R a->NO B (fun _=>[]) R a:=fun {a} s=>⟨s.1,s.2.1,by simp⟩
 have ow:∀a∈F i,NO B (fun _=>[]) R a:=fun a ha=>⟨A.own a (A.young i a ha),A.disjR i a ha,by simp⟩
 cases hm:Γ.getD i .U with
 |U=>exact rfl
 |P=>rw[hm] at sl;exact⟨rfl,sl.2⟩
 |S =>
  rw[hm] at sl
  obtain⟨_,v,h1,h2⟩:=sl
  exact⟨rfl,v,h1,Rep.mono (fun a vs s r=>⟨r,up s⟩) (fun a vs r=>r) h2⟩
 |T =>
  rw[hm] at sl
  obtain⟨a,vs,xs,h1,h2,h3,h4,h5⟩:=sl
  refine⟨rfl,.ref a,h1, ?_⟩
  rw[h2]
  exact⟨a,vs,rfl,.inl ⟨.inl h3,ow a (by rw[h5];simp)⟩,Reps.mono (fun a vs s r=>⟨r,up s⟩) (fun a vs r=>r) h4⟩
 |O =>
  rw[hm] at sl
  obtain⟨v,h1,h2⟩:=sl
  exact⟨rfl,v,h1,h2.rep ow⟩
variable {EX:PX->Hp->Prop}{Γ':List Md}{te:TE}{f:List PV->Rr PV}{S:Addr->Prop}
theorem ZaF:∀{ts:List (List Int)}{vs:List V},Reps K H S (ts.map Zcu) vs->∃qs:List PL2,vs=(qs.map fun t=>V.ref t.1)/\(qs.map fun t=>t.2)=ts /\
  ∀t∈qs,SqL K H t.1 (t.2.map V.int)/\Rep K H S (Zcu t.2) (.ref t.1)
 |[],vs,h=>⟨[],h,rfl,by simp⟩
 |ns::ts,vs,h=>by
  obtain⟨v,r,rfl,h1,h2⟩:=h
  obtain⟨qs,rfl,e2,e3⟩:=ZaF h2
  obtain⟨l,rfl,h3⟩:=ZdV h1
  refine⟨(l,ns)::qs,rfl,by rw[Zxf,e2],fun t ht=>?_⟩
  rcases Zxd.mp ht with rfl|ht
  ·exact⟨h3,h1⟩
  ·exact e3 t ht
theorem Ze9(he:DE K EX Γ Γ' .Z te f):DE K EX Γ Γ' .Z (tCB (ZjX K) (Q6 te Zf9)) (fun ρ=>(f ρ).bind Zit):=fun B H0 H σ ρ F R Q A d=>by
 refine he B H0 H σ ρ F R _ A (d.bind.imp (fun x _ d v H1 s1 r1=>?_) fun e q=>q)
 obtain⟨F1,f1,t1,A1⟩:=r1
 unfold Zit at d
 split at d
 ·rename_i hex
  have hs:=hex.choose_spec
  generalize hex.choose=c at d hs
  obtain⟨ts,t⟩:=c
  obtain⟨rfl,hm⟩:=hs
  have hm:Qj ts t:=hm
  obtain⟨a,vs,rfl,ha,ht⟩:=t1
  obtain⟨qs,rfl,e2,e3⟩:=ZaF ht
  have e2:(qs.map fun t=>t.2)=ts:=e2
  have hne:0<qs.length:=by
   have:=hm.1
   rw[<- e2] at this
   obtain⟨q,hq,_⟩:=Zxr.mp this
   exact List.length_pos_of_mem hq
  refine⟨a,qs,rfl,JN ha,fun t ht=>(e3 t ht).1,hne,fun q hq hq2=>?_⟩
  have hmq:Qj ts q.2:=⟨by rw[<- e2];exact Zxr.mpr ⟨q,hq,rfl⟩,fun u hu=>by
   rw[<- e2] at hu
   obtain⟨u',hu',rfl⟩:=Zxr.mp hu
   exact hq2 u' hu'⟩
  have:t=q.2:=hm.uniq hmq
  subst this
  exact d _ H1 s1 ⟨F1,f1,(e3 q hq).2,A1⟩
 ·exact d.elim
end
end L2
namespace HL
open PySem PyProof.Rows
section
open PySem.SeqAt
open PySem.AutoSeq1 (wpAny_loadPart')
open PySem.MeetsSeq PySem.MeetsSeq2 PySem.MeetsSeq3 SeqRoads2
end
section
end
end HL
namespace L2
open PySem PySem.Spec PyProof.Rows
section
end
structure CkC(N:List Str)(sc scope:Scope)(x:Str):Prop where
 one:((scope.names.filter fun p=>p.2==.cell).map fun p=>p.1)=[x]
 kind:scope.kind=.function
 locs:∀p∈scope.names,p.2=.local->scope.names.lookup p.1=some .local
 var:scope.names.lookup x=some .cell
 nd:(N.map (Za4 [x])++[x]).Nodup
 noN:∀y∈N,y ∉ [x]->scope.names.lookup y≠some .local/\scope.names.lookup y≠some .cell
 noE:scope.names.lookup (Str.ofString "")=none
 fr:∀p∈scope.names,p.2=.free->sc.names.lookup p.1=some .cell\/sc.names.lookup p.1=some .free
section
end
noncomputable abbrev Zoy:R2:=fun x y H Q=>∃i j,x=.str i/\y=.str j/\Q (.bl (!(Builtin.Str.occurrences j i 0 j.length 1).isEmpty)) H
noncomputable abbrev Znd:List V->Hp->VK->Prop:=fun xs H Q=>∃i,xs=[.int i]/\i.natAbs.log2<1920/\Q (.str (toString i)) H
def ZlJ:List V->Hp->VK->Prop:=fun xs H Q=>∃x n,xs=[.str x]/\PySem.intText? x=some n/\x.length<=640/\Q (.int n) H
noncomputable abbrev Znf:List V->Hp->VK->Prop:=fun xs H Q=>∃z,xs=[.str z]/\z.length<=sizeLine/\Q (.int z.length) H
noncomputable def inS(i j:Str):Bool:=!(Builtin.Str.occurrences j i 0 j.length 1).isEmpty
noncomputable def ZnZ(x y:PV):Rr PV:=match x,y with
 |.str a,.str b=>.ok (.bl (inS a b))
 |_,_=>.bad
noncomputable def Zgq(xs:List PV):Rr PV:=match xs with
 |[.int i]=>if i.natAbs.log2<1920 then .ok (.str (toString i)) else .bad
 |_=>.bad
noncomputable def Zg3(xs:List PV):Rr PV:=match xs with
 |[.str x]=>match PySem.intText? x with
  |some n=>if x.length<=640 then .ok (.int n) else .bad
  |none=>.bad
 |_=>.bad
noncomputable def asS(x:PV):Rr Str:=match x with
 |.str z=>.ok z
 |_=>.bad
noncomputable def Ziv(xs:List PV):Rr PV:=match xs with
 |[.str x]=>if x.length<=1000000 then .ok (.int x.length) else .bad
 |_=>.bad
noncomputable def ZmM(x y:PV):Rr PV:=match x,y with
 |.str z,.int i=>if z.length<=1000000 then (match atI z.cps.toList i with|some c=>.ok (.str ⟨#[c]⟩)|none=>.bad) else .bad
 |_,_=>.bad
section
variable {X:Cx}{x:Str}{pos:Pos}
theorem Zij{z:Str}(hm:∃t,X.mg x=some (.str z t))(hg:Gl X x)(hd:(x==("__debug__":Str))=false:=by decide):PE X (.Name x pos) (tC (.str z)):=by
 obtain⟨t,hm⟩:=hm
 exact QY (v:=.str z) hg hm ⟨t,rfl⟩ hd
theorem ZhA:Vs X (.type "int") ZlJ:=by
 intro pins s σ H xs us Q I r h
 obtain⟨x,n,rfl,hn,hl,q⟩:=h
 obtain⟨u,rfl,rx⟩:=UJ r
 obtain⟨t,rfl⟩:=rx
 exact PySem.W.KIN.call_text hn hl ⟨.int n,H,I.tok _,⟨_,rfl⟩,q⟩
end
section
variable {K:W.Frag}{B:Addr->Prop}{EX:PX->Hp->Prop}{H0 H H':Hp}{σ:St}{Γ Γ' Γ1 Γ2:List Md}{ρ:List PV}{F F':Nat->List Addr}{R:List Addr}{te tb ta':TE}{ta:TA}{f fb fa':List PV->Rr PV}{fa:List PV->Rr (List PV)}
theorem Zeo{n:Nat}(h:n<=1000000):n<=sizeLine:=Ul h
theorem Zm7(ha:DE K EX Γ Γ1 .A te f)(hb:DE K EX Γ1 Γ2 .A tb fb):DE K EX Γ Γ2 .P (tOp Zoy te tb) (fun ρ=>(f ρ).bind fun x=>(fb ρ).bind fun y=>ZnZ x y):=fun B H0 H σ ρ F R Q A d=>by
 refine two ha hb A d.bind2 fun x y v w H' F' d s hF p1 p2 A'=>?_
 unfold ZnZ at d
 split at d
 ·cases p1;cases p2
  exact⟨_,_,rfl,rfl,d _ H' s ⟨F',hF,rfl,rfl,A'⟩⟩
 ·exact d.elim
theorem Zm6(ha:DE K EX Γ Γ1 .A ta' fa')(hb:DE K EX Γ1 Γ2 .A tb fb):DE K EX Γ Γ2 .P (tOp Zng ta' tb) (fun ρ=>(fa' ρ).bind fun x=>(fb ρ).bind fun y=>ZmM x y):=fun B H0 H σ ρ F R Q A d=>by
 refine two ha hb A d.bind2 fun x y v w H' F' d s hF p1 p2 A'=>?_
 unfold ZmM at d
 split at d
 ·split at d
  ·rename_i h
   split at d
   ·rename_i c e
    cases p1;cases p2
    exact⟨_,_,c,rfl,rfl,Zeo h,e,d _ H' s ⟨F',hF,rfl,rfl,A'⟩⟩
   ·exact d.elim
  ·exact d.elim
 ·exact d.elim
theorem Zk8(ha:DAA K EX Γ Γ' ta fa):DE K EX Γ Γ' .P (tCB Znd ta) (fun ρ=>(fa ρ).bind Zgq):=by
 refine Zd0 (fun {H xs vs Q} h z e=>?_) (fun xs e h=>?_) ha
 ·unfold Zgq at e
  split at e<;>first|(cases e;done)|skip
  split at e<;>first|(cases e;done)|skip
  rename_i hl
  cases e
  obtain⟨v,rfl,h1⟩:=UO h
  cases h1
  exact⟨rfl,fun q=>⟨_,rfl,hl,q _ rfl⟩⟩
 ·unfold Zgq at h;split at h<;>first|(cases h;done)|skip
  split at h<;>cases h
theorem ZkF(ha:DAA K EX Γ Γ' ta fa):DE K EX Γ Γ' .P (tCB ZlJ ta) (fun ρ=>(fa ρ).bind Zg3):=by
 refine Zd0 (fun {H xs vs Q} h z e=>?_) (fun xs e h=>?_) ha
 ·unfold Zg3 at e
  split at e<;>first|(cases e;done)|skip
  split at e<;>first|(cases e;done)|skip
  split at e<;>first|(cases e;done)|skip
  rename_i n hn hl
  cases e
  obtain⟨v,rfl,h1⟩:=UO h
  cases h1
  exact⟨rfl,fun q=>⟨_,n,rfl,hn,hl,q _ rfl⟩⟩
 ·unfold Zg3 at h;split at h<;>first|(cases h;done)|skip
  split at h<;>first|(cases h;done)|skip
  split at h<;>cases h
theorem ZkD(ha:DAA K EX Γ Γ' ta fa):DE K EX Γ Γ' .P (tCB Znf ta) (fun ρ=>(fa ρ).bind Ziv):=by
 refine Zd0 (fun {H xs vs Q} h z e=>?_) (fun xs e h=>?_) ha
 ·unfold Ziv at e
  split at e<;>first|(cases e;done)|skip
  split at e<;>first|(cases e;done)|skip
  rename_i hl
  cases e
  obtain⟨v,rfl,h1⟩:=UO h
  cases h1
  exact⟨rfl,fun q=>⟨_,rfl,Zeo hl,q _ rfl⟩⟩
 ·unfold Ziv at h;split at h<;>first|(cases h;done)|skip
  split at h<;>cases h
end
noncomputable def Its(z:Str):It:=⟨fun i _=>i<z.cps.size,fun i H x H'=>H'=H/\∃c,z.cps[i]?=some c/\x=.str ⟨#[c]⟩,fun i _=>z.cps.size<=i⟩
theorem ZfM{P:Program}{w:World}{K:W.Frag}{tg:Expr}(it:Addr)(z:Str)(t:Tok):ZjI P w K tg (Its z) [it] it (fun i h=>h.IsStrIter it "str_ascii_iterator" z t i) where
 mem:=by simp
 obj:=fun i h st b hb=>by
  have e:b=it:=by simpa using hb
  subst e
  obtain⟨o,e,c,d⟩:=st
  exact⟨o,e,fun v z=>by rw[d] at z;cases z⟩
 keep:=fun i h h' st k=>by
  obtain⟨o,e,c,d⟩:=st
  exact⟨o,k it (by simp) o e,c,d⟩
 item:=by
  intro X hP hw hK hc i pins s σ H E I hf st hg
  subst hP hw hK
  have hg:i<z.cps.size:=hg
  obtain⟨f0,f1,f2,f3,f4,f5⟩:=hf it (by simp)
  have hc':z.cps[i]?=some (z.cps[i]):=by simp[hg]
  refine wpAny_pyNext_ascii_item st hc' fun h' st' sb=>?_
  have I1:Inv X pins σ H { s with heap:=h',toks:=s.toks+1 }:=I.turned (t':=s.toks+1) (fun b o hb e=>(sb.2 b hb).trans e) f0 f1 f3 f4 f5
  obtain⟨o,e,c,d⟩:=id st'
  exact⟨_,rfl,Zho (s:={ s with heap:=h',toks:=s.toks+1 }) e c d (by decide) ⟨.str ⟨#[z.cps[i]]⟩,H,I1,⟨_,rfl⟩,⟨rfl,_,hc',rfl⟩,st',fun b hb=>(hf b hb).1⟩⟩
 done:=by
  intro X hP hw hK hc i pins s σ H E I hf st hg
  subst hP hw hK
  have hg:z.cps.size<=i:=hg
  obtain⟨f0,f1,f2,f3,f4,f5⟩:=hf it (by simp)
  exact wpAny_pyNext_ascii_end (I.ok.hd hc) st (by simp;lia) fun h' eb=>⟨rfl,I.turned (t':=s.toks) (fun b o hb e=>eb b o hb e) f0 f1 f3 f4 f5⟩
 self:=fun _ _ _ _ _ st h=>wpAny_pyIter_striter_ascii st h
theorem ZfL{P:Program}{w:World}{K:W.Frag}{tg:Expr}(it:Addr)(z:Str)(t:Tok):ZjI P w K tg (Its z) [it] it (fun i h=>h.IsStrIter it "str_iterator" z t i) where
 mem:=by simp
 obj:=fun i h st b hb=>by
  have e:b=it:=by simpa using hb
  subst e
  obtain⟨o,e,c,d⟩:=st
  exact⟨o,e,fun v z=>by rw[d] at z;cases z⟩
 keep:=fun i h h' st k=>by
  obtain⟨o,e,c,d⟩:=st
  exact⟨o,k it (by simp) o e,c,d⟩
 item:=by
  intro X hP hw hK hc i pins s σ H E I hf st hg
  subst hP hw hK
  have hg:i<z.cps.size:=hg
  obtain⟨f0,f1,f2,f3,f4,f5⟩:=hf it (by simp)
  have hc':z.cps[i]?=some (z.cps[i]):=by simp[hg]
  refine wpAny_pyNext_wide_item st hc' fun h' st' sb=>?_
  have I1:Inv X pins σ H { s with heap:=h',toks:=s.toks+1 }:=I.turned (t':=s.toks+1) (fun b o hb e=>(sb.2 b hb).trans e) f0 f1 f3 f4 f5
  obtain⟨o,e,c,d⟩:=id st'
  exact⟨_,rfl,Zho (s:={ s with heap:=h',toks:=s.toks+1 }) e c d (by decide) ⟨.str ⟨#[z.cps[i]]⟩,H,I1,⟨_,rfl⟩,⟨rfl,_,hc',rfl⟩,st',fun b hb=>(hf b hb).1⟩⟩
 done:=by
  intro X hP hw hK hc i pins s σ H E I hf st hg
  subst hP hw hK
  have hg:z.cps.size<=i:=hg
  obtain⟨f0,f1,f2,f3,f4,f5⟩:=hf it (by simp)
  exact wpAny_pyNext_wide_end (I.ok.hd hc) st (by simp;lia) fun h' eb=>⟨rfl,I.turned (t':=s.toks) (fun b o hb e=>eb b o hb e) f0 f1 f3 f4 f5⟩
 self:=fun _ _ _ _ _ st h=>wpAny_pyIter_striter_wide st h
noncomputable def Zod(tl:TE):TI:=fun σ H R=>tl σ H fun x H1=>∃z,x=.str z/\R (Its z) H1
theorem ZlP{X:Cx}{tg l:Expr}{tl:TE}(hl:PE X l tl):PI X tg l (Zod tl):=by
 intro pins s σ H R I h
 refine thn (hl pins s σ H _ I h) fun v s1 ⟨x,H1,I1,r1,q1⟩=>?_
 obtain⟨z,rfl,q⟩:=q1
 obtain⟨t,rfl⟩:=r1
 have fp:∀b∈[s1.heap.objs.size],ZhQ X pins H1 b:=fun b hb=>by
  have e:b=s1.heap.objs.size:=by simpa using hb
  subst e
  exact I1.fpOk (Zxi _) (I1.hok.fresh (Zxi _))
 cases ha:z.cps.all (·<128)
 ·exact wpAny_pyIter_wide ha ⟨s1.heap.objs.size,[s1.heap.objs.size],_,_,H1,rfl,I1.kept (t':=s1.toks) fun b o e=>Heap.get?_push_of_some _ e,ZfL _ z t,⟨_,Heap.get?_push_size _ rfl,rfl,rfl⟩,fp,q⟩
 ·exact wpAny_pyIter_ascii ha ⟨s1.heap.objs.size,[s1.heap.objs.size],_,_,H1,rfl,I1.kept (t':=s1.toks) fun b o e=>Heap.get?_push_of_some _ e,ZfM _ z t,⟨_,Heap.get?_push_size _ rfl,rfl,rfl⟩,fp,q⟩
noncomputable def Zok(x:PV):Rr (List PV):=match x with
 |.str z=>.ok (z.cps.toList.map fun c=>PV.str ⟨#[c]⟩)
 |_=>.bad
section
variable {K:W.Frag}{H:Hp}{EX:PX->Hp->Prop}{Γ Γ':List Md}{te:TE}{f:List PV->Rr PV}
theorem Zk0{z:Str}{S:Addr->Prop}:ItP K S (Its z) (z.cps.toList.map fun c=>PV.str ⟨#[c]⟩) H:=by
 intro i
 constructor
 ·intro x hx
  rw[Zxm] at hx
  obtain⟨c,hc,rfl⟩:=ZxR.mp hx
  have hc:z.cps[i]?=some c:=by simpa using hc
  refine⟨(Array.getElem?_eq_some_iff.mp hc).1,fun v H' ⟨e,c',y,hv⟩=>?_⟩
  subst e
  rw[hc] at y;cases y
  subst hv
  exact⟨Z9.refl _,rfl⟩
 ·intro hx
  have:=Zx6.mp hx
  show z.cps.size<=i
  simpa using this
theorem Zm4(he:DE K EX Γ Γ' .A te f):DI K EX Γ Γ' (Zod te) (fun ρ=>(f ρ).bind Zok):=fun B H0 H σ ρ F R Q A d=>by
 refine he B H0 H σ ρ F R _ A (d.bind.imp (fun x _ d v H1 s1 r1=>?_) fun e q=>q)
 obtain⟨F1,f1,p1,A1⟩:=r1
 cases x with
 |str z =>
  cases p1
  exact⟨z,rfl,d _ H1 F1 s1 f1 A1 fun H2 F2 _=>Zk0⟩
 |_=>exact d.elim
end
section
variable {prog:Program}{w:World}{A:Around}{E:Value->Shared->Prop}{s:Shared}{x y:Str}{t u:Tok}{Q:Value->Shared->Prop}
open Builtin Builtin.Str
theorem ZeS(hy:(y.length==0)=false)(h:∀(l:List (Str×Tok)) (k:Nat),l.map (·.1)=Txt.split x y->Q (.ref s.heap.objs.size) { s with heap:=s.heap.push { cls:=.type "list",data:=.seq (strValues l).toArray },toks:=k })(hsz:x.length+2<=sizeLine):wpAny (model prog w) A (call (.builtin "str.split") [.str x t,.str y u]) Q E s:=by
 have hn:(partsBetween x (occurrences x y 0 x.length (x.length+1)) y.length).length<=sizeLine:=by
  have e1:=StrLaws.occ_length_le x y 0 x.length (x.length+1)
  rw[length_partsBetween];lia
 cases h1:(decide (x.length<y.length) || decide (strKind x<strKind y))
 ·cases hf:(occurrences x y 0 x.length (x.length+1)).isEmpty
  ·refine call_meets F.slot_str_split (typeIs_str _ _ _) F.entry_str_split (F.args_str_split_2 _ _) (meets_str_split_sep x y t u h1 hy hf (by lia) hn) ?_
   show wants Q E _ { s with toks:=_,heap:=s.heap.push { cls:=.type "list",data:=.seq (strsFrom s.toks (partsBetween x (occurrences x y 0 x.length (x.length+1)) y.length)).toArray } }
   rw[strsFrom_eq]
   exact h (numbered s.toks _) _ ((numbered_texts _ _).trans ((if_neg (ne_true_of_eq_false h1)).trans (if_neg (ne_true_of_eq_false hf))).symm)
  ·exact call_meets F.slot_str_split (typeIs_str _ _ _) F.entry_str_split (F.args_str_split_2 _ _) (meets_str_split_not_found x y t u h1 hy hf)
    (h [(x,t)] s.toks ((if_neg (ne_true_of_eq_false h1)).trans (if_pos hf)).symm)
 ·exact call_meets F.slot_str_split (typeIs_str _ _ _) F.entry_str_split (F.args_str_split_2 _ _) (meets_str_split_cannot_occur x y t u h1)
   (h [(x,t)] s.toks (if_pos h1).symm)
theorem ZbY:∀(l:List (Str×Tok)),ZU ((l.map (·.1)).map V.str) (strValues l)
 |[]=>.nil
 |p::l=>.cons ⟨_,rfl⟩ (ZbY l)
theorem ZbR:∀{ss:List Str}{us:List Value},ZU (ss.map V.str) us->StrsAre us ss
 |[],_,.nil=>.nil
 |_::_,_,.cons ⟨t,e⟩ h=>by subst e;exact .cons _ _ (ZbR h)
end
def Zjq:V->List V->Hp->VK->Prop:=fun x xs H Q=>∃a b,x=.str a/\xs=[.str b]/\1<=b.length/\a.length+2<=sizeLine/\(Txt.split a b).length<=sizeLine/\∀l,H l=none->Q (.ref l) (upd H l (.lst ((Txt.split a b).map V.str)))
def ZlI(K:W.Frag):V->List V->Hp->VK->Prop:=fun x xs H Q=>∃a p ss,x=.str a/\xs=[.ref p]/\SqL K H p (ss.map V.str)/\(ss.map (·.length)).sum+ss.length*a.length<=16777216/\Q (.str (Txt.join a ss)) H
section
variable {X:Cx}{K:W.Frag}
theorem Zbu:MtR X "str.split" Zjq:=by
 intro pins s σ H x xs v us Q I rx r h
 obtain⟨a,b,rfl,rfl,hb,hl,hn,q⟩:=h
 obtain⟨t,rfl⟩:=rx
 obtain⟨u,rfl,ru⟩:=UJ r
 obtain⟨t',rfl⟩:=ru
 refine ZeS (by rw[beq_eq_false_iff_ne];lia) (fun l k e=>?_) hl
 have hv:=ZbY l
 rw[e] at hv
 exact⟨.ref s.heap.objs.size,_,I.laid (t':=k) (fun b o e=>Heap.get?_push_of_some _ e) (Zxi _) (show JQ X.prog X.w _ _ _ (.lst ((Txt.split a b).map V.str)) from ⟨by rw[Zxc];exact hn,_,0,hv,Heap.get?_push_size _ rfl⟩),rfl,q _ (I.hok.fresh (Zxi _))⟩
theorem ZgK(e:X.K=K:=by rfl):MtR X "str.join" (ZlI K):=by
 subst e
 intro pins s σ H x xs v us Q I rx r h
 obtain⟨a,p,ss,rfl,rfl,hq,hl,q⟩:=h
 obtain⟨t,rfl⟩:=rx
 obtain⟨u,rfl,ru⟩:=UJ r
 cases ru
 obtain⟨its,rv,pl,hz⟩:=I.list hq
 exact PyProof.Rows.join_list pl.isList (by simpa using ZbR rv) hl fun t' k=>⟨.str _,H,I.tok k,⟨_,rfl⟩,q⟩
end
noncomputable def VJ:List PV->Option (List Str)
 |[]=>some []
 |.str z::xs=>(VJ xs).map (z::·)
 |_::_=>none
theorem ZaD(ss:List Str):VJ (ss.map PV.str)=some ss:=by
 induction ss with
 |nil=>rfl
 |cons n ns ih=>simp[VJ,ih]
theorem ZbZ:∀{xs:List PV}{ss:List Str},VJ xs=some ss->xs=ss.map PV.str
 |[],_,h=>by cases h;rfl
 |.str z::xs,ss,h=>by
  simp only[VJ,ZxR] at h
  obtain⟨l,e,rfl⟩:=h
  rw[ZbZ e];rfl
 |.non::_,_,h=>by simp[VJ] at h
 |.bl _::_,_,h=>by simp[VJ] at h
 |.int _::_,_,h=>by simp[VJ] at h
 |.exc _::_,_,h=>by simp[VJ] at h
 |.lst _::_,_,h=>by simp[VJ] at h
 |.tup _::_,_,h=>by simp[VJ] at h
noncomputable def Zab(a:Str)(as:List PV):Rr PV:=match as with
 |[.str b]=>if 1<=b.length/\a.length<=100000/\(Txt.split a b).length<=1000000 then .ok (.lst ((Txt.split a b).map PV.str)) else .bad
 |_=>.bad
noncomputable def Zdi(a:Str)(as:List PV):Rr PV:=match as with
 |[.lst xs]=>match VJ xs with
  |some ss=>if (ss.map (·.length)).sum+ss.length*a.length<=1000000 then .ok (.str (Txt.join a ss)) else .bad
  |none=>.bad
 |_=>.bad
theorem VX:∀{ss:List Str},PV.flats (ss.map PV.str)=true
 |[]=>rfl
 |n::ns=>by simp only[Zxf,PV.flats,PV.flat,VX,Bool.and_self]
section
variable {K:W.Frag}{H:Hp}{EX:PX->Hp->Prop}{Γ Γ1 Γ2:List Md}{te:TE}{ta:TA}{f:List PV->Rr PV}{fa:List PV->Rr (List PV)}
theorem ZdS{S:Addr->Prop}:∀(ss:List Str),Reps K H S (ss.map PV.str) (ss.map V.str)
 |[]=>rfl
 |z::ss=>⟨_,_,rfl,rfl,ZdS ss⟩
theorem QV{S:Addr->Prop}:∀{ss:List Str}{vs:List V},Reps K H S (ss.map PV.str) vs->vs=ss.map V.str
 |[],_,h=>by cases h;rfl
 |z::ss,_,h=>by
  obtain⟨v,r,rfl,h1,h2⟩:=h
  cases h1
  rw[QV h2];rfl
theorem ZbD(he:DE K EX Γ Γ1 .A te f)(ha:DAA K EX Γ1 Γ2 ta fa):DE K EX Γ Γ2 .F (tBM K "str" Zjq te ta) (fun ρ=>(f ρ).bind fun x=>(asS x).bind fun a=>(fa ρ).bind fun as=>Zab a as):=fun B H0 H σ ρ F R Q A d=>by
 refine he B H0 H σ ρ F R _ A (d.bind.imp (fun x _ d v H1 s1 r1=>?_) fun e q=>q)
 obtain⟨F1,f1,p1,A1⟩:=r1
 cases x with
 |str a =>
  cases p1
  refine⟨rfl,ha B H0 H1 σ ρ F1 R _ A1 (Dn.imp (Dn.bind d) (fun as _ d us H2 F2 s2 f2 p2 A2=>?_) fun e q=>q)⟩
  unfold Zab at d
  split at d
  ·rename_i b _
   split at d
   ·rename_i hc
    obtain⟨u,rfl,hu⟩:=UO p2
    cases hu
    refine⟨a,b,rfl,rfl,hc.1,Ul (by lia),Ul hc.2.2,fun l hl=>?_⟩
    exact d _ _ ((s1.trans s2).trans (Z9.new hl)) (Res.newP (s1.trans s2) (fun i z h=>f1 i z (f2 i z h)) (ZdS (S:=fun _=>True) _) VX A2 hl)
   ·exact d.elim
  ·exact d.elim
 |_=>exact d.elim
theorem Zhu(he:DE K EX Γ Γ1 .A te f)(ha:DAA K EX Γ1 Γ2 ta fa):DE K EX Γ Γ2 .P (tBM K "str" (ZlI K) te ta) (fun ρ=>(f ρ).bind fun x=>(asS x).bind fun a=>(fa ρ).bind fun as=>Zdi a as):=fun B H0 H σ ρ F R Q A d=>by
 refine he B H0 H σ ρ F R _ A (d.bind.imp (fun x _ d v H1 s1 r1=>?_) fun e q=>q)
 obtain⟨F1,f1,p1,A1⟩:=r1
 cases x with
 |str a =>
  cases p1
  refine⟨rfl,ha B H0 H1 σ ρ F1 R _ A1 (Dn.imp (Dn.bind d) (fun as _ d us H2 F2 s2 f2 p2 A2=>?_) fun e q=>q)⟩
  unfold Zdi at d
  split at d
  ·rename_i xs _
   split at d
   ·rename_i ss hs
    split at d
    ·rename_i hc
     obtain⟨u,rfl,b,vs,rfl,hn,hr⟩:=UO p2
     rw[ZbZ hs] at hr
     have:=QV hr
     subst this
     exact⟨a,b,ss,rfl,rfl,JN (S:=fun _=>True) hn,by lia,d _ H2 (s1.trans s2) ⟨F2,fun i z h=>f1 i z (f2 i z h),rfl,rfl,A2⟩⟩
    ·exact d.elim
   ·exact d.elim
  ·exact d.elim
 |_=>exact d.elim
end
theorem ZkX{z:Str}:Zok (.str z)=.ok (z.cps.toList.map fun c=>PV.str ⟨#[c]⟩):=rfl
theorem Ze3{α β:Type}{f:α->Rr β}:∀{xs:List α},ZiH (fun x=>(f x).bind fun y=>.ok (some y)) xs=Zay f xs
 |[]=>rfl
 |x::xs=>by
  simp only[ZiH,Zay,Rr.assoc,Ze3 (xs:=xs),Rr.bind_ok,Option.toList,List.singleton_append]
section
variable {K:W.Frag}{EX:PX->Hp->Prop}{Γ Γ1:List Md}{te:TE}{fe:List PV->Rr PV}
theorem ZN{wi:TI}{fi:List PV->Rr (List PV)}(hi:DIc K EX Γ Γ1 wi fi)(he:DE K EX (Γ1++[.S]) (Γ1++[.S]) .F te fe) :
  DE K EX Γ Γ1 .F (ZaB wi tB1 Zl1 te) (fun ρ=>(fi ρ).bind fun xs=>(lenM xs).bind fun _=>(Zay (fun x=>fe (ρ++[x])) xs).bind fun ys=>.ok (.lst ys)):=by
 have h:=ZbF (k:=1) hi Zoh Zhs he
 simp only[Rr.bind_ok,if_true,Ze3] at h
 exact h
variable {X:Cx}{scope:Scope}{x y:Str}{elt iter:Expr}{pos px py spos:Pos}{wi:TI}{i:Nat}
theorem Jk(hi:PI X (.Name x px) iter wi)(he:∀C s₂ H₂ ex,PE (Uy X scope [x] C ex s₂ H₂) elt te)(hNd:X.N.Nodup)(hc:X.calm=true)(hclos:closureFor scope X.env=pure (Zh5 scope X.env):=by rfl)(hchk:JU X.N X.env.scope scope [x]=true:=by rfl)(hs:∀x,foldedSetIterable iter X.env x=pure x:=by exact fun _=>rfl) :
  PE X (.ListComp elt [⟨.Name x px,iter,[],0⟩] scope pos) (ZaB wi tB1 Zl1 te):=Zbm hi (Zdh hNd hchk) (fun _ _ _ _=>Zec) he hv1 hNd hc hclos hchk hs
theorem JC(hN:X.N.Nodup)(hi:X.N[i]?=some y)(hit:PI X (.Name x px) iter wi)(he:∀C s₂ H₂ ex,PE (Uy X scope [x] C ex s₂ H₂) elt te)(hc:X.calm=true)(hsw:swapsWith (.ListComp elt [⟨.Name x px,iter,[],0⟩] scope pos) (some (.Name y py)) spos.line X.env=pure true:=by rfl)(hy:X.env.scope.names.lookup y=some .local:=by rfl)(hclos:closureFor scope X.env=pure (Zh5 scope X.env):=by rfl)(hchk:JU X.N X.env.scope scope [x]=true:=by rfl)(hs:∀x,foldedSetIterable iter X.env x=pure x:=by exact fun _=>rfl) :
  PS X (.Assign [.Name y py] (.ListComp elt [⟨.Name x px,iter,[],0⟩] scope pos) spos) (QT i wi tB1 Zl1 te):=Zdb hN hi hit (Zdh hN hchk) (fun _ _ _ _=>Zec) he hv1 hc hsw hy hclos hchk hs
variable {B:Addr->Prop}{H0 H:Hp}{σ:St}{Γ':List Md}{ρ:List PV}{F:Nat->List Addr}{R:List Addr}
theorem ZkC{ta:TA}{fa:List PV->Rr (List PV)}(ha:DAA K EX Γ Γ' ta fa):DE K EX Γ Γ' .A (ZmJ ta) (fun ρ=>(fa ρ).bind mkL):=fun B H0 H σ ρ F R Q A d=>by
 refine ha B H0 H σ ρ F R _ A (d.bind.imp (fun xs _ d vs H1 F1 s1 f1 p1 A1=>?_) fun e q=>q)
 obtain⟨hl,d⟩:=Dn.mkL d
 refine⟨by rw[p1.length];exact UV hl,fun p hp=>?_⟩
 have e:=Z9.new (H:=H1) (o:=.lst vs) hp
 exact d _ _ (s1.trans e) ⟨F1,f1,⟨p,vs,rfl,.inl ⟨.inl ZE,trivial⟩,p1.same e⟩,A1.grow e⟩
end
section
variable {κ:Type} [DecidableEq κ]
noncomputable def ZfJ(kvs:List (κ×V))(k:κ):Option V:=(kvs.find? fun kv=>decide (kv.1=k)).map (·.2)
noncomputable def ZfA(kvs:List (κ×V))(k:κ)(v:V):List (κ×V):=
 if (kvs.any fun kv=>decide (kv.1=k))=true then kvs.map (fun kv=>if kv.1=k then (kv.1,v) else kv) else kvs++[(k,v)]
theorem QF{p:κ×V}{r:List (κ×V)}{k:κ}(e:p.1=k):ZfJ (p::r) k=some p.2:=by simp[ZfJ,ZxU,e]
theorem QG{p:κ×V}{r:List (κ×V)}{k:κ}(e:¬p.1=k):ZfJ (p::r) k=ZfJ r k:=by simp[ZfJ,ZxU,e]
theorem ZdM(k:κ):∀kvs:List (κ×V),(kvs.any fun kv=>decide (kv.1=k))=(ZfJ kvs k).isSome
 |[]=>rfl
 |p::r=>by
  rw[Zyh]
  by_cases e:p.1=k
  ·simp only[QF e,decide_eq_true e,Bool.true_or,Option.isSome_some]
  ·rw[QG e,decide_eq_false e,Bool.false_or];exact ZdM k r
theorem Zag(kvs:List (κ×V))(k:κ)(v:V):(ZfA kvs k v).length<=kvs.length+1:=by
 unfold ZfA
 split
 ·rw[Zxc];lia
 ·rw[Zxq,Zxp,Zx9];lia
theorem ZhS.isSome_eq{o:Option V}{u:Option Value}(r:ZhS o u):o.isSome=u.isSome:=by
 cases o with
 |none=>cases u with
  |none=>rfl
  |some _=>exact(show False from r).elim
 |some _=>cases u with
  |none=>exact(show False from r).elim
  |some _=>rfl
theorem KV.val{kvs:List (κ×V)}{vs:List (κ×Value)}(r:KV kvs vs)(k:κ):ZhS (ZfJ kvs k) (valueAt vs k):=by
 unfold KV at r
 induction r with
 |nil=>exact True.intro
 |@cons p q ps qs h t ih =>
  obtain⟨h1,h2⟩:=h
  by_cases e:p.1=k
  ·have e':q.1=k:=h1.symm.trans e
   have b:valueAt (q::qs) k=some q.2:=by simp[valueAt,ZxU,e']
   rw[QF e,b];exact h2
  ·have e':¬q.1=k:=fun z=>e (h1.trans z)
   have b:valueAt (q::qs) k=valueAt qs k:=by simp[valueAt,ZxU,e']
   rw[QG e,b];exact ih
theorem KV.any{kvs:List (κ×V)}{vs:List (κ×Value)}(r:KV kvs vs)(k:κ):(kvs.any fun kv=>decide (kv.1=k))=vs.any fun kv=>decide (kv.1=k):=by
 unfold KV at r
 induction r with
 |nil=>rfl
 |cons h t ih=>rw[Zyh,Zyh,ih,h.1]
theorem KV.repl{kvs:List (κ×V)}{vs:List (κ×Value)}(r:KV kvs vs)(k:κ){y:V}{u:Value}(ry:J2 y u) :
  KV (kvs.map fun kv=>if kv.1=k then (kv.1,y) else kv) (vs.map fun kv=>if kv.1=k then (kv.1,u) else kv):=by
 unfold KV at r ⊢
 induction r with
 |nil=>exact .nil
 |@cons p q ps qs h t ih =>
  rw[Zxf,Zxf]
  refine .cons ?_ ih
  obtain⟨h1,h2⟩:=h
  by_cases e:p.1=k
  ·rw[if_pos e,if_pos (h1.symm.trans e)];exact⟨h1,ry⟩
  ·rw[if_neg e,if_neg (fun z=>e (h1.trans z))];exact⟨h1,h2⟩
theorem KV.put{kvs:List (κ×V)}{vs:List (κ×Value)}(r:KV kvs vs)(k:κ){y:V}{u:Value}(ry:J2 y u):KV (ZfA kvs k y) (stored vs k u):=by
 unfold ZfA stored
 rw[r.any k]
 by_cases e:(vs.any fun kv=>decide (kv.1=k))=true
 ·rw[if_pos e,if_pos e];exact r.repl k ry
 ·rw[if_neg e,if_neg e];exact Paired.snoc r ⟨rfl,ry⟩
theorem KV.length{kvs:List (κ×V)}{vs:List (κ×Value)}(r:KV kvs vs):kvs.length=vs.length:=Paired.length r
end
theorem ZiB{P:Program}{w:World}{k:Key}{u:Value}(r:J2 (kV k) u):(JE P w).is k u=true:=by
 cases k with
 |inl i=>obtain⟨t,e⟩:=(show ∃t,u=Value.int i t from r);subst e;exact Zdm P w i t
 |inr x=>obtain⟨t,e⟩:=(show ∃t,u=Value.str x t from r);subst e;exact Zdl P w x t
theorem Zc2{P:Program}{w:World}:∀{ks:List Key}{us:List Value},ZU (ks.map kV) us->ItemsAre (JE P w) ks us
 |[],_,r=>by rw[ZxT] at r;cases r;exact .nil
 |k::ks,_,r=>by
  rw[Zxf] at r
  cases r with
  |cons h t=>exact .cons (ZiB h) (Zc2 t)
noncomputable abbrev KT(H:Hp):List (List Key×V)->List (List Key×Addr×Value)->Prop:=Paired fun p q=>p.1=q.1/\H q.2.1=some (.tup (p.1.map kV))/\J2 p.2 q.2.2
theorem KT.val{H:Hp}{kvs:List (List Key×V)}{xs:List (List Key×Addr×Value)}(r:KT H kvs xs)(k:List Key):ZhS (ZfJ kvs k) ((atKey xs k).map (·.2)):=by
 induction r with
 |nil=>exact True.intro
 |@cons p q ps qs h t ih =>
  obtain⟨h1,_,h2⟩:=h
  by_cases e:p.1=k
  ·have e':q.1=k:=h1.symm.trans e
   have b:atKey (q::qs) k=some q.2:=by simp[atKey,ZxU,e']
   rw[QF e,b];exact h2
  ·have e':¬q.1=k:=fun z=>e (h1.trans z)
   have b:atKey (q::qs) k=atKey qs k:=by simp[atKey,ZxU,e']
   rw[QG e,b];exact ih
theorem KT.repl{H:Hp}{kvs:List (List Key×V)}{xs:List (List Key×Addr×Value)}(r:KT H kvs xs)(k:List Key){y:V}{u:Value}(ry:J2 y u) :
  KT H (kvs.map fun kv=>if kv.1=k then (kv.1,y) else kv) (xs.map (putAt k u)):=by
 induction r with
 |nil=>exact .nil
 |@cons p q ps qs h t ih =>
  rw[Zxf,Zxf]
  refine .cons ?_ ih
  obtain⟨h1,h2,h3⟩:=h
  unfold putAt
  by_cases e:p.1=k
  ·rw[if_pos e,if_pos (h1.symm.trans e)];exact⟨h1,h2,ry⟩
  ·rw[if_neg e,if_neg (fun z=>e (h1.trans z))];exact⟨h1,h2,h3⟩
theorem KT.put{H:Hp}{kvs:List (List Key×V)}{xs:List (List Key×Addr×Value)}(r:KT H kvs xs)(k:List Key){b:Addr}{y:V}{u:Value}(hb:H b=some (.tup (k.map kV)))(ry:J2 y u) :
  KT H (ZfA kvs k y) (storedH xs k b u):=by
 have e:(kvs.any fun kv=>decide (kv.1=k))=(atKey xs k).isSome:=by
  rw[ZdM,(r.val k).isSome_eq,ZxX]
 unfold ZfA storedH
 rw[e]
 by_cases q:(atKey xs k).isSome=true
 ·rw[if_pos q,if_pos q];exact r.repl k ry
 ·rw[if_neg q,if_neg q];exact Paired.snoc r ⟨rfl,hb,ry⟩
theorem KT.keeps{H H':Hp}{kvs:List (List Key×V)}{xs:List (List Key×Addr×Value)}(r:KT H kvs xs)(ht:∀b ys,H b=some (.tup ys)->H' b=some (.tup ys)):KT H' kvs xs:=
 Paired.mapP r fun _ _ z=>⟨z.1,ht _ _ z.2.1,z.2.2⟩
section
variable {P:Program}{w:World}{H:Hp}{h:Heap}{a:Addr}
theorem ZlF{u:HO}(ok:HOk P w H h)(e:Rd H a u):JQ P w H h a u:=e.ok ok
theorem ZiK{kvs:List (Key×V)}(ok:HOk P w H h)(e:Rd H a (.dK kvs)):kvs.length<=sizeLine/\(a==sysModules)=false/\∃vs,KV kvs vs/\h.DictOf (JE P w) a vs:=
 show JQ P w H h a (.dK kvs) from ZlF ok e
theorem Zn1{kvs:List (Key×V)}(ok:HOk P w H h)(e:H a=some (.dK kvs)):kvs.length<=sizeLine/\(a==sysModules)=false/\∃vs,KV kvs vs/\h.DictOf (JE P w) a vs:=ZiK ok (.inl e)
theorem Zeu{ks:List Key}(ok:HOk P w H h)(e:H a=some (.tup (ks.map kV))):(tupleKind (JE P w)).is h ks a:=by
 obtain⟨_,its,r,o,h1,h2,n,h3⟩:=(show JQ P w H h a (.tup (ks.map kV)) from ok a _ e)
 exact⟨o,its.toArray,n,h1,h2,h3,by simpa using Zc2 r⟩
theorem ZiI{kvs:List (List Key×V)}(ok:HOk P w H h)(e:Rd H a (.dT kvs)):kvs.length<=sizeLine/\(a==sysModules)=false /\
  ∃xs,KT H kvs xs/\h.DictOfH (tupleKind (JE P w)) a xs:=by
 obtain⟨z,y,xs,r,o,es,ep,h1,h2,h3,h4,h5⟩:=(show JQ P w H h a (.dT kvs) from ZlF ok e)
 refine⟨z,y,xs,r,o,es,ep,h1,h2,h3,h4,fun x hx=>?_,h5⟩
 have all:∀{l:List (List Key×V)}{m:List (List Key×Addr×Value)},KT H l m->∀x∈m,(tupleKind (JE P w)).is h x.1 x.2.1:=by
  intro l m q
  induction q with
  |nil=>intro x hx;exact nomatch hx
  |@cons p q ps qs hq t ih =>
   intro x hx
   rcases Zxd.mp hx with e|hx
   ·subst e
    exact Zeu ok (by rw[<- hq.1];exact hq.2.1)
   ·exact ih x hx
 exact all r x hx
theorem Zn0{kvs:List (List Key×V)}(ok:HOk P w H h)(e:H a=some (.dT kvs)):kvs.length<=sizeLine/\(a==sysModules)=false /\
  ∃xs,KT H kvs xs/\h.DictOfH (tupleKind (JE P w)) a xs:=ZiI ok (.inl e)
end
def Zlp(H:Hp)(a:Addr)(y:V)(r:Option V):Prop:=
 (∃kvs k,Rd H a (.dK kvs)/\y=kV k/\r=ZfJ kvs k)\/∃kvs k b,Rd H a (.dT kvs)/\y=.ref b/\H b=some (.tup (k.map kV))/\r=ZfJ kvs k
def Zoq(H:Hp)(a:Addr)(y v:V)(H':Hp):Prop:=
 (∃kvs k,H a=some (.dK kvs)/\y=kV k/\kvs.length<sizeLine/\H'=upd H a (.dK (ZfA kvs k v))) \/
 ∃kvs k b,H a=some (.dT kvs)/\y=.ref b/\H b=some (.tup (k.map kV))/\kvs.length<sizeLine/\H'=upd H a (.dT (ZfA kvs k v))
section
variable {X:Cx}{pins:List (Addr×Obj)}{σ:St}{H:Hp}{s:Shared}{a:Addr}{y v:V}{u r:Value}{o:Option V}{A:Around}{E:Value->Shared->Prop}
theorem Inv.big(I:Inv X pins σ H s):sysModules<s.heap.objs.size:=by
 have h:mainGlobals<s.heap.objs.size:=(I.mod.glob.keeps I.bk).lt
 exact Nat.lt_trans (by decide) h
theorem Zh3{Q:Value->Shared->Prop}(hu:A.units+1<cLine)(I:Inv X pins σ H s)(g:Zlp H a y (some v))(ry:J2 y u)(h:∀w' s',Inv X pins σ H s'->J2 v w'->Q w' s') :
  wpAny (model X.prog X.w) A (getItem (.ref a) u) Q E s:=by
 rcases g with ⟨kvs,k,e,ey,l⟩|⟨kvs,k,b,e,ey,eb,l⟩
 ·subst ey
  obtain⟨z,hd,vs,rel,dd⟩:=ZiK I.hok e
  obtain⟨w',hw,rw'⟩:=ZhS.some_of (v:=v) (o:=valueAt vs k) (by rw[l];exact rel.val k)
  exact wpAny_getItem_of (ZiB ry) dd.mapOf hw (h w' _ (I.tok _) rw')
 ·subst ey
  cases (show u=Value.ref b from ry)
  obtain⟨z,hd,xs,rel,dd⟩:=ZiI I.hok e
  obtain⟨w',hw,rw'⟩:=ZhS.some_of (v:=v) (o:=(atKey xs k).map (·.2)) (by rw[l];exact rel.val k)
  obtain⟨p,hp,hp2⟩:=ZxR.mp hw
  refine wpAny_getItem_heap (tupleKind_room_in1 hu) (Zeu I.hok eb) dd hp ?_
  rw[hp2]
  exact h w' _ (I.tok _) rw'
theorem ZkK{Q:Value->Shared->Prop}(hu:A.units+1<cLine)(I:Inv X pins σ H s)(g:Zlp H a y o)(ry:J2 y u)(h:∀s',Inv X pins σ H s'->Q (.bool (!o.isSome)) s') :
  wpAny (model X.prog X.w) A (compareOp .NotIn u (.ref a)) Q E s:=by
 rcases g with ⟨kvs,k,e,ey,l⟩|⟨kvs,k,b,e,ey,eb,l⟩
 ·subst ey
  obtain⟨z,hd,vs,rel,dd⟩:=ZiK I.hok e
  refine wpAny_notIn_of (ZiB ry) hd dd.mapOf ?_
  rw[<- (rel.val k).isSome_eq,<- l]
  exact h _ (I.tok _)
 ·subst ey
  cases (show u=Value.ref b from ry)
  obtain⟨z,hd,xs,rel,dd⟩:=ZiI I.hok e
  refine wpAny_notIn_heap (tupleKind_room_in1 hu) (Zeu I.hok eb) hd dd ?_
  have q:=(rel.val k).isSome_eq
  rw[ZxX] at q
  rw[<- q,<- l]
  exact h _ (I.tok _)
theorem Zh1{h':Heap}{t':Nat}{ob:HO}(I:Inv X pins σ H s)(mu:Mut (H a))(hs:Heap.SameBut a s.heap h')(he:∃q,h'.get? a=some q)(new:JQ X.prog X.w (upd H a ob) h' a ob) :
  Inv X pins σ (upd H a ob) { s with heap:=h',toks:=t' }:=
 I.write (x:=a) (e:=a) mu (.inl rfl) (fun b q hb z=>(hs.2 b hb).trans z) he new
theorem Zm2{P:Program}{w:World}{H':Hp}{h':Heap}{kvs:List (Key×V)}{vs:List (Key×Value)}(z:kvs.length<=sizeLine)(hd:(a==sysModules)=false)(rel:KV kvs vs)(dd:h'.DictOf (JE P w) a vs) :
  JQ P w H' h' a (.dK kvs):=⟨z,hd,vs,rel,dd⟩
theorem Zh2{H':Hp}{Q:Unit->Shared->Prop}(hu:A.units+1<cLine)(I:Inv X pins σ H s)(g:Zoq H a y v H')(ry:J2 y u)(rv:J2 v r)(h:∀s',Inv X pins σ H' s'->Q () s') :
  wpAny (model X.prog X.w) A (setItem (.ref a) u r) Q E s:=by
 rcases g with ⟨kvs,k,e,ey,l,eH⟩|⟨kvs,k,b,e,ey,eb,l,eH⟩
 ·subst ey eH
  obtain⟨z,hd,vs,rel,dd⟩:=Zn1 I.hok e
  have hz:vs.length<=sizeLine:=by rw[<- rel.length];exact z
  have hl:(ZfA kvs k v).length<=sizeLine:=by have:=Zag kvs k v;lia
  refine wpAny_setItem_pairs (hsz:=hz) (ZiB ry) dd fun h' dd' hs=>h _ ?_
  have he:∃q,h'.get? a=some q:=let ⟨q,_,_,hq,_⟩:=dd';⟨q,hq⟩
  exact Zh1 I (by rw[e];exact True.intro) hs he (Zm2 hl hd (rel.put k rv) dd')
 ·subst ey eH
  cases (show u=Value.ref b from ry)
  obtain⟨z,hd,xs,rel,dd⟩:=Zn0 I.hok e
  have hz:xs.length<=sizeLine:=by rw[<- Paired.length rel];exact z
  have hl:(ZfA kvs k v).length<=sizeLine:=by have:=Zag kvs k v;lia
  refine wpAny_setItem_heap (hsz:=hz) (tupleKind_room_in1 hu) (Zeu I.hok eb) dd fun h' dd' hs=>h _ ?_
  obtain⟨q,es,ep,hq,h2,h3,h4,_,h5⟩:=dd'
  refine Zh1 I (by rw[e];exact True.intro) hs ⟨q,hq⟩ ⟨hl,hd,_,(rel.put k eb rv).keeps fun c ys ec=>?_,q,es,ep,hq,h2,h3,h4,h5⟩
  rw[Zv (Zmf ec e (fun z=>nomatch z))]
  exact ec
end
def ZnD(i:Expr):Prop:=∀ov iv,subscripted i false ov iv=operate [ov,iv] (getItem ov iv)
theorem ZfX{prog:Program}{w:World}{A:Around}{E:Value->Shared->Prop}{s:Shared}{env:Env}{value slice:Expr}{pos:Pos}{T id:String}{Q:Value->Shared->Prop}(hl:typeLookup (.type T) "__getitem__"=pure (some (.builtin id)))(hs:ZnD slice)(h:wpAny (model prog w) A (eval value env) (fun o s₁=>wpAny (model prog w) A (eval slice env) (fun i s₂=>s₂.TypeIs o T/\wpAny (model prog w) A (getItem o i) Q E s₂) E s₁) E s) :
  wpAny (model prog w) A (eval (.Subscript value slice pos) env) Q E s:=by
 refine Subscript_ (wpAny_mono h (fun o s₁ h₁=>wpAny_mono h₁ (fun i s₂ h₂=>?_) fun _ _ x=>x) fun _ _ x=>x)
 obtain⟨hT,h₂⟩:=h₂
 unfold subscriptTail
 refine wpAny_bind ?_
 rw[getitemInPython_of_ne hT.not_modules]
 refine wpAny_bind (wpAny_specialOf hT hl ?_)
 have fin:wpAny (model prog w) A (subscripted slice false o i) (fun r s₃=>wpAny (model prog w) A (letTemporaryGo value o r >>= fun _=>pure r) Q E s₃) E s₂:=by
  rw[hs o i]
  exact wpAny_operating (wpAny_mono h₂ (fun r s₃ h₃=>wpAny_bind (wpAny_letTemporaryGo (wpAny_pure h₃))) fun _ _ x=>x)
 first
  |exact wpAny_pure (wpAny_bind fin)
  |exact wpAny_bind (wpAny_pure (wpAny_bind fin))
  |exact wpAny_bind fin
theorem Zdy{X:Cx}{pins:List (Addr×Obj)}{σ:St}{H:Hp}{s:Shared}{a:Addr}{y:V}{o:Option V}(I:Inv X pins σ H s)(g:Zlp H a y o):s.TypeIs (.ref a) "dict":=by
 rcases g with ⟨kvs,k,e,_,_⟩|⟨kvs,k,b,e,_,_,_⟩
 ·obtain⟨_,_,vs,_,dd⟩:=ZiK I.hok e
  exact dd.typeIs
 ·obtain⟨_,_,xs,_,dd⟩:=ZiI I.hok e
  exact dd.typeIs
noncomputable def Zl8(td ty:TE):TE:=fun σ H Q=>td σ H fun x H1=>ty σ H1 fun y H2=>∃a v,x=.ref a/\Zlp H2 a y (some v)/\Q v H2
noncomputable def ZfU(ty td:TE):TE:=fun σ H Q=>ty σ H fun y H1=>td σ H1 fun x H2=>∃a o,x=.ref a/\Zlp H2 a y o/\Q (.bl (!o.isSome)) H2
noncomputable def ZlC(td ty tv:TE):TS:=fun D σ H=>tv σ H fun v H1=>td σ H1 fun x H2=>ty σ H2 fun y H3=>∃a H4,x=.ref a/\Zoq H3 a y v H4/\D.nx σ H4
section
variable {X:Cx}{o i value:Expr}{pos pos':Pos}{td ty tv:TE}
theorem Zkc(hu:X.A.units+1<cLine)(ho:PE X o td)(hi:PE X i ty)(hs:ZnD i):PE X (.Subscript o i pos) (Zl8 td ty):=by
 intro pins s σ H Q I h
 refine ZfX PySem.F.slot_dict_getitem.lookup hs (thn (ho pins s σ H _ I h) fun u s1 ⟨x,H1,I1,rx,q1⟩=>thn (hi pins s1 σ H1 _ I1 q1) fun iv s2 ⟨y,H2,I2,ry,a,v,ex,g,q2⟩=>?_)
 subst ex
 obtain rfl:u=Value.ref a:=rx
 exact⟨Zdy I2 g,Zh3 hu I2 g ry fun w' s3 I3 rw'=>⟨v,H2,I3,rw',q2⟩⟩
theorem Zgn(hu:X.A.units+1<cLine)(hi:PE X i ty)(ho:PE X o td):PC X .NotIn i o (ZfU ty td):=by
 intro pins s σ H Q I h
 refine thn (hi pins s σ H _ I h) fun iv s1 ⟨y,H1,I1,ry,q1⟩=>thn (ho pins s1 σ H1 _ I1 q1) fun u s2 ⟨x,H2,I2,rx,a,ov,ex,g,q2⟩=>?_
 subst ex
 obtain rfl:u=Value.ref a:=rx
 exact ZkK hu I2 g ry fun s3 I3=>⟨.bl (!ov.isSome),H2,I3,rfl,q2⟩
theorem ZjY(hu:X.A.units+1<cLine)(ho:PE X o td)(hi:PE X i ty)(hv:PE X value tv)(hs:swapsWith value (some (.Subscript o i pos')) pos.line X.env=pure false) :
  PS X (.Assign [.Subscript o i pos'] value pos) (ZlC td ty tv):=by
 intro pins s σ H D I h
 refine wpAny_Assign_Subscript (thn (hv pins s σ H _ I h) fun r s1 ⟨v,H1,I1,rv,q1⟩=>thn (ho pins s1 σ H1 _ I1 q1) fun u s2 ⟨x,H2,I2,rx,q2⟩=>thn (hi pins s2 σ H2 _ I2 q2) fun iv s3 ⟨y,H3,I3,ry,a,H4,ex,g,q3⟩=>?_) hs
 subst ex
 obtain rfl:u=Value.ref a:=rx
 exact Zh2 hu I3 g ry rv fun s4 I4=>⟨σ,H4,I4,q3⟩
end
theorem ZiL{P:Program}{w:World}{H:Hp}(h:Heap)(hb:sysModules<h.objs.size):JQ P w H (h.push { cls:=.type "dict",data:=.dict #[] }) h.objs.size (.dK []):=
 ⟨Zym _,beq_eq_false_iff_ne.mpr (Ne.symm (Zxv hb)),[],.nil,Heap.DictOf.new h⟩
noncomputable def Zjl:TE:=fun _ H Q=>∀p,H p=none->Q (.ref p) (upd H p (.dK []))
section
variable {X:Cx}{pos:Pos}
theorem Zik:PE X (.Dict [] [] pos) Zjl:=fun pins s σ H Q I h =>
 wpAny_Dict_empty ⟨.ref s.heap.objs.size,_,I.laid (a:=s.heap.objs.size) (o:=.dK []) (t':=s.toks) (fun _ _ q=>Heap.get?_push_of_some _ q) (Zxi _) (ZiL s.heap I.big),rfl,h _ (I.hok.fresh (Zxi _))⟩
end
noncomputable def ZmR:Key->PV
 |.inl i=>.int i
 |.inr x=>.str x
noncomputable def Zcy:PV->Option Key
 |.int i=>some (.inl i)
 |.str x=>some (.inr x)
 |_=>none
noncomputable def ZaP:List PV->Option (List Key)
 |[]=>some []
 |x::xs=>match Zcy x,ZaP xs with
  |some k,some ks=>some (k::ks)
  |_,_=>none
theorem Zbz{x:PV}{k:Key}(h:Zcy x=some k):x=ZmR k:=by
 cases x<;>first|(cases h;rfl)|cases h
theorem Zai:∀{xs:List PV}{ks:List Key},ZaP xs=some ks->xs=ks.map ZmR
 |[],ks,h=>by cases h;rfl
 |x::xs,ks,h=>by
  unfold ZaP at h
  split at h
  ·rename_i k ks' h1 h2
   cases h
   rw[Zbz h1,Zai h2];rfl
  ·cases h
section
variable {K:W.Frag}{H:Hp}{S:Addr->Prop}
theorem Zda{k:Key}{v:V}(h:Rep K H S (ZmR k) v):v=kV k:=by cases k<;>exact h
theorem QW:∀{ks:List Key}{vs:List V},Reps K H S (ks.map ZmR) vs->vs=ks.map kV
 |[],_,h=>h
 |k::ks,_,h=>by
  obtain⟨v,r,rfl,h1,h2⟩:=h
  rw[Zda h1,QW h2];rfl
end
section
variable {κ:Type} [DecidableEq κ] {α:Type}
noncomputable def atK:List κ->List α->κ->Option α
 |k'::ks,x::xs,k=>if k'=k then some x else atK ks xs k
 |_,_,_=>none
noncomputable def Zid:List κ->List α->κ->α->List α
 |k'::ks,x::xs,k,y=>(if k'=k then y else x)::Zid ks xs k y
 |_,_,_,_=>[]
noncomputable def ZmQ(k:κ)(ks:List κ):Bool:=decide (k∈ks)
theorem ZgP{k:κ}{ks:List κ}(h:ZmQ k ks=false):k ∉ ks:=of_decide_eq_false h
noncomputable def Zbj(ks:List κ)(k:κ):List κ:=if k∈ks then ks else ks++[k]
noncomputable def Q9(ks:List κ)(xs:List α)(k:κ)(y:α):List α:=if k∈ks then Zid ks xs k y else xs++[y]
theorem ZdR:∀{ks:List κ}{xs:List α}{k:κ}{y:α},ks.length=xs.length->(Zid ks xs k y).length=ks.length
 |[],[],_,_,_=>rfl
 |k'::ks,x::xs,k,y,h=>by simp[Zid,ZdR (ks:=ks) (xs:=xs) (k:=k) (y:=y) (by simpa using h)]
 |[],_::_,_,_,h=>by simp at h
 |_::_,[],_,_,h=>by simp at h
theorem Zgj{ks:List κ}{xs:List α}{k:κ}{y:α}(h:ks.length=xs.length):(Zbj ks k).length=(Q9 ks xs k y).length:=by
 unfold Zbj Q9
 split
 ·rw[ZdR h]
 ·simp[h]
theorem Zbd:∀{ks:List κ}{vs:List V}{k:κ},ks.length=vs.length->ZfJ (ks.zip vs) k=atK ks vs k
 |[],[],_,_=>rfl
 |k'::ks,v::vs,k,h=>by
  rw[Zy6]
  unfold atK
  by_cases e:k'=k
  ·rw[QF e,if_pos e]
  ·rw[QG e,if_neg e,Zbd (by simpa using h)]
 |[],_::_,_,h=>by simp at h
 |_::_,[],_,h=>by simp at h
theorem ZdB:∀{ks:List κ}{vs:List V}{k:κ},ks.length=vs.length->(((ks.zip vs).any fun kv=>decide (kv.1=k))=true ↔ k∈ks)
 |[],[],_,_=>by simp
 |k'::ks,v::vs,k,h=>by
  rw[Zy6,Zyh,Bool.or_eq_true,ZdB (by simpa using h),Zxd,decide_eq_true_eq]
  exact⟨fun z=>z.imp Eq.symm id,fun z=>z.imp Eq.symm id⟩
 |[],_::_,_,h=>by simp at h
 |_::_,[],_,h=>by simp at h
theorem Zgc:∀{ks:List κ}{vs:List V}{k:κ}{y:V},ks.length=vs.length->((ks.zip vs).map fun kv=>if kv.1=k then (kv.1,y) else kv)=ks.zip (Zid ks vs k y)
 |[],[],_,_,_=>rfl
 |k'::ks,v::vs,k,y,h=>by
  rw[Zy6,Zxf,Zgc (by simpa using h)]
  show _=(k'::ks).zip ((if k'=k then y else v)::Zid ks vs k y)
  by_cases e:k'=k
  ·rw[if_pos e,if_pos e];rfl
  ·rw[if_neg e,if_neg e];rfl
 |[],_::_,_,_,h=>by simp at h
 |_::_,[],_,_,h=>by simp at h
theorem ZdX{ks:List κ}{vs:List V}{k:κ}{y:V}(h:ks.length=vs.length):ZfA (ks.zip vs) k y=(Zbj ks k).zip (Q9 ks vs k y):=by
 unfold ZfA Zbj Q9
 by_cases c:k∈ks
 ·rw[if_pos ((ZdB h).mpr c),if_pos c,if_pos c,Zgc h]
 ·rw[if_neg (fun z=>c ((ZdB h).mp z)),if_neg c,if_neg c,List.zip_append h];rfl
end
section
variable {κ:Type} [DecidableEq κ] {K:W.Frag}{H:Hp}{S:Addr->Prop}
theorem ZdU:∀{ks:List κ}{xs:List PV}{vs:List V}{k:κ},Reps K H S xs vs->match atK ks xs k with
  |some y=>∃v,atK ks vs k=some v/\Rep K H S y v
  |none=>atK ks vs k=none
 |[],xs,vs,k,h=>by simp[atK]
 |k'::ks,[],vs,k,h=>by rw[h];simp[atK]
 |k'::ks,x::xs,vs,k,h=>by
  obtain⟨v,r,rfl,h1,h2⟩:=h
  unfold atK
  by_cases e:k'=k
  ·rw[if_pos e,if_pos e];exact⟨v,rfl,h1⟩
  ·rw[if_neg e,if_neg e];exact ZdU h2
theorem ZaA:∀{ks:List κ}{xs:List PV}{vs:List V}{G:List Addr}{k:κ}{y:PV}{w:V},ks.length=xs.length->Trees K H xs vs G->V0 K H y w []->∃G',(∀a∈G',a∈G)/\Trees K H (Zid ks xs k y) (Zid ks vs k w) G'
 |[],[],vs,G,k,y,w,_,h,_=>⟨[],by simp,by rw[h.1];exact⟨rfl,rfl⟩⟩
 |k'::ks,x::xs,vs,G,k,y,w,hl,h,hy=>by
  obtain⟨v,r,G1,G2,rfl,h1,h2,h3,rfl⟩:=h
  obtain⟨G',g1,g2⟩:=ZaA (ks:=ks) (k:=k) (y:=y) (w:=w) (by simpa using hl) h2 hy
  unfold Zid
  by_cases e:k'=k
  ·rw[if_pos e,if_pos e]
   exact⟨G',fun a ha=>Zxb _ (g1 a ha),w,_,[],G',rfl,hy,g2,by simp,rfl⟩
  ·rw[if_neg e,if_neg e]
   refine⟨G1++G',fun a ha=>?_,v,_,G1,G',rfl,h1,g2,fun a ha z=>h3 a ha (g1 a z),rfl⟩
   rcases Zxg.mp ha with z|z
   ·exact Zxe _ z
   ·exact Zxb _ (g1 a z)
 |[],_::_,_,_,_,_,_,hl,_,_=>by simp at hl
 |_::_,[],_,_,_,_,_,hl,_,_=>by simp at hl
theorem V0.flatG{x:PV}{v:V}{G:List Addr}(f:x.flat=true)(h:V0 K H x v G):V0 K H x v []:=Rep.tree f (h.rep (S:=fun _=>True) fun _ _=>trivial)
end
section
variable {K:W.Frag}{B:Addr->Prop}{EX:PX->Hp->Prop}{H0 H H':Hp}{σ:St}{Γ Γ' Γ1 Γ2 Γ3:List Md}{ρ:List PV}{F F':Nat->List Addr}{R:List Addr}{ta tb:TE}{f fa fb:List PV->Rr PV}{k:Kd}
theorem Res.newBox{H1:Hp}{F1:Nat->List Addr}{s:Sh}{xs:List PV}{vs:List V}{u:HO}{p:Addr}{S:Addr->Prop}(s1:Z9 H H1)(f1:∀i,∀a∈F1 i,a∈F i)(hb:Zlr K s vs u)(p1:Reps K H1 S xs vs)(hx:PV.flats xs=true)(A1:Ag K B H0 H1 σ Γ' ρ F1 R)(hp:H1 p=none) :
  Res K B H0 H σ Γ' ρ F R .F (.box none s xs) (.ref p) (upd H1 p u):=by
 have e:Z9 H1 (upd H1 p u):=Z9.new hp
 refine⟨F1,f1,[p],⟨p,vs,u,[],rfl,ZE,⟨trivial,hb⟩,(Reps.trees hx p1).same e,by simp,rfl⟩,fun a ha=>?_,A1.newB hb.lv hp⟩
 rw[Zx7.mp ha]
 exact⟨(A1.fresh hp).1,.inl (s1.free hp)⟩
theorem ZiR:DE K EX Γ Γ .F Zjl (fun _=>.ok (.box none (.dk []) [])):=fun B H0 H σ ρ F R Q A d p hp =>
 d _ _ (Z9.new hp) (Res.newBox (S:=fun _=>True) (vs:=[]) (Z9.refl _) (fun _ _ h=>h) ⟨rfl,rfl⟩ rfl rfl A hp)
noncomputable def dAt(x y:PV):Option (Option PV):=match x,y with
 |.box _ (.dk ks) xs,y=>(Zcy y).map fun k=>atK ks xs k
 |.box _ (.dt ks) xs,.tup ys=>(ZaP ys).map fun k=>atK ks xs k
 |_,_=>none
noncomputable def ZmN(g:Bool->Bool)(y x:PV):Rr PV:=match dAt x y with
 |some o=>.ok (.bl (g o.isSome))
 |none=>.bad
noncomputable def Zi0(x y:PV):Rr PV:=match dAt x y with
 |some (some z)=>.ok z
 |_=>.bad
theorem Zh4{x y:PV}{v w:V}{o:Option PV}{S:Addr->Prop}(hx:Rep K H S x v)(hy:Rep K H (fun _=>True) y w)(e:dAt x y=some o) :
  ∃a r,v=.ref a/\Zlp H a w r/\r.isSome=o.isSome/\∀z,o=some z->∃u,r=some u/\Rep K H S z u:=by
 have fin:∀{κ:Type} [DecidableEq κ] {ks:List κ}{xs:List PV}{vs:List V}{k:κ},Reps K H S xs vs->o=atK ks xs k->(atK ks vs k).isSome=o.isSome/\∀z,o=some z->∃u,atK ks vs k=some u/\Rep K H S z u:=fun {κ} _ {ks xs vs k} h e=>by
  have:=ZdU (ks:=ks) (k:=k) h
  rw[<- e] at this
  cases o with
  |none=>exact⟨by rw[this];rfl,fun z q=>by cases q⟩
  |some z =>
   obtain⟨u,e1,e2⟩:=this
   exact⟨by rw[e1];rfl,fun z' q=>by cases q;exact⟨u,e1,e2⟩⟩
 unfold dAt at e
 split at e
 ·rename_i p ks xs
  obtain⟨a,vs,u,rfl,hr,⟨_,hl,rfl⟩,hxs⟩:=hx
  cases ek:Zcy y with
  |none=>rw[ek] at e;cases e
  |some k =>
   rw[ek] at e
   cases e
   rw[Zbz ek] at hy
   obtain⟨g1,g2⟩:=fin (ks:=ks) (k:=k) hxs rfl
   exact⟨a,atK ks vs k,rfl,.inl ⟨_,k,hr.1,Zda hy,(Zbd hl).symm⟩,g1,g2⟩
 ·rename_i p ks xs ys
  obtain⟨a,vs,u,rfl,hr,⟨_,hl,rfl⟩,hxs⟩:=hx
  cases ek:ZaP ys with
  |none=>rw[ek] at e;cases e
  |some k =>
   rw[ek] at e
   cases e
   rw[Zai ek] at hy
   obtain⟨b,ws,rfl,hb,hws⟩:=hy
   rw[QW hws] at hb
   obtain⟨g1,g2⟩:=fin (ks:=ks) (k:=k) hxs rfl
   exact⟨a,atK ks vs k,rfl,.inr ⟨_,k,b,hr.1,rfl,hb.1,(Zbd hl).symm⟩,g1,g2⟩
 ·cases e
theorem Zhx(ha:DE K EX Γ Γ1 .A ta fa)(hb:DE K EX Γ1 Γ2 .A tb fb):DE K EX Γ Γ2 .P (ZfU ta tb) (fun ρ=>(fa ρ).bind fun y=>(fb ρ).bind fun x=>ZmN (!·) y x):=fun B H0 H σ ρ F R Q A d=>by
 refine two ha hb A d.bind2 fun y x w v H' F' d s f py px A'=>?_
 unfold ZmN at d
 cases e:dAt x y with
 |none=>rw[e] at d;exact d.elim
 |some o =>
  rw[e] at d
  obtain⟨a,r,rfl,g1,g2,_⟩:=Zh4 px py e
  exact⟨a,r,rfl,g1,by rw[g2];exact d _ _ s ⟨F',f,rfl,rfl,A'⟩⟩
theorem ZkH(ha:DE K EX Γ Γ1 .A ta fa)(hb:DE K EX Γ1 Γ2 .A tb fb):DE K EX Γ Γ2 .A (Zl8 ta tb) (fun ρ=>(fa ρ).bind fun x=>(fb ρ).bind fun y=>Zi0 x y):=fun B H0 H σ ρ F R Q A d=>by
 refine two ha hb A d.bind2 fun x y v w H' F' d s f px py A'=>?_
 unfold Zi0 at d
 cases e:dAt x y with
 |none=>rw[e] at d;exact d.elim
 |some o =>
  rw[e] at d
  cases o with
  |none=>exact d.elim
  |some z =>
   obtain⟨a,r,rfl,g1,_,g3⟩:=Zh4 px py e
   obtain⟨u,rfl,hu⟩:=g3 z rfl
   exact⟨a,u,rfl,g1,d _ _ s ⟨F',f,hu,A'⟩⟩
noncomputable def Ziz(x y z:PV):Rr PV:=match x,y with
 |.box p (.dk ks) xs,y=>match Zcy y with
  |some k=>if xs.length<1000000/\(ZmQ k ks=false\/z.flat=true) then .ok (.box p (.dk (Zbj ks k)) (Q9 ks xs k z)) else .bad
  |none=>.bad
 |.box p (.dt ks) xs,.tup ys=>match ZaP ys with
  |some k=>if xs.length<1000000/\(ZmQ k ks=false\/z.flat=true) then .ok (.box p (.dt (Zbj ks k)) (Q9 ks xs k z)) else .bad
  |none=>.bad
 |_,_=>.bad
theorem ZbW{κ:Type}[DecidableEq κ]{ks:List κ}{xs:List PV}{vs:List V}{k:κ}{y:PV}{w:V}{G G2:List Addr}(hl:ks.length=xs.length)(h:Trees K H xs vs G)(hy:V0 K H y w G2)(hd:∀a∈G,a ∉ G2)(hk:k∈ks->y.flat=true) :
  ∃G',(∀a∈G',a∈G\/a∈G2)/\Trees K H (Q9 ks xs k y) (Q9 ks vs k w) G':=by
 unfold Q9
 by_cases c:k∈ks
 ·rw[if_pos c,if_pos c]
  obtain⟨G',g1,g2⟩:=ZaA (k:=k) hl h (hy.flatG (hk c))
  exact⟨G',fun a ha=>.inl (g1 a ha),g2⟩
 ·rw[if_neg c,if_neg c]
  exact⟨G++G2,fun a ha=>Zxg.mp ha,Trees.append h (Trees.one hy) hd⟩
theorem ZiJ{i:Nat}{tv:TE}{fv:List PV->Rr PV}(hm:Γ1[i]?=some .O)(hv:DE K EX Γ Γ1 .F tv fv)(hk:DE K EX Γ1 Γ1 .A tb fb) :
  DS K EX Γ ⟨Γ1,Γ2,Γ3,k⟩ (ZlC (ZeR i) tb tv) (fun ρ=>(fv ρ).thenS fun z=>(fb ρ).thenS fun y=>(Ziz (gv i ρ) y z).thenS fun x=>.next (ρ.set i x)):=fun B H0 H σ ρ F D A d=>by
 refine hv B H0 H σ ρ F [] _ A (d.thenS.imp (fun z _ d w H1 s1 r1=>?_) fun e q=>q)
 obtain⟨F1,f1,G2,t1,o1,A1⟩:=r1
 obtain⟨v,h1,h2⟩:=A1.getO hm
 refine⟨v,h1,hk B H0 H1 σ ρ F1 (G2++[]) _ A1 (d.thenS.imp (fun y _ d yv H2 s2 r2=>?_) fun e q=>q)⟩
 obtain⟨F2,f2,p2,A2⟩:=r2
 obtain⟨v',h1',h2'⟩:=A2.getO hm
 rw[h1] at h1';cases h1'
 have d:=d.thenS
 have t2:=t1.same s2
 have core:∀{p:Option Addr}{s s':Sh}{xs xs':List PV}{a:Addr}{vs vs':List V}{u u':HO}{G G':List Addr},ρ.getD i .non=.box p s xs->H2 a=some u->ZnB p a->Trees K H2 xs vs G->a ∉ G->F2 i=a::G->Zlr K s' vs' u'->Trees K H2 xs' vs' G'->(∀b∈G',b∈G\/b∈G2) ->
   σ[i]?=some (some (.ref a))->DnS K B EX ⟨Γ1,Γ2,Γ3,k⟩ H0 H F D (.next (ρ.set i (.box p s' xs')))->D.nx σ (upd H2 a u'):=fun {p s s' xs xs' a vs vs' u u' G G'} er hH hpn ht hn hF hb ht' hsub hσ d=>by
  have haF:a∈F2 i:=by rw[hF];simp
  have na2:a ∉ G2:=fun z=>A2.disjR i a haF (Zxe _ z)
  have hna:a ∉ G':=fun z=>(hsub a z).elim hn na2
  have hsub2:∀b∈a::G',b∈F2 i\/b∈G2:=fun b hb=>by
   rcases Zxd.mp hb with rfl|hb
   ·exact .inl haF
   ·rcases hsub b hb with z|z
    ·exact .inl (by rw[hF];simp[z])
    ·exact .inr z
  obtain⟨lv,hlv⟩:=A2.live i a haF
  refine d σ _ (Qo F2 i (a::G')) (Zb5 (s1.trans s2) (fun j b hb=>f1 j b (f2 j b hb)) haF fun b hb=>?_) (Ag.chgB hb.lv (G:=G2) (R:=[]) A2 hm haF hsub2 (by simp) ?_)
  ·rcases hsub2 b hb with z|z
   ·exact .inr ⟨i,f1 i b (f2 i b z)⟩
   ·exact(o1 b z).2
  ·exact⟨_,hσ,a,vs',u',G',rfl,ZE,⟨hpn,hb⟩,Trees.putL hlv hna ht',hna,rfl⟩
 unfold Ziz at d
 split at d
 ·rename_i p ks xs er _ _
  rw[show ρ.getD i .non=.box p (.dk ks) xs from er] at h2'
  obtain⟨a,vs,u,G,rfl,hH,⟨hpn,hl,rfl⟩,ht,hn,hF⟩:=h2'
  split at d
  ·rename_i kk ek
   split at d
   ·rename_i hc
    rw[Zbz ek] at p2
    have hl':ks.length=xs.length:=by rw[hl,ht.length]
    have dj:∀b∈G,b ∉ G2:=fun b hb z=>A2.disjR i b (by rw[hF];simp[hb]) (Zxe _ z)
    obtain⟨G',g1,g2⟩:=ZbW (k:=kk) hl' ht t2 dj (fun c=>hc.2.resolve_left (fun z=>ZgP z c))
    refine⟨a,_,rfl,.inl ⟨_,kk,hH,Zda p2, ?_,rfl⟩,core er hH hpn ht hn hF (s':=.dk (Zbj ks kk)) (vs':=Q9 ks vs kk w) ⟨Zgj hl, ?_⟩ g2 g1 h1 d⟩
    ·rw[ZyD,hl,Nat.min_self,ht.length];exact Zxj hc.1 (by decide)
    ·rw[ZdX hl]
   ·exact d.elim
  ·exact d.elim
 ·rename_i p ks xs ys er _ _
  rw[show ρ.getD i .non=.box p (.dt ks) xs from er] at h2'
  obtain⟨a,vs,u,G,rfl,hH,⟨hpn,hl,rfl⟩,ht,hn,hF⟩:=h2'
  split at d
  ·rename_i kk ek
   split at d
   ·rename_i hc
    rw[Zai ek] at p2
    obtain⟨b,ws,rfl,hb,hws⟩:=p2
    rw[QW hws] at hb
    have hl':ks.length=xs.length:=by rw[hl,ht.length]
    have dj:∀b∈G,b ∉ G2:=fun b hb z=>A2.disjR i b (by rw[hF];simp[hb]) (Zxe _ z)
    obtain⟨G',g1,g2⟩:=ZbW (k:=kk) hl' ht t2 dj (fun c=>hc.2.resolve_left (fun z=>ZgP z c))
    refine⟨a,_,rfl,.inr ⟨_,kk,b,hH,rfl,hb.1, ?_,rfl⟩,core er hH hpn ht hn hF (s':=.dt (Zbj ks kk)) (vs':=Q9 ks vs kk w) ⟨Zgj hl, ?_⟩ g2 g1 h1 d⟩
    ·rw[ZyD,hl,Nat.min_self,ht.length];exact Zxj hc.1 (by decide)
    ·rw[ZdX hl]
   ·exact d.elim
  ·exact d.elim
 ·exact d.elim
end
def Zlf(p:Params)(K:W.Frag)(a:Addr)(f:Str->Option Addr):Prop:=
 (a==sysModules)=false/\∃o es ep,K.lookup a=some o/\o.ExactDict/\o.data=.dict es ep/\(∀e∈es,∃x t,e.key=.str x t/\e.hash=PyData.keyHash p x)/\∀x,findBy Value.isStrOf es x=(f x).map Value.ref
def Tel(p:Params)(K:W.Frag)(mg:Str->Option Value)(nm:Str)(ws:List Str)(L:List (Str×Str)):Prop:=
 ∃a f,mg nm=some (.ref a)/\Zlf p K a f/\(∀x,(f x).isSome=ws.contains x)/\∀x n,(x,n)∈L->∃g,f x=some g/\mg n=some (.ref g)
section
variable {X:Cx}{pins:List (Addr×Obj)}{σ:St}{H:Hp}{s:Shared}{a:Addr}{f:Str->Option Addr}
theorem Zlf.map(h:Zlf X.w.params X.K a f)(I:Inv X pins σ H s):Heap.MapOf (PySem.strKind X.prog X.w) s.heap a fun x=>(f x).map Value.ref:=by
 obtain⟨_,o,es,ep,h1,h2,h3,h4,h5⟩:=h
 refine⟨o,es,ep,I.kIn _ _ h1,h2,h3,fun e he=>?_,h5⟩
 obtain⟨x,t,e1,e2⟩:=h4 e he
 exact⟨x,by rw[e1];exact beq_self_eq_true x,e2⟩
end
section
variable {X:Cx}{K:W.Frag}{nm:Str}{ws:List Str}{L:List (Str×Str)}{i e:Expr}{es:List Expr}{p1 p2 pos:Pos}{ty:TE}{t:TA}{E:St->XK}{tab:Str->Option Sp}
noncomputable def Zjj(ws:List Str)(g:Bool->Bool)(ty:TE):TE:=fun σ H Q=>ty σ H fun y H1=>∃x,y=.str x/\Q (.bl (g (ws.contains x))) H1
theorem Zgm(T:Tel X.w.params X.K X.mg nm ws L)(hg:Gl X nm)(hi:PE X i ty)(hd:(nm==("__debug__":Str))=false:=by decide):PC X .NotIn i (.Name nm pos) (Zjj ws (!·) ty):=by
 obtain⟨a,f,hm,kd,hw,_⟩:=T
 intro pins s σ H Q I h
 refine thn (hi pins s σ H _ I h) fun iv s1 ⟨y,H1,I1,ry,x,ex,q⟩=>VV I1 hg hm ?_ hd
 subst ex
 obtain⟨tk,rfl⟩:=ry
 refine wpAny_notIn_of (k:=x) (knd:=PySem.strKind X.prog X.w) (beq_self_eq_true x) kd.1 (kd.map I1) ⟨.bl _,H1,I1.tok _,rfl, ?_⟩
 rw[ZxX,hw]
 exact q
noncomputable def ZnJ(tab:Str->Option Sp)(E:St->XK)(ty:TE)(t:TA):TE:=fun σ H Q=>ty σ H fun y H1=>∃x sp,y=.str x/\tab x=some sp/\t σ H1 fun vs H2=>sp vs H2 Q (E σ)
def Zje(X:Cx)(L:List (Str×Str))(tab:Str->Option Sp):Prop:=∀x sp,tab x=some sp->∃n k ps,(x,n)∈L/\OkX X.prog X.w X.K X.mg X.base k n ps sp/\Q2 k X.A
theorem ZlT(T:Tel X.w.params X.K X.mg nm ws L)(hO:Zje X L tab)(hg:Gl X nm)(hx:ZhO X E)(hi:PE X i ty)(hs:ZnD i)(ha:PA X (e::es) t)(hd:(nm==("__debug__":Str))=false:=by decide)(he:starEach (e::es) X.env=(false,eval e X.env)::starEach es X.env:=by rfl)(hpl:(backTo pos (starEach es X.env)).any (·.1)=false:=by rfl):PE X (.Call (.Subscript (.Name nm p1) i p2) (e::es) [] pos) (ZnJ tab E ty t):=by
 obtain⟨a,fm,hm,kd,hw,hL⟩:=T
 intro pins s σ H Q I h
 show wpAny _ _ (eval (.Subscript (.Name nm p1) i p2) X.env >>= fun f=>callWith pos f [] (backTo pos (starEach (e::es) X.env)) (backToKw pos (keywordEach [] X.env))) _ _ _
 refine wpAny_bind ?_
 refine ZfX PySem.F.slot_dict_getitem.lookup hs (VV I hg hm (thn (hi pins s σ H _ I h) fun iv s0 ⟨y,H0,I0,ry,x,sp,ex,htab,q0⟩=>?_) hd)
 subst ex
 obtain⟨tk,rfl⟩:=ry
 obtain⟨n,k,ps,hmem,⟨f,fd,F,hmn,hk,hb⟩,hr⟩:=hO x sp htab
 obtain⟨g,hf,hmg⟩:=hL x n hmem
 obtain rfl:f=g:=by rw[hmn] at hmg;cases hmg;rfl
 refine⟨(kd.map I0).typeIs,wpAny_getItem_of (k:=x) (knd:=PySem.strKind X.prog X.w) (v:=.ref f) (beq_self_eq_true x) (kd.map I0) (by rw[hf];rfl) ?_⟩
 have I0':=I0.tok (s.toks+1)
 refine PySem.W.callWith_K (h₀:=X.base) I.ok.mod.kin hk (thn (ha pos pins _ σ H0 _ (I0.tok _) q0) fun us s1 ⟨vs,H1,I1,r,q⟩=>⟨I1.kIn, ?_⟩) he hpl
 have hl:(us++[]).length=ps.length:=by rw[ZxA,<- r.length];exact F.len _ _ _ _ q
 have hb':=hb s1 us I1.kIn hl
 rw[ZxA] at hb'
 refine wpAny_call (codeAny_mono (F.run X.A X.stack s1 H1 ⟨us,[]⟩ us vs Q (E σ) hr I1.env0 hb' r q) fun r s' hq=>?_)
 cases r with
 |error e=>exact hx pins σ H1 s1 e s' I1 hq
 |ok fl =>
  cases fl with
  |ret u=>exact I1.after hq
  |next=>exact False.elim hq
  |brk=>exact False.elim hq
  |cont=>exact False.elim hq
noncomputable def ZeQ(K:W.Frag)(n:Nat)(kd:Kd)(M:List (Str×(List PV->Rr PV))):Str->Option Sp:=fun x=>(M.lookup x).map fun m=>spF K n kd (W1 K) m
theorem ZjT{n:Nat}{kd:Kd}:Zje X L (ZeQ K n kd []):=fun x sp h=>by cases h
theorem Zbf{n k:Nat}{kd:Kd}{x nf:Str}{ps:List Str}{m:List PV->Rr PV}{M:List (Str×(List PV->Rr PV))}(h:(x,nf)∈L)(G:OkX X.prog X.w X.K X.mg X.base k nf ps (spF K n kd (W1 K) m))(hr:Q2 k X.A)(t:Zje X L (ZeQ K n kd M)):Zje X L (ZeQ K n kd ((x,m)::M)):=by
 intro y sp hy
 unfold ZeQ at hy
 rw[Zxw] at hy
 by_cases c:(y==x)=true
 ·rw[c] at hy
  cases hy
  rw[eq_of_beq c]
  exact⟨nf,k,ps,h,G,hr⟩
 ·rw[show (y==x)=false by simpa using c] at hy
  exact t y sp hy
end
noncomputable def Zjs(ws:List Str)(g:Bool->Bool)(y:PV):Rr PV:=match y with
 |.str x=>.ok (.bl (g (ws.contains x)))
 |_=>.bad
noncomputable def Zl0(M:List (Str×(List PV->Rr PV)))(y:PV):Rr (List PV->Rr PV):=match y with
 |.str x=>match M.lookup x with
  |some m=>.ok m
  |none=>.bad
 |_=>.bad
theorem ZfR{M:List (Str×(List PV->Rr PV))}{x:Str}{m:List PV->Rr PV}(h:M.lookup x=some m):Zl0 M (.str x)=.ok m:=by simp only[Zl0,h]
section
variable {K:W.Frag}{EX:PX->Hp->Prop}{E:XK}{Γ Γ1 Γ2:List Md}{tb:TE}{ta:TA}{fb:List PV->Rr PV}{fa:List PV->Rr (List PV)}{ws:List Str}{g:Bool->Bool}{M:List (Str×(List PV->Rr PV))}{n:Nat}
theorem ZiO(hb:DE K EX Γ Γ1 .A tb fb):DE K EX Γ Γ1 .P (Zjj ws g tb) (fun ρ=>(fb ρ).bind fun y=>Zjs ws g y):=fun B H0 H σ ρ F R Q A d=>by
 refine hb B H0 H σ ρ F R _ A (d.bind.imp (fun y _ d v H1 s1 r1=>?_) fun e q=>q)
 obtain⟨F1,f1,p1,A1⟩:=r1
 cases y with
 |str x=>exact⟨x,p1,d _ H1 s1 ⟨F1,f1,rfl,rfl,A1⟩⟩
 |_=>exact d.elim
theorem Zk7(hn:Len fa n)(hb:DE K (EX1 K E) Γ Γ1 .A tb fb)(ha:DAA K (EX1 K E) Γ1 Γ2 ta fa):DE K (EX1 K E) Γ Γ2 .F (ZnJ (ZeQ K n .F M) (fun _=>E) tb ta) (fun ρ=>(fb ρ).bind fun y=>(Zl0 M y).bind fun m=>(fa ρ).bind m):=fun B H0 H σ ρ F R Q A d=>by
 refine hb B H0 H σ ρ F R _ A (d.bind.imp (fun y _ d v H1 s1 r1=>?_) fun e q=>q)
 obtain⟨F1,f1,p1,A1⟩:=r1
 cases y with
 |str x =>
  cases hM:M.lookup x with
  |none =>
   rw[show Zl0 M (.str x)=.bad by simp only[Zl0,hM]] at d
   exact d.elim
  |some m =>
   refine⟨x,spF K n .F (W1 K) m,p1,by simp[ZeQ,hM], ?_⟩
   refine Zlm (m:=m) hn ha B H0 H1 σ ρ F1 R Q A1 ?_
   rw[ZfR hM] at d
   exact d.imp (fun z _ q w H2 s2 r2=>q w H2 (s1.trans s2) (r2.shift s1 f1)) fun e q=>q
 |_=>exact d.elim
end
def Zlo(K:W.Frag)(mg:Str->Option Value)(nm:Str)(xs:List Str):Prop:=
 ∃a o its n,mg nm=some (.ref a)/\K.lookup a=some o/\o.cls=.type "tuple"/\o.data=.seq its n/\its.size<=sizeLine/\ZU (xs.map V.str) its.toList
def ZmF(K:W.Frag)(a:Addr)(xs:List Str):Prop:=∀H,SqT K H a (xs.map V.str)
theorem Zlo.at{K:W.Frag}{mg:Str->Option Value}{nm:Str}{xs:List Str}(h:Zlo K mg nm xs):∃a,mg nm=some (.ref a)/\ZmF K a xs:=by
 obtain⟨a,o,its,n,h1,h2,h3,h4,h5,h6⟩:=h
 exact⟨a,h1,fun H=>.inr ⟨o,its,n,h2,h3,h4,h5,h6⟩⟩
noncomputable def Znq(xs:List Str)(g:Bool->Bool)(y:PV):Rr PV:=match y with
 |.str x=>if PyData.canLay0 (.str x)=true then .ok (.bl (g (xs.any (·==x)))) else .bad
 |_=>.bad
theorem Zdk{xs:List Str}{g:Bool->Bool}{x:Str}(h:PyData.canLay0 (.str x)=true):Znq xs g (.str x)=.ok (.bl (g (xs.any (·==x)))):=if_pos h
section
variable {K:W.Frag}{EX:PX->Hp->Prop}{Γ Γ1:List Md}{tb:TE}{fb:List PV->Rr PV}{g:Bool->Bool}{a:Addr}{xs:List Str}
theorem Zcg{H:Hp}{S:Addr->Prop}:∀xs:List Str,Reps K H S (xs.map PV.str) (xs.map V.str)
 |[]=>rfl
 |x::xs=>⟨_,_,rfl,rfl,Zcg xs⟩
theorem Zhw(hk:ZmF K a xs)(hx:(xs.all fun x=>PyData.canLay0 (.str x))=true)(hb:DE K EX Γ Γ1 .A tb fb):DE K EX Γ Γ1 .P (tOp (Znh K g) tb (tC (.ref a))) (fun ρ=>(fb ρ).bind fun y=>Znq xs g y):=fun B H0 H σ ρ F R Q A d=>by
 refine hb B H0 H σ ρ F R _ A (d.bind.imp (fun y _ d v H1 s1 r1=>?_) fun e q=>q)
 obtain⟨F1,f1,p1,A1⟩:=r1
 cases y with
 |str x =>
  unfold Znq at d
  by_cases c:PyData.canLay0 (.str x)=true
  ·simp only[if_pos c] at d
   refine⟨.str x,xs.map PV.str,a,xs.map V.str,p1,rfl,.inr (hk H1),Zcg xs, ?_, ?_, ?_⟩
   ·simp only[okE,PV.noX,PV.dat,c];rfl
   ·rw[List.all_map,Zxz]
    intro z hz
    have:=Zxz.mp hx z hz
    simp only[Function.comp,okE,PV.noX,PV.dat,this];rfl
   ·have e:((xs.map PV.str).any fun q=>PyData.eqv q.dat (PV.str x).dat)=xs.any (·==x):=by
     rw[List.any_map]
     congr 1
    rw[e]
    exact d _ H1 s1 ⟨F1,f1,rfl,rfl,A1⟩
  ·simp only[if_neg c] at d;exact d.elim
 |_=>exact d.elim
end
noncomputable def ZfS(K:W.Frag)(nm:Str):Option (Addr×Array DictEntry):=match PySem.W.nsIn K mainGlobals nm with
 |some (some (.ref a))=>match K.lookup a with
  |some ⟨.type n,none,.dict es _,sl⟩=>if (n == "dict" && sl.isEmpty&&!(a==sysModules))=true then some (a,es) else none
  |_=>none
 |_=>none
noncomputable def Zj5:Value->Option Str
 |.str x _=>some x
 |_=>none
noncomputable def Zlt(es:Array DictEntry)(x:Str):Option Addr:=match es.find? (fun e=>Value.isStrOf x e.key) with
 |some ⟨_,_,.ref g⟩=>some g
 |_=>none
noncomputable def Zna(K:W.Frag)(nm:Str)(ws:List Str)(L:List (Str×Str)):Bool:=match ZfS K nm with
 |some (_,es)=>decide (es.toList.map (fun e=>Zj5 e.key)=ws.map some)&&(es.toList.all fun e=>match e.val with|.ref _=>true|_=>false) &&
  L.all fun q=>match Zlt es q.1,PySem.W.nsIn K mainGlobals q.2 with
   |some f,some (some (.ref g))=>f==g
   |_,_=>false
 |none=>false
noncomputable def ZmZ(K:W.Frag)(nm:Str):List Int:=match ZfS K nm with
 |some (_,es)=>es.toList.map (·.hash)
 |none=>[]
noncomputable def ZmY(p:Params)(K:W.Frag)(nm:Str):List Int:=match ZfS K nm with
 |some (_,es)=>es.toList.map fun e=>match e.key with|.str x _=>PyData.keyHash p x|_=>0
 |none=>[]
theorem Zly{p:Params}{K:W.Frag}{mg:Str->Option Value}{nm:Str}{ws:List Str}{L:List (Str×Str)}(hb:Zna K nm ws L=true)(hh:ZmZ K nm=ZmY p K nm)(hm:∀n C,Za6 K n C->mg n=some (.ref C)):Tel p K mg nm ws L:=by
 unfold Zna at hb
 unfold ZmZ ZmY at hh
 cases ht:ZfS K nm with
 |none=>rw[ht] at hb;cases hb
 |some q =>
  obtain⟨a,es⟩:=q
  rw[ht] at hb hh
  simp only[Bool.and_eq_true,decide_eq_true_eq] at hb
  obtain⟨⟨b1,b2⟩,b3⟩:=hb
  dsimp only at hh
  unfold ZfS at ht
  split at ht
  ·rename_i a' hns
   split at ht
   ·rename_i n es' ep sl hk
    split at ht
    ·rename_i hc
     cases ht
     simp only[Bool.and_eq_true,Bool.not_eq_true',beq_iff_eq] at hc
     obtain⟨⟨c1,c2⟩,c3⟩:=hc
     subst c1
     have keys:∀e∈es,∃x t,e.key=.str x t:=fun e he=>by
      have:Zj5 e.key∈es.toList.map (fun e=>Zj5 e.key):=Zxr.mpr ⟨e,by simpa using he,rfl⟩
      rw[b1] at this
      obtain⟨x,_,hx⟩:=Zxr.mp this
      unfold Zj5 at hx
      split at hx
      ·exact⟨_,_,by assumption⟩
      ·cases hx
     have look:∀x,findBy Value.isStrOf es x=(Zlt es x).map Value.ref:=fun x=>by
      unfold findBy Zlt
      cases hf:es.find? (fun e=>Value.isStrOf x e.key) with
      |none=>rfl
      |some e =>
       have he:=Array.mem_of_find?_eq_some hf
       have:=Zxz.mp b2 e (by simpa using he)
       obtain⟨eh,ek,ev⟩:=e
       cases ev<;>first|rfl|(cases this;done)
     refine⟨a,Zlt es,hm _ _ hns,⟨by simpa using c3,_,es,ep,hk,⟨rfl,rfl,by simpa using c2⟩,rfl,fun e he=>?_,look⟩,fun x=>?_,fun x n hx=>?_⟩
     ·obtain⟨x,t,e1⟩:=keys e he
      refine⟨x,t,e1, ?_⟩
      obtain⟨i,hi,rfl⟩:=Zya (show e∈es.toList by simpa using he)
      have:=congrArg (fun l=>l[i]?) hh
      simp only[Zxm,Zxa hi,Zyi,e1,Option.some.injEq] at this
      exact this
     ·have h1:(Zlt es x).isSome=(findBy Value.isStrOf es x).isSome:=by rw[look,ZxX]
      rw[h1]
      unfold findBy
      rw[ZxX,<- Array.find?_toList,Bool.eq_iff_iff,List.find?_isSome,ZxM]
      constructor
      ·rintro⟨e,he,hx⟩
       have h2:Zj5 e.key∈ws.map some:=by rw[<- b1];exact Zxr.mpr ⟨e,he,rfl⟩
       obtain⟨y,hy,h2⟩:=Zxr.mp h2
       obtain⟨z,t,e1⟩:=keys e (by simpa using he)
       rw[e1] at h2 hx
       cases h2
       rw[<- eq_of_beq (show (y==x)=true from hx)];exact hy
      ·intro hx
       have h2:some x∈es.toList.map (fun e=>Zj5 e.key):=by rw[b1];exact Zxr.mpr ⟨x,hx,rfl⟩
       obtain⟨e,he,h2⟩:=Zxr.mp h2
       obtain⟨z,t,e1⟩:=keys e (by simpa using he)
       rw[e1] at h2
       cases h2
       exact⟨e,he,by rw[e1];exact beq_self_eq_true _⟩
     ·have:=Zxz.mp b3 (x,n) hx
      dsimp only at this
      split at this
      ·rename_i f g h1 h2
       exact⟨f,h1,by rw[eq_of_beq this];exact hm _ _ h2⟩
      ·cases this
    ·cases ht
   ·cases ht
  ·cases ht
noncomputable def Zlv(K:W.Frag)(nm:Str)(xs:List Str):Bool:=match PySem.W.nsIn K mainGlobals nm with
 |some (some (.ref a))=>match K.lookup a with
  |some ⟨.type n,_,.seq its _,_⟩=>n == "tuple" && decide (its.size<=1000)&&decide (its.toList.map Zj5=xs.map some)
  |_=>false
 |_=>false
theorem ZfP{K:W.Frag}{mg:Str->Option Value}{nm:Str}{xs:List Str}(hb:Zlv K nm xs=true)(hm:∀n C,Za6 K n C->mg n=some (.ref C)):Zlo K mg nm xs:=by
 unfold Zlv at hb
 split at hb
 ·rename_i a hns
  split at hb
  ·rename_i n d its m sl hk
   simp only[Bool.and_eq_true,decide_eq_true_eq,beq_iff_eq] at hb
   obtain⟨⟨c1,c2⟩,c3⟩:=hb
   subst c1
   refine⟨a,_,its,m,hm _ _ hns,hk,rfl,rfl,Zx2 c2 (by decide), ?_⟩
   generalize its.toList=l at c3
   clear hk hns c2
   induction xs generalizing l with
   |nil=>cases l with
    |nil=>exact .nil
    |cons _ _=>cases c3
   |cons x xs ih=>cases l with
    |nil=>cases c3
    |cons u us =>
     simp only[Zxf,List.cons.injEq] at c3
     refine .cons ?_ (ih us c3.2)
     have:=c3.1
     unfold Zj5 at this
     split at this
     ·cases this;exact⟨_,rfl⟩
     ·cases this
  ·cases hb
 ·cases hb
section
variable {X:Cx}{K:W.Frag}
def Zjp(K:W.Frag):List V->Hp->VK->Prop:=fun xs H Q=>∃p ys,xs=[.ref p]/\((SqL K H p ys/\∀l,H l=none->Q (.ref l) (upd H l (.tup ys)))\/(SqT K H p ys/\Q (.ref p) H))
theorem UE(e:X.K=K:=by rfl):Vs X (.type "tuple") (Zjp K):=by subst e;exact ZbK
theorem Zas:bootBuiltins "tuple"=some (.type "tuple"):=by decide +kernel
end
section
variable {K:W.Frag}{EX:PX->Hp->Prop}{Γ:List Md}{k:Kd}
noncomputable def Zl6:TE:=fun _ _ _=>False
theorem Zdd{X:Cx}{e:Expr}:PE X e Zl6:=fun _ _ _ _ _ _ h=>h.elim
theorem Zdz:DE K EX Γ Γ k Zl6 (fun _=>.bad):=fun _ _ _ _ _ _ _ _ _ d=>d.elim
end
noncomputable def ins{α:Type}:Nat->α->List α->List α
 |0,v,us=>v::us
 |_+1,v,[]=>[v]
 |j+1,v,u::us=>u::ins j v us
section
end
theorem bind_ok{α β:Type}{r:Rr α}{g:α->Rr β}{y:β}(h:r.bind g=.ok y):∃x,r=.ok x/\g x=.ok y:=by
 cases r with
 |ok x=>exact⟨x,rfl,h⟩
 |exc e=>cases h
 |bad=>cases h
section
end
theorem hu1{n c:Nat}(h:n+64<c):n+1<c:=by lia
section
variable {X:Cx}{pins:List (Addr×Obj)}{σ:St}{H:Hp}{s:Shared}
theorem Inv.swapO{a:Addr}{u u':HO}(I:Inv X pins σ H s)(ha:H a=some u)(n1:∀b,u≠.own b)(n2:∀xs,u≠.tup xs)(m1:∀xs,X.H₀ a≠some (.tup xs))(m2:∀o v,X.H₀ a≠some (.frz o v))(m3:∀ps,X.H₀ a≠some (.tbl ps))(h0:∀o,X.s₀.heap.get? a=some o->X.H₀ a=none->a∈X.ex)(ok:JQ X.prog X.w (upd H a u') s.heap a u'):Inv X pins σ (upd H a u') s:=by
 have nn:∀{b},H b=none->b≠a:=fun {b} e z=>by rw[z,ha] at e;cases e
 refine⟨I.ok,I.os,I.bare,⟨I.base.keep,I.base.slot,fun b o q n hx=>?_,I.base.there,fun b xs q=>?_,fun b o v q=>?_,fun b ps q=>?_⟩,I.loc,I.cell, ?_,fun x c q=>?_,fun p hq=>?_,fun b v q=>?_,I.len⟩
 ·have e:=I.base.free b o q n hx
  rw[Zv (nn e)];exact e
 ·rw[Zv (fun z=>m1 xs (by rw[<- z];exact q))];exact I.base.tups b xs q
 ·rw[Zv (fun z=>m2 o v (by rw[<- z];exact q))];exact I.base.frzs b o v q
 ·obtain⟨m,e⟩:=I.base.tbls b ps q
  exact⟨m,by rw[Zv (fun z=>m3 ps (by rw[<- z];exact q))];exact e⟩
 ·rw[Zv (nn I.free)];exact I.free
 ·rw[Zv (nn (I.freeC x c q))];exact I.freeC x c q
 ·obtain⟨a1,b1,c1⟩:=I.pin p hq
  exact⟨a1,by rw[Zv (nn b1)];exact b1,c1⟩
 ·by_cases hb:b=a
  ·subst hb
   rw[ZE] at q;cases q
   exact ok
  ·rw[Zv hb] at q
   refine(I.hok b v q).stay (fun c w' _ z=>z) (fun c z=>?_) fun c xs z=>?_
   ·rw[Zv (fun y=>by rw[y,ha] at z;cases z;exact n1 _ rfl)];exact z
   ·rw[Zv (fun y=>by rw[y,ha] at z;cases z;exact n2 _ rfl)];exact z
end
mutual
noncomputable def V5:PV->PV
 |.lst xs=>.fz (frzPs xs)
 |.tup xs=>.tup (frzPs xs)
 |.fz xs=>.fz (frzPs xs)
 |.non=>.non
 |.bl b=>.bl b
 |.int i=>.int i
 |.str x=>.str x
 |.exc n=>.exc n
 |.exa n i=>.exa n i
 |.box p s xs=>.box p s xs
noncomputable def frzPs:List PV->List PV
 |[]=>[]
 |x::xs=>V5 x::frzPs xs
end
theorem ZaT:∀(ns:List Int),frzPs (ns.map PV.int)=ns.map PV.int
 |[]=>rfl
 |n::ns=>by simp only[Zxf,frzPs,V5,ZaT ns]
def ZhP(G:List Addr)(H H2:Hp):Prop:=(∀a,a ∉ G->H2 a=H a)/\∀a∈G,∀vs,H a=some (.lst vs)->∃o,H2 a=some (.frz o (.lst vs))
def Zld(H:Hp)(G:List Addr):Prop:=∀a∈G,∃vs,H a=some (.lst vs)
section
variable {K:W.Frag}{H H2:Hp}{G':List Addr}
theorem Im.frzTo(hL:Zld H G')(h:ZhP G' H H2){a:Addr}{u:HO}(i:Im K H a u):Im K H2 a u:=by
 have hn:a ∉ G':=fun z=>by
  obtain⟨vs,e⟩:=hL a z
  rw[i.1] at e;cases e;exact i.2
 exact⟨by rw[h.1 a hn];exact i.1,i.2⟩
mutual
theorem V0.lists:∀{x:PV}{v:V}{G:List Addr},(V5 x).flat=true->V0 K H x v G->Zld H G
 |.non,_,_,_,h=>by rw[h.2];intro a ha;simp at ha
 |.bl _,_,_,_,h=>by rw[h.2];intro a ha;simp at ha
 |.int _,_,_,_,h=>by rw[h.2];intro a ha;simp at ha
 |.str _,_,_,_,h=>by rw[h.2];intro a ha;simp at ha
 |.exc _,_,_,_,h=>by rw[h.2];intro a ha;simp at ha
 |.exa _ _,_,_,_,h=>by rw[h.2];intro a ha;simp at ha
 |.box _ _ _,_,_,f,_=>by simp[V5,PV.flat] at f
 |.lst xs,_,_,f,h=>by
  obtain⟨a,vs,G,rfl,ha,ht,hn,rfl⟩:=h
  intro b hb
  rcases Zxd.mp hb with rfl|hb
  ·exact⟨vs,ha⟩
  ·exact Trees.lists (by simpa[V5,PV.flat] using f) ht b hb
 |.tup xs,_,_,f,h=>by
  obtain⟨a,vs,rfl,ha,ht⟩:=h
  exact Trees.lists (by simpa[V5,PV.flat] using f) ht
 |.fz xs,_,_,f,h=>by
  obtain⟨a,vs,rfl,ha,ht⟩:=h
  exact Trees.lists (by simpa[V5,PV.flat] using f) ht
theorem Trees.lists:∀{xs:List PV}{vs:List V}{G:List Addr},PV.flats (frzPs xs)=true->Trees K H xs vs G->Zld H G
 |[],_,_,_,h=>by rw[h.2];intro a ha;simp at ha
 |x::xs,_,_,f,h=>by
  obtain⟨v,r,G1,G2,rfl,h3,h4,hd,rfl⟩:=h
  simp only[frzPs,PV.flats,Bool.and_eq_true] at f
  intro b hb
  rcases Zxg.mp hb with hb|hb
  ·exact V0.lists f.1 h3 b hb
  ·exact Trees.lists f.2 h4 b hb
end
mutual
theorem V0.frz(hL:Zld H G')(hF:ZhP G' H H2):∀{x:PV}{v:V}{G:List Addr},(V5 x).flat=true->V0 K H x v G->(∀a∈G,a∈G')->V0 K H2 (V5 x) v []
 |.non,_,_,_,h,_=>⟨h.1,rfl⟩
 |.bl _,_,_,_,h,_=>⟨h.1,rfl⟩
 |.int _,_,_,_,h,_=>⟨h.1,rfl⟩
 |.str _,_,_,_,h,_=>⟨h.1,rfl⟩
 |.exc n,_,_,_,h,_=>let ⟨a,o,C,e1,e2,e3⟩:=h.1;⟨⟨a,o,C,e1,Im.frzTo hL hF e2,e3⟩,rfl⟩
 |.exa n i,_,_,_,h,_=>let ⟨a,o,C,d,fs,e1,e2,e2',e3⟩:=h.1;⟨⟨a,o,C,d,fs,e1,Im.frzTo hL hF e2,Im.frzTo hL hF e2',e3⟩,rfl⟩
 |.box _ _ _,_,_,f,_,_=>by simp[V5,PV.flat] at f
 |.lst xs,_,_,f,h,hG=>by
  obtain⟨a,vs,G,rfl,ha,ht,hn,rfl⟩:=h
  obtain⟨o,e⟩:=hF.2 a (hG a (by simp)) vs ha
  exact⟨a,vs,rfl,⟨o,e,trivial⟩,Trees.frz hL hF (by simpa[V5,PV.flat] using f) ht fun b hb=>hG b (by simp[hb])⟩
 |.tup xs,_,_,f,h,hG=>by
  obtain⟨a,vs,rfl,ha,ht⟩:=h
  exact⟨a,vs,rfl,Im.frzTo hL hF ha,Trees.frz hL hF (by simpa[V5,PV.flat] using f) ht hG⟩
 |.fz xs,_,_,f,h,hG=>by
  obtain⟨a,vs,rfl,⟨o,ha⟩,ht⟩:=h
  exact⟨a,vs,rfl,⟨o,Im.frzTo hL hF ha⟩,Trees.frz hL hF (by simpa[V5,PV.flat] using f) ht hG⟩
theorem Trees.frz(hL:Zld H G')(hF:ZhP G' H H2):∀{xs:List PV}{vs:List V}{G:List Addr},PV.flats (frzPs xs)=true->Trees K H xs vs G->(∀a∈G,a∈G')->Trees K H2 (frzPs xs) vs []
 |[],_,_,_,h,_=>⟨h.1,rfl⟩
 |x::xs,_,_,f,h,hG=>by
  obtain⟨v,r,G1,G2,rfl,h3,h4,hd,rfl⟩:=h
  simp only[frzPs,PV.flats,Bool.and_eq_true] at f
  exact⟨v,r,[],[],rfl,V0.frz hL hF f.1 h3 fun a ha=>hG a (by simp[ha]),Trees.frz hL hF f.2 h4 fun a ha=>hG a (by simp[ha]),by simp,rfl⟩
end
end
section
variable {X:Cx}{pins:List (Addr×Obj)}{σ:St}{s:Shared}
theorem Inv.frzAll:∀(G:List Addr) {H:Hp},Inv X pins σ H s->Zld H G->∃H2,ZhP G H H2/\Inv X pins σ H2 s
 |[],H,I,_=>⟨H,⟨fun _ _=>rfl,by simp⟩,I⟩
 |a::G,H,I,hL=>by
  obtain⟨H2,h2,I2⟩:=Inv.frzAll G I fun b hb=>hL b (by simp[hb])
  by_cases hm:a∈G
  ·refine⟨H2,⟨fun b hb=>h2.1 b fun z=>hb (by simp[z]),fun b hb=>?_⟩,I2⟩
   rcases Zxd.mp hb with rfl|hb
   ·exact h2.2 b hm
   ·exact h2.2 b hb
  ·obtain⟨kvs,ha0⟩:=hL a (by simp)
   have ha:H2 a=some (.lst kvs):=by rw[h2.1 a hm];exact ha0
   have ok0:JQ X.prog X.w H2 s.heap a (.lst kvs):=I2.hok a _ ha
   obtain⟨o,ho⟩:∃o,s.heap.get? a=some o:=by obtain⟨_,its,n,_,e⟩:=ok0;exact⟨_,e⟩
   have m1:∀xs,X.H₀ a≠some (.tup xs):=fun xs z=>by have:=I2.base.tups a xs z;rw[ha] at this;cases this
   have m2:∀o v,X.H₀ a≠some (.frz o v):=fun o v z=>by have:=I2.base.frzs a o v z;rw[ha] at this;cases this
   have m3:∀ps,X.H₀ a≠some (.tbl ps):=fun ps z=>by obtain⟨m,this⟩:=I2.base.tbls a ps z;rw[ha] at this;cases this
   have h0:∀o,X.s₀.heap.get? a=some o->X.H₀ a=none->a∈X.ex:=fun o q n=>by
    by_cases hx:a∈X.ex
    ·exact hx
    ·have:=I2.base.free a o q n hx;rw[ha] at this;cases this
   refine⟨_,⟨fun b hb=>?_,fun b hb vs e=>?_⟩,I2.swapO (u':=.frz o (.lst kvs)) ha (fun _ z=>by cases z) (fun _ z=>by cases z) m1 m2 m3 h0 ⟨ho,ok0⟩⟩
   ·have hb':b≠a:=fun z=>hb (by simp[z])
    rw[Zv hb']
    exact h2.1 b fun z=>hb (by simp[z])
   ·by_cases hb':b=a
    ·subst hb'
     rw[ha0] at e;cases e
     exact⟨o,ZE⟩
    ·rw[Zv hb']
     rcases Zxd.mp hb with z|z
     ·exact absurd z hb'
     ·exact h2.2 b z vs e
noncomputable def Zl7(te:TE):TE:=fun σ H Q=>te σ H fun v H1=>∃G,Zld H1 G/\∀H2,ZhP G H1 H2->Q v H2
theorem Zkb{e:Expr}{te:TE}(he:PE X e te):PE X e (Zl7 te):=by
 intro pins s σ H Q I h
 refine thn (he pins s σ H _ I h) fun v s1 ⟨x,H1,I1,r,G,hL,q⟩=>?_
 obtain⟨H2,h2,I2⟩:=Inv.frzAll G I1 hL
 exact⟨x,H2,I2,r,q H2 h2⟩
variable {K:W.Frag}{B:Addr->Prop}{EX:PX->Hp->Prop}{H0 H H2:Hp}{Γ Γ':List Md}{ρ:List PV}{F:Nat->List Addr}{R G:List Addr}{te:TE}{f:List PV->Rr PV}
theorem ZkG(he:DE K EX (Γ.map frz) (Γ.map frz) .F te f):DE K EX Γ Γ .P (Zl7 te) (fun ρ=>(f ρ).bind fun x=>grd (V5 x)):=fun B H0 H σ ρ F R Q A d=>by
 refine he B H0 H σ ρ _ R _ A.freezeAll (d.bind.imp (fun x _ d v H1 s1 r=>?_) fun e q=>q)
 obtain⟨F1,f1,G,t1,o1,_⟩:=r
 have fr:∀a∈G,H a=none:=fun a ha=>by
  rcases (o1 a ha).2 with q|⟨j,q⟩
  ·exact q
  ·simp at q
 unfold grd at d
 split at d
 ·rename_i hf
  refine⟨G,t1.lists hf,fun H2 h2=>?_⟩
  have s2:Z9 H H2:=fun a o e=>by
   rw[h2.1 a fun z=>by rw[fr a z] at e;cases e]
   exact s1 a o e
  exact d v H2 s2 ⟨F,fun _ _ h=>h,hf,(V0.frz (t1.lists hf) h2 hf t1 fun a ha=>ha).rep (by simp),A.grow s2⟩
 ·exact d.elim
noncomputable def thw(x:PV):PV:=match x with
 |.fz xs=>.lst xs
 |x=>x
theorem Rep.thw{S:Addr->Prop}{x:PV}{v:V}(hS:∀a o vs,H a=some (.frz o (.lst vs))->S a)(h:Rep K H S x v):Rep K H S (thw x) v:=by
 cases x with
 |fz xs =>
  obtain⟨a,vs,rfl,⟨o,ha⟩,hr⟩:=h
  exact⟨a,vs,rfl,.inl ⟨.inr ⟨o,ha.1⟩,hS a o vs ha.1⟩,hr⟩
 |_=>exact h
theorem Ze8(he:DE K EX Γ Γ' .A te f):DE K EX Γ Γ' .A te (fun ρ=>(f ρ).bind fun x=>.ok (thw x)):=fun B H0 H σ ρ F R Q A d=>by
 refine he B H0 H σ ρ F R _ A (d.bind.imp (fun x _ d v H1 s1 r=>?_) fun e q=>q)
 obtain⟨F1,f1,p1,A1⟩:=r
 exact d v H1 s1 ⟨F1,f1,p1.thw fun _ _ _ _=>trivial,A1⟩
end
theorem Zlx{xs:List PV}:thw (.fz xs)=.lst xs:=rfl
section
variable {K:W.Frag}{EX:PX->Hp->Prop}{Γ Γ':List Md}{te:TE}{f:List PV->Rr PV}
noncomputable def Znm(x:PV):Rr PV:=match x with
 |.lst ys=>.ok (.tup ys)
 |_=>.bad
theorem Zap(he:DE K EX Γ Γ' .F te f):DE K EX Γ Γ' .F (tCB (Zjp K) (Q6 te Zf9)) (fun ρ=>(f ρ).bind Znm):=fun B H0 H σ ρ F R Q A d=>by
 refine he B H0 H σ ρ F R _ A (d.bind.imp (fun x _ d v H1 s1 r=>?_) fun e q=>q)
 obtain⟨F1,f1,G,ht,hG,A1⟩:=r
 cases x with
 |lst ys =>
  obtain⟨a,vs,G',rfl,ha,hts,hn,rfl⟩:=ht
  refine⟨a,vs,rfl,.inl ⟨.inl (.inl ha),fun l hl=>?_⟩⟩
  have e:=Z9.new (H:=H1) (o:=.tup vs) hl
  refine d _ _ (s1.trans e) ⟨F1,f1,G',⟨l,vs,rfl,⟨ZE,trivial⟩,hts.same e⟩,fun b hb=>hG b (Zxs _ hb),(A1.less fun b hb=>?_).grow e⟩
  rcases Zxg.mp hb with z|z
  ·simp[z]
  ·simp[z]
 |_=>exact d.elim
noncomputable def Znj(x:PV):Rr (List PV):=match x with
 |.tup [a,b]=>.ok [a,b]
 |_=>.bad
theorem Zfz{i:Nat}(hm:Γ[i]?=some .O):DAF K EX Γ (Γ.set i .U) (Q6 (tOp (rIx K) (ZeR i) (tC (.int 0))) (Q6 (tOp (rIx K) (ZeR i) (tC (.int 1))) Zf9)) (fun ρ=>Znj (gv i ρ)):=fun B H0 H σ ρ F R Q A d=>by
 obtain⟨v,h1,ht⟩:=A.getO hm
 have hd:∃a b,gv i ρ=.tup [a,b]:=by
  dsimp only at d
  unfold Znj at d
  split at d
  ·rename_i a b h;exact⟨a,b,h⟩
  ·exact d.elim
 obtain⟨x,y,e⟩:=hd
 dsimp only at d
 rw[show Znj (gv i ρ)=.ok [x,y] by rw[e];rfl] at d
 unfold gv at e
 rw[e] at ht
 obtain⟨a,vs,rfl,ha,v1,r,G1,G2,rfl,t1,⟨v2,r',G3,G4,rfl,t2,⟨rfl,rfl⟩,d2,rfl⟩,d1,hF⟩:=ht
 have sq:SqT K H a [v1,v2]:=ha.sqT
 refine⟨_,h1,.inr (.inl ⟨a,_,0,v1,rfl,rfl,sq,rfl,⟨_,h1,.inr (.inl ⟨a,_,1,v2,rfl,rfl,sq,rfl, ?_⟩)⟩⟩)⟩
 refine(show ∀vs H' F' G,_ from d) [v1,v2] H (Qo F i []) (F i) (Z9.refl H) (fun j a ha=>QH j a ha) ?_ (fun a ha=>⟨fun z=>A.disjR i a ha z,.inr ⟨i,ha⟩⟩) (A.move hm)
 exact⟨v1,[v2],G1,G3++[],rfl,t1,⟨v2,[],G3,[],rfl,t2,⟨rfl,rfl⟩,d2,rfl⟩,d1,hF⟩
end
def Zol(P:Program)(w:World)(K:W.Frag)(mg:Str->Option Value)(base:Heap)(f:Addr)(n:Str):Prop:=
 ∀(A:Around) (outer:List Env) (s:Shared) (H:Hp) (u:Value),A.depth<recursionLimit->ZmG P w K mg base A outer s H ->
  codeAny (model P w) A (.call (.ref f) ⟨[u],[]⟩) (CR CX0 outer P w H s (fun v H'=>v=.str n/\H'=H) E0) s
theorem Q7{P:Program}{w:World}{K:W.Frag}{mg:Str->Option Value}{base:Heap}{x qual n:Str}{st:Stmt}{f:Addr}{fd:FuncData}{j:_}{p q:Pos}(F:Fun K x qual st f fd)(S:Zr ["self"] ["self"] (Zd st))(B:ZbL K fd ["self"] [])(hb:Zo st=[.Return (some (.Constant (.str n) j p)) q]):Zol P w K mg base f n:=by
 obtain⟨oc,od,kV,doc,pm,an,cdv,ct,osl,rfl,lk,hcd⟩:=F.ex
 intro A outer s H u hd e0
 have KX:K.In s.heap:=e0.mod.kin.keeps fun b o e=>(e0.bs b o e).1
 have lim:s.heap.NoLimit:=e0.mod.nolimit.keeps fun b o e=>(e0.bs b o e).1
 have hkind:∀y∈(["self"]:List Str).zip [u],(Zd st).names.lookup y.1=some .local\/((Zd st).names.lookup y.1=some .cell/\((cellsFrom (s.heap.objs.size+1) (Zd st).names []).lookup y.1).isSome=true):=fun⟨n,v⟩ hy=>by
  rcases S.par n (Zyz hy).1 with q|q
  ·exact .inl q
  ·exact .inr ⟨q,PySem.W.cellsFrom_some _ _ _ (.inl q)⟩
 have hbs:=B s [u] KX rfl
 refine codeAny_call_function hd (KX _ _ lk) rfl S.co S.gen rfl (PySem.W.codeRec_of KX hcd) (hbs _ _ _ _ ?_)
 refine wpAny_newFunctionEnv_cells S.kind hkind fun env he s1 x=>?_
 subst he
 refine⟨lim.keeps x.toInCall.keep,codeAny_func ?_⟩
 obtain⟨h1,tk,rfl,hk⟩:=x.done
 rw[hb]
 refine wpAny_execs_cons (wpAny_Return_some (Calls.Constant_str ?_))
 exact⟨.str n,H,rfl,e0.bare,Un.kept hk,e0.hok.kept hk,⟨_,rfl⟩,rfl,rfl⟩
def ZeI(P:Program)(w:World)(K:W.Frag)(mg:Str->Option Value)(base:Heap)(m n:Str):Prop:=
 ∃C f,Za6 K n C/\PySem.W.exOk K C=true/\PySem.W.findIn K (.ref C) m=some (some (.ref f))/\PySem.W.typeIn K (.ref f)=some (.type "function")/\PySem.W.keepIn K (.ref f)=true/\Zol P w K mg base f n
theorem ZeX{X:Cx}{L:List Str}{o:Expr}{ta:TE}{apos pos:Pos}{pl:Sem Bool}(hM:∀n∈L,ZeI X.prog X.w X.K X.mg X.base "called" n)(hr:X.A.depth<recursionLimit)(he:PE X o ta)(ht:eval (.Call (.Attribute o "called" apos) [] [] pos) X.env=(do
   let ov <- eval o X.env
   standAt apos.atName
   let (f,first) <- holding [ov] (getMethod ov "called" pl)
   callWith pos f first (backTo pos (starEach [] X.env)) (backToKw pos (keywordEach [] X.env))):=by rfl) :
  PE X (.Call (.Attribute o "called" apos) [] [] pos) (ZfW X.K L ta):=by
 intro pins s σ H Q I h
 refine PySem.W.methodCall_KW (pl:=pl) (thn (he pins s σ H _ I h) fun u s1 ⟨x,H1,I1,rx,n,hn,hx,q⟩=>?_) ht
 obtain⟨a,oe,C,od,rfl,h5,hI,hl⟩:=hx.inst I1
 obtain rfl:u=Value.ref a:=rx
 obtain⟨C',f,c1,c2,c3,c4,c5,c7⟩:=hM n hn
 have hCC:C'=C:=by have z:=c1.symm.trans h5;simpa using z
 subst hCC
 simp only[PySem.W.exOk,Bool.and_eq_true,beq_iff_eq] at c2
 obtain⟨⟨⟨⟨⟨⟨⟨d1,d2⟩,d3⟩,d4⟩,d5⟩,d6⟩,d7⟩,d8⟩:=c2
 refine PySem.W.method_exc I1.kIn hI d1 d2 hl c3 c4 ?_
 refine PySem.W.callWith_K0 (first:=[.ref a]) I1.kIn c5 ?_
 refine wpAny_call (codeAny_mono (c7 X.A X.stack s1 H1 (.ref a) hr I1.env0) fun r s' hq=>?_)
 cases r with
 |error e=>exact hq.elim
 |ok fl =>
  cases fl with
  |ret u =>
   refine I1.after ?_
   obtain⟨v,H',g1,g2,g3,g4,g5,rfl,rfl⟩:=hq
   exact⟨_,_,g1,g2,g3,g4,g5,q _ (Z9.refl _)⟩
  |next=>exact False.elim hq
  |brk=>exact False.elim hq
  |cont=>exact False.elim hq
section
variable {X:Cx}{pins:List (Addr×Obj)}{σ:St}{H:Hp}{s:Shared}{h':Heap}
theorem Inv.turnedL{t':Nat}{cs:List Addr}(I:Inv X pins σ H s)(k:∀b o,b ∉ cs->s.heap.get? b=some o->h'.get? b=some o)(f:∀b∈cs,ZhQ X pins H b):Inv X pins σ H { s with heap:=h',toks:=t' }:=by
 refine I.step (g':=s.gens) (d':=s.drawn) (ch:=cs) (fun b hb=>?_) (fun b o _ _ hc q _=>k b o hc q) (fun b o _ _ hc q _=>⟨o.slots,k b o hc q⟩) (fun _ _ _ _ n=>n)
  (fun b o hc q=>⟨o,k b o hc q⟩) (fun _ _ q=>q) (fun _ _ _ q=>q) (fun b ps q=>⟨#[],by rw[q];simp⟩) (fun m hm=>?_) (fun b u q=>?_) I.bare
 ·obtain⟨f0,f1,f2,f3,f4,f5⟩:=f b hb
  exact⟨f3,f1,f4,f5⟩
 ·obtain⟨o,es,ep,ho,r⟩:=hm
  exact⟨o,es,ep,k _ o (fun z=>(f _ z).2.1 rfl) ho,r⟩
 ·refine(I.hok b u q).stay (fun c v hc q2=>?_) (fun _ q2=>q2) fun _ _ q2=>q2
  refine k c v (fun z=>?_) q2
  have hz:=(f c z).1
  rcases hc with e|e
  ·rw[e,q] at hz;cases hz
  ·rw[e] at hz;cases hz
end
noncomputable def Itz(K:W.Frag)(a b:Addr):It:=
 ⟨fun i H=>∃xs ys x y,SqL K H a xs/\SqL K H b ys/\xs[i]?=some x/\ys[i]?=some y,fun i H v H'=>∃t x y,v=.ref t/\H t=none/\H'=upd H t (.tup [x,y])/\(∀xs,SqL K H a xs->xs[i]?=some x)/\∀ys,SqL K H b ys->ys[i]?=some y,
  fun i H=>∃xs ys,SqL K H a xs/\SqL K H b ys/\(xs.length<=i\/ys.length<=i)⟩
theorem ZhX{P:Program}{w:World}{K:W.Frag}{elts:List Expr}{x1:Nat}{tpos:Pos}(a b z TI TO i1 i2:Addr)(ap:ZipApart z TI TO i1 i2 a b):ZjI P w K (.Tuple elts x1 tpos) (Itz K a b) [z,TI,TO,i1,i2] z
  (fun i h=>IsZip h z TI TO .none/\IsPair h TI (.ref i1) (.ref i2)/\(∃u v,IsPair h TO u v)/\h.IsListIter i1 a i/\h.IsListIter i2 b i) where
 mem:=by simp
 obj:=fun i h ⟨s1,s2,⟨u,v,s3⟩,s4,s5⟩ c hc=>by
  simp only[Zxd,Zxx,or_false] at hc
  rcases hc with rfl|rfl|rfl|rfl|rfl
  ·exact⟨_,s1,fun v z=>by (have z':Data.fields _=Data.cell v:=z);cases z'⟩
  ·exact⟨_,s2,fun v z=>by (have z':Data.seq _ _=Data.cell v:=z);cases z'⟩
  ·exact⟨_,s3,fun v z=>by (have z':Data.seq _ _=Data.cell v:=z);cases z'⟩
  ·obtain⟨o,e,c,d⟩:=s4
   exact⟨o,e,fun v z=>by rw[d] at z;cases z⟩
  ·obtain⟨o,e,c,d⟩:=s5
   exact⟨o,e,fun v z=>by rw[d] at z;cases z⟩
 keep:=fun i h h' ⟨s1,s2,⟨u,v,s3⟩,s4,s5⟩ k=>⟨k z (by simp) _ s1,k TI (by simp) _ s2,⟨u,v,k TO (by simp) _ s3⟩,s4.at fun o q=>k i1 (by simp) o q,s5.at fun o q=>k i2 (by simp) o q⟩
 item:=by
  intro X hP hw hK hc i pins s σ H E I hf ⟨s1,s2,⟨ou,ov,s3⟩,s4,s5⟩ hg
  subst hP hw hK
  obtain⟨xs,ys,x,y,hq,hq',hx,hy⟩:=hg
  obtain⟨its,rv,p,hz⟩:=I.list hq
  obtain⟨its',rv',p',hz'⟩:=I.list hq'
  obtain⟨u,hu,ru⟩:=rv.get hx
  obtain⟨u',hu',ru'⟩:=rv'.get hy
  refine wpAny_pyNext_zip_item ap s1 s2 s3 s4 s5 p.isList p'.isList (x:=u) (y:=u') (by simpa using hu) (by simpa using hu') fun h1 e1 e2 e3 e4 e5 z1 k1=>?_
  refine⟨_,rfl, ?_⟩
  refine wpAny_letOwnedTupleGo_zip e1 fun h2 g1 sb2=>?_
  have I2:Inv X pins σ H { s with heap:=h2,toks:=s.toks }:=I.turnedL (cs:=[z,TO,i1,i2]) (fun c o hn q=>by
   simp only[Zxd,Zxx,or_false,not_or] at hn
   exact sb2.extBut c o hn.1 (k1 c o hn.1 hn.2.1 hn.2.2.1 hn.2.2.2 q)) fun c hc=>hf c (by
    simp only[Zxd,Zxx,or_false] at hc ⊢
    rcases hc with h|h|h|h<;>simp[h])
  have hfr:=I.hok.fresh (Zxi s.heap.objs.size)
  have hlt:∀c∈[z,TI,TO,i1,i2],c<s.heap.objs.size:=fun c hc=>by
   simp only[Zxd,Zxx,or_false] at hc
   rcases hc with rfl|rfl|rfl|rfl|rfl
   ·exact Heap.lt_size s1
   ·exact Heap.lt_size s2
   ·exact Heap.lt_size s3
   ·obtain⟨o,q,_⟩:=s4;exact Heap.lt_size q
   ·obtain⟨o,q,_⟩:=s5;exact Heap.lt_size q
  have het:s.heap.objs.size≠z:=Zy4 (hlt z (by simp))
  obtain⟨g0,g1',g2,g3,g4,g5⟩:=I.fpOk (H':=H) (Zxi s.heap.objs.size) hfr
  have I3:=I2.adoptT (D:=s.heap.objs.size) (ys:=[x,y]) (its:=[u,u']) hfr I.sz g1' g4 g5 (sb2.extBut _ _ het e5) (.cons ru (.cons ru' .nil)) (show 2<=sizeLine by decide)
  refine⟨.ref s.heap.objs.size,_,I3,rfl,⟨_,x,y,rfl,hfr,rfl,fun zs hy'=>by rw[I.list_inj hy' hq];exact hx,fun zs hy'=>by rw[I.list_inj hy' hq'];exact hy⟩,
   ⟨g1, ?_,⟨u,u',sb2.extBut _ _ ap.TOz e2⟩,e3.extBut sb2.extBut ap.i1z,e4.extBut sb2.extBut ap.i2z⟩,fun c hc=>?_⟩
  ·exact sb2.extBut _ _ ap.TIz (k1 TI _ ap.TIz ap.TITO ap.TIi1 ap.TIi2 s2)
  ·rw[Zv (Zxv (hlt c hc))]
   exact(hf c hc).1
 done:=by
  intro X hP hw hK hc i pins s σ H E I hf ⟨s1,s2,⟨ou,ov,s3⟩,s4,s5⟩ hg
  subst hP hw hK
  obtain⟨xs,ys,hq,hq',hx⟩:=hg
  obtain⟨its,rv,p,hz⟩:=I.list hq
  obtain⟨its',rv',p',hz'⟩:=I.list hq'
  have hl:=rv.length
  have hl':=rv'.length
  exact wpAny_pyNext_zip_end (I.ok.hd hc) ap s1 s2 s3 s4 s5 p.isList p'.isList (by
   rcases hx with h|h
   ·exact .inl (by simp;lia)
   ·exact .inr (by simp;lia)) fun h' eb=>⟨rfl,I.turnedL (t':=s.toks) (cs:=[z,TO,i1,i2]) (fun c o hn q=>by
    simp only[Zxd,Zxx,or_false,not_or] at hn
    exact eb c o hn.1 hn.2.1 hn.2.2.1 hn.2.2.2 q) fun c hc=>hf c (by
    simp only[Zxd,Zxx,or_false] at hc ⊢
    rcases hc with h|h|h|h<;>simp[h])⟩
 self:=fun _ _ _ _ _ ⟨st,_⟩ h=>wpAny_pyIter_zip st h
section
variable {X:Cx}{K:W.Frag}{elts:List Expr}{x1:Nat}{tpos:Pos}
noncomputable def Zoc(K:W.Frag)(tl:TA):TI:=fun σ H R=>tl σ H fun vs H1=>∃a b,vs=[.ref a,.ref b]/\(∃xs,SqL K H1 a xs)/\(∃xs,SqL K H1 b xs)/\R (Itz K a b) H1
theorem Zm9:bootBuiltins "zip"=some (.type "zip"):=by decide +kernel
theorem ZlN{l m:Expr}{tl:TA}{p pos:Pos}(hg:Gl X "zip")(hm:X.mg "zip"=none)(ha:PA X [l,m] tl)(e:X.K=K:=by rfl)(hs:starEach [l,m] X.env=[(false,eval l X.env),(false,eval m X.env)]:=by rfl)(hs2:starEach [m] X.env=[(false,eval m X.env)]:=by rfl):PI X (.Tuple elts x1 tpos) (.Call (.Name "zip" p) [l,m] [] pos) (Zoc K tl):=by
 subst e
 intro pins s σ H R I h
 refine Call_ (Zcx I hg hm Zm9 (PyProof.Rows.callWith_type1 (thn (ha pos pins s σ H _ I h) fun us s1 ⟨vs,H1,I1,r1,q1⟩=>?_) (by rw[hs,hs2]) (by rw[hs2];rfl)))
 obtain⟨a,b,e,⟨xs,hq⟩,⟨ys,hq'⟩,q⟩:=q1
 subst e
 cases r1 with
 |cons r rr =>
  cases rr with
  |cons r' rr =>
   cases rr
   cases r
   cases r'
   obtain⟨its,rv,pl,hz⟩:=I1.list hq
   obtain⟨its',rv',pl',hz'⟩:=I1.list hq'
   refine call_zip_2 pl.isList pl'.isList fun h' e1 e2 e3 e4 e5 z1 k1=>?_
   refine wpAny_pyIter_zip e1 ?_
   have I2:Inv X pins σ H1 { s1 with heap:=h' }:=I1.kept (t':=s1.toks) k1
   have l1:a<s1.heap.objs.size:=by obtain⟨o,q,_⟩:=pl.isList;exact Heap.lt_size q
   have l2:b<s1.heap.objs.size:=by obtain⟨o,q,_⟩:=pl'.isList;exact Heap.lt_size q
   refine⟨s1.heap.objs.size+4,_,_,_,H1,rfl,I2,ZhX a b _ _ _ _ _ (zipApart_new l1 l2),⟨e1,e2,⟨_,_,e3⟩,e4,e5⟩,fun c hc=>?_,q⟩
   have hb':s1.heap.objs.size<=c:=by
    simp only[Zxd,Zxx,or_false] at hc
    rcases hc with rfl|rfl|rfl|rfl|rfl<;>first|exact Nat.le_add_right _ _|exact Zxi _
   exact I1.fpOk hb' (I1.hok.fresh hb')
end
noncomputable def Zlj(xs ys:List PV):List PV:=(xs.zip ys).map fun q=>.tup [q.1,q.2]
section
variable {K:W.Frag}{H:Hp}{EX:PX->Hp->Prop}{Γ Γ':List Md}
theorem Zky{a b:Addr}{xs ys:List PV}{S:Addr->Prop}(h:Rep K H S (.lst xs) (.ref a))(h':Rep K H S (.lst ys) (.ref b)):ItP K S (Itz K a b) (Zlj xs ys) H:=by
 obtain⟨a',vs,e,hn,hr⟩:=h
 cases e
 obtain⟨b',ws,e,hn',hr'⟩:=h'
 cases e
 intro i
 constructor
 ·intro x hx
  unfold Zlj at hx
  rw[Zxm,ZxR] at hx
  obtain⟨⟨p,q⟩,hz,rfl⟩:=hx
  obtain⟨hp,hq⟩:=List.getElem?_zip_eq_some.mp hz
  obtain⟨u,e1,e2⟩:=hr.get hp
  obtain⟨u',e1',e2'⟩:=hr'.get hq
  refine⟨⟨vs,ws,u,u',JN hn,JN hn',e1,e1'⟩,fun v H' ⟨t,z,z',e3,e4,e5,e6,e7⟩=>?_⟩
  have h1:=e6 vs (JN hn)
  rw[e1] at h1;cases h1
  have h2:=e7 ws (JN hn')
  rw[e1'] at h2;cases h2
  subst e3 e5
  have sm:Z9 H (upd H t (.tup [u,u'])):=Z9.upd (Z9.refl H) e4
  exact⟨sm,t,_,rfl,⟨ZE,trivial⟩,⟨_,_,rfl,e2.same sm,_,_,rfl,e2'.same sm,rfl⟩⟩
 ·intro hx
  unfold Zlj at hx
  rw[Zxm,Option.map_eq_none_iff,Zx6,ZyD] at hx
  refine⟨vs,ws,JN hn,JN hn', ?_⟩
  rw[hr.length,hr'.length]
  lia
noncomputable def Znl(xs:List PV):Rr (List PV):=match xs with
 |[.lst xs,.lst ys]=>.ok (Zlj xs ys)
 |_=>.bad
theorem Zm3{ta:TA}{fa:List PV->Rr (List PV)}(ha:DAZ K EX Γ Γ' ta fa):DI K EX Γ Γ' (Zoc K ta) (fun ρ=>(fa ρ).bind Znl):=fun B H0 H σ ρ F R Q A d=>by
 refine ha B H0 H σ ρ F R _ A (d.bind.imp (fun xs _ d vs H1 F1 s1 f1 p1 A1=>?_) fun e q=>q)
 unfold Znl at d
 split at d
 ·rename_i xs ys
  obtain⟨v,w,rfl,h1,h2⟩:=ZlE p1
  obtain⟨a,us,rfl,hn,hr⟩:=id h1
  obtain⟨b,us',rfl,hn',hr'⟩:=id h2
  exact⟨a,b,rfl,⟨us,JN hn⟩,⟨us',JN hn'⟩,d _ H1 F1 s1 f1 A1 fun H2 F2 h=>Zky (h1.frm h A1) (h2.frm h A1)⟩
 ·exact d.elim
end
end L2
namespace L2
open PySem PySem.NumText PyProof.Rows
noncomputable def JK(n:Int):Str:=Str.ofString (toString n)
noncomputable def spS:Str:=⟨#[32]⟩
theorem Zga:Str.ofString " "=spS:=by decide
theorem Uk{n:Int}(h:0<=n):(JK n).cps.toList=(ZxN 10 n.toNat).map Char.toNat:=by
 obtain⟨m,rfl⟩:=Zyj h
 exact PySem.W.KIN.signs_num m
theorem Qt(m:Nat):AllDigits ((ZxN 10 m).map Char.toNat):=fun c hc=>by
 obtain⟨ch,hch,e⟩:=Zxr.mp hc
 have r:=PyProof.Rows.digit_range (Nat.isDigit_of_mem_toDigits (by decide) (by decide) hch)
 rw[<- e]
 exact r
theorem ZjB(m:Nat):(ZxN 10 m).map Char.toNat≠[]:=fun e=>by
 have h:=toDigits_len_ge 10 m
 rw[List.map_eq_nil_iff.mp e] at h
 exact absurd h (by decide)
theorem ZcD:∀(cs:List Nat) (a:Nat),AllDigits cs->cs.foldl (fun acc c=>acc*10+(c-48)) a<(a+1)*10^cs.length
 |[],a,_=>by simp
 |c::cs,a,h=>by
  have hc:=h c (by simp)
  have ih:=ZcD cs (a*10+(c-48)) fun x hx=>h x (by simp[hx])
  simp only[List.foldl_cons,Zxp]
  refine Zxj ih ?_
  rw[Nat.pow_succ,<- Nat.mul_assoc,Nat.mul_right_comm]
  exact Zyv _ (by lia)
theorem Zbr{n:Int}:(JK n).length=(JK n).cps.toList.length:=by simp[Str.length]
theorem U3{n:Int}{k:Nat}(h0:0<=n)(hk:0<k)(h:n<10^k):(JK n).length<=k:=PyProof.Rows.toString_length_le h0 hk h
theorem Zkq{n:Int}(h0:0<=n):n<10^(JK n).length:=by
 obtain⟨m,rfl⟩:=Zyj h0
 have h:=ZcD _ 0 (Qt m)
 have e:((ZxN 10 m).map Char.toNat).foldl (fun acc c=>acc*10+(c-48)) 0=m:=PySem.W.KIN.val_back m
 rw[e] at h
 rw[Zbr,Uk h0,Zxt]
 have:((m:Nat):Int)<((10^((ZxN 10 m).map Char.toNat).length:Nat):Int):=by lia
 rw[Zy2] at this
 exact this
theorem Zbs{n:Int}(h0:0<=n)(hl:(JK n).length<=640):PySem.intText? (JK n)=some n:=by
 obtain⟨m,rfl⟩:=Zyj h0
 have e1:=Uk h0
 have hd:AllDigits (JK ((m:Nat):Int)).cps.toList:=by rw[e1];exact Qt _
 have hne:(JK ((m:Nat):Int)).cps.toList≠[]:=by rw[e1];exact ZjB _
 have e:=intText_digits hd hne (by lia)
 rw[e1,Zxt,PySem.W.KIN.val_back] at e
 exact e
theorem Uj{n:Int}(h0:0<=n):∀c∈(JK n).cps.toList,48<=c/\c<=57:=by rw[Uk h0];exact Qt _
theorem Ze6(m:Nat):0<m->∃c r,(ZxN 10 m).map Char.toNat=c::r/\c≠48:=by
 induction m using Nat.strongRecOn with
 |_ m ih =>
  intro h0
  by_cases h:m<10
  ·rw[Nat.toDigits_of_lt_base h]
   refine⟨_,_,rfl, ?_⟩
   have:∀d:Nat,d<10->0<d->(Nat.digitChar d).toNat≠48:=by decide
   exact this m h h0
  ·have hm:m%10<10:=Nat.mod_lt m (by decide)
   have t:ZxN 10 (m/10)++ZxN 10 (m%10)=ZxN 10 (10*(m/10)+m%10):=Nat.toDigits_append_toDigits (by decide) (by lia) hm
   rw[Nat.div_add_mod] at t
   obtain⟨c,r,e,hc⟩:=ih (m/10) (by lia) (by lia)
   refine⟨c,r++(ZxN 10 (m%10)).map Char.toNat, ?_,hc⟩
   rw[<- t,ZxF,e];rfl
theorem ZgF{n:Int}(h0:0<=n):PyData.canLay0 (.str (JK n))=true:=by
 unfold PyData.canLay0 PyData.strOk
 rw[<- Zyr,Zxz]
 intro c hc
 have:=Uj h0 c hc
 exact decide_eq_true (by lia)
theorem Zkp{n:Int}(h0:0<=n):(JK n==("":Str))=false:=by
 rw[beq_eq_false_iff_ne]
 intro e
 have h:=Uk h0
 rw[e] at h
 exact ZjB _ h.symm
theorem Zmd:JK 0=("0":Str):=by decide
theorem ZgE{n:Int}(h0:0<=n)(hn:n≠0):(JK n==("0":Str))=false:=by
 rw[beq_eq_false_iff_ne]
 intro e
 obtain⟨c,r,e1,e2⟩:=Ze6 n.toNat (by lia)
 have h:=Uk h0
 rw[e,e1] at h
 have h:[48]=c::r:=h
 cases h
 exact e2 rfl
theorem Zfg{n:Int}(h0:0<=n)(hn:n≠0):∃c,atI (JK n).cps.toList 0=some c/\((⟨#[c]⟩:Str)==("0":Str))=false/\c<1114112:=by
 obtain⟨c,r,e1,e2⟩:=Ze6 n.toNat (by lia)
 have h:=Uk h0
 rw[e1] at h
 have hc:c∈(JK n).cps.toList:=by rw[h];simp
 have:=Uj h0 c hc
 refine⟨c, ?_, ?_,by lia⟩
 ·rw[h]
  unfold atI
  rw[Zex (by lia) (by simp only[Zxp];lia)];rfl
 ·rw[beq_eq_false_iff_ne]
  intro e
  have:(⟨#[c]⟩:Str).cps.toList=[48]:=by rw[e];rfl
  simp at this
  exact e2 this
noncomputable def Znz:Str := "0123456789"
theorem Zm0{c:Nat}(h:48<=c/\c<=57):inS ⟨#[c]⟩ Znz=true:=by
 unfold inS
 rw[StrLaws.found_one]
 refine decide_eq_true ?_
 have e:Znz.cps.toList=[48,49,50,51,52,53,54,55,56,57]:=by decide
 rw[e]
 simp only[Zxd,Zxx,or_false]
 lia
noncomputable def Jn(l:List Int):Str:=Txt.join spS (l.map JK)
theorem UX(l:List Int):Jn l=Str.join spS (l.map JK):=StrLaws.glued_eq_join spS _
theorem ZfK{c:Nat}:∀{x y A B:List Nat},c ∉ x->c ∉ y->x++c::A=y++c::B->x=y/\A=B
 |[],[],_,_,_,_,h=>⟨rfl,(List.cons.inj h).2⟩
 |[],b::y,_,_,_,hy,h=>by
  have:=(List.cons.inj h).1
  exact absurd (by simp[this]) hy
 |a::x,[],_,_,hx,_,h=>by
  have:=(List.cons.inj h).1
  exact absurd (by simp[this]) hx
 |a::x,b::y,A,B,hx,hy,h=>by
  obtain⟨h1,h2⟩:=List.cons.inj h
  obtain⟨e1,e2⟩:=ZfK (c:=c) (x:=x) (y:=y) (fun z=>hx (by simp[z])) (fun z=>hy (by simp[z])) h2
  exact⟨by rw[h1,e1],e2⟩
theorem join_list(c:Nat)(x y:Str)(r:List Str):(Str.join ⟨#[c]⟩ (x::y::r)).cps.toList=x.cps.toList++c::(Str.join ⟨#[c]⟩ (y::r)).cps.toList:=by
 show (x++⟨#[c]⟩++Str.join ⟨#[c]⟩ (y::r)).cps.toList=_
 simp[Str.cps_append]
theorem Zaj(c:Nat):∀{ws vs:List Str},ws≠[]->vs≠[]->(∀w∈ws,c ∉ w.cps.toList)->(∀w∈vs,c ∉ w.cps.toList)->Str.join ⟨#[c]⟩ ws=Str.join ⟨#[c]⟩ vs->ws=vs
 |[],_,h,_,_,_,_=>absurd rfl h
 |_,[],_,h,_,_,_=>absurd rfl h
 |[x],[y],_,_,_,_,h=>by rw[show x=y from h]
 |[x],y::y'::r,_,_,hx,_,h=>by
  have e:(Str.join _ _).cps.toList=(Str.join _ _).cps.toList:=congrArg (fun z:Str=>z.cps.toList) h
  rw[join_list] at e
  exact absurd (show c∈x.cps.toList by rw[show x.cps.toList=_ from e];simp) (hx x (by simp))
 |x::x'::r,[y],_,_,_,hy,h=>by
  have e:(Str.join _ _).cps.toList=(Str.join _ _).cps.toList:=congrArg (fun z:Str=>z.cps.toList) h
  rw[join_list] at e
  exact absurd (show c∈y.cps.toList by rw[show y.cps.toList=_ from e.symm];simp) (hy y (by simp))
 |x::x'::r,y::y'::q,_,_,hx,hy,h=>by
  have e:(Str.join _ _).cps.toList=(Str.join _ _).cps.toList:=congrArg (fun z:Str=>z.cps.toList) h
  rw[join_list,join_list] at e
  obtain⟨e1,e2⟩:=ZfK (hx x (by simp)) (hy y (by simp)) e
  have e3:Str.join ⟨#[c]⟩ (x'::r)=Str.join ⟨#[c]⟩ (y'::q):=Str.ext' (Array.toList_inj.mp e2)
  have ih:=Zaj c (by simp) (by simp) (fun w hw=>hx w (by simp at hw ⊢;exact .inr hw)) (fun w hw=>hy w (by simp at hw ⊢;exact .inr hw)) e3
  rw[ih,Str.ext' (Array.toList_inj.mp e1)]
theorem ZdQ(x y:Str):Txt.split x y≠[]:=by
 unfold Txt.split
 split
 ·simp
 ·split
  ·simp
  ·rw[StrLaws.partsBetween_eq]
   obtain⟨p,r,e⟩:=StrLaws.partsFrom_ne x y.length 0 (Builtin.Str.occurrences x y 0 x.length (x.length+1))
   rw[e];simp
theorem ZfY{l:List Int}(hn:l≠[])(h:∀x∈l,0<=x):Txt.split (Jn l) spS=l.map JK:=by
 refine Zaj 32 (ZdQ _ _) (by simpa using hn) (StrLaws.split_free _ 32) (fun w hw=>?_) ?_
 ·obtain⟨x,hx,rfl⟩:=Zxr.mp hw
  intro z
  have:=Uj (h x hx) 32 z
  lia
 ·have:=StrLaws.join_split (Jn l) spS
  rw[UX] at this ⊢
  exact this
theorem Zjm{l:List Int}{k:Nat}(hk:0<k)(h:∀x∈l,0<=x/\x<10^k):((l.map JK).map (·.length)).sum<=l.length*k:=by
 induction l with
 |nil=>simp
 |cons x l ih =>
  have h1:=U3 (h x (by simp)).1 hk (h x (by simp)).2
  have h2:=ih fun y hy=>h y (by simp[hy])
  simp only[Zxf,ZxB,Zxp]
  rw[Nat.add_mul]
  lia
theorem Zhc{l:List Int}{k:Nat}(hk:0<k)(h:∀x∈l,0<=x/\x<10^k):(Jn l).length<=l.length*(k+1):=by
 rw[UX]
 cases l with
 |nil=>simp[Str.join,Str.empty,Str.length]
 |cons a l =>
  have e:=PyProof.Rows.len_join_cons spS (JK a) (l.map JK)
  have h2:=Zjm hk h
  rw[Zxf] at h2 ⊢
  rw[e,Zxc,show spS.length=1 from rfl]
  rw[Zxp,Nat.mul_add]
  simp only[Zxp] at h2
  lia
theorem ZmB{z:Str}:asS (.str z)=.ok z:=rfl
theorem Zku{n:Int}(h0:0<=n)(h:n<10^110):n.natAbs.log2<1920:=by
 by_cases c:n.natAbs=0
 ·rw[c];decide
 ·refine(Nat.log2_lt c).mpr ?_
  have h1:n.natAbs<10^110:=by
   have:((n.natAbs:Nat):Int)<((10^110:Nat):Int):=by
    rw[Zy2]
    have e:((n.natAbs:Nat):Int)=n:=by lia
    rw[e];exact h
   exact Int.ofNat_lt.mp this
  exact Zxj h1 (by decide +kernel)
theorem Zin{n:Int}(h0:0<=n)(h:n<10^110):Zgq [.int n]=.ok (.str (JK n)):=if_pos (Zku h0 h)
theorem Zg2{n:Int}(h0:0<=n)(hl:(JK n).length<=640):Zg3 [.str (JK n)]=.ok (.int n):=by
 unfold Zg3
 simp only[Zbs h0 hl]
 rw[if_pos hl]
theorem Zgy{n:Int}(hl:(JK n).length<=1000000):Ziv [.str (JK n)]=.ok (.int (JK n).length):=if_pos hl
theorem Zfb{l:List Int}(hn:l≠[])(h:∀x∈l,0<=x/\x<10^110)(hl:l.length<=100):Zab (Jn l) [.str (" ":Str)]=.ok (.lst ((l.map JK).map PV.str)):=by
 have h0:∀x∈l,0<=x:=fun x hx=>(h x hx).1
 have e:=Zhc (k:=110) (by decide) h
 have e2:l.length*(110+1)<=11100:=by lia
 unfold Zab
 rw[show ((" ":Str))=spS from Zga]
 simp only[ZfY hn h0]
 rw[if_pos ⟨by decide,by lia,by rw[Zxc];lia⟩]
theorem Zgz{l:List Int}(h:∀x∈l,0<=x/\x<10^110)(hl:l.length<=100):Zdi (" ":Str) [.lst ((l.map JK).map PV.str)]=.ok (.str (Jn l)):=by
 unfold Zdi
 have e:=Zjm (k:=110) (by decide) h
 simp only[ZaD]
 rw[show ((" ":Str))=spS from Zga,if_pos (by rw[Zxc,show spS.length=1 from rfl];lia)]
 rfl
theorem Zbp{g:Bool->Bool}{n:Int}{b:Str}(h0:0<=n)(hb:PyData.canLay0 (.str b)=true):ZbM g (.str (JK n)) (.str b)=.ok (.bl (g (JK n==b))):=VT (ZgF h0) hb
noncomputable def ZfD(n:Int):Int:=if n<10^61 then n else 10^60+1
theorem Zh6{n:Int}(h0:0<=n):((61:Int)<(JK n).length) ↔ ¬n<10^61:=by
 constructor
 ·intro h hn
  have:=U3 (k:=61) h0 (by decide) hn
  lia
 ·intro h
  have h1:=Zkq h0
  by_cases c:(JK n).length<=61
  ·exfalso
   have h2:((10^(JK n).length:Nat):Int)<=((10^61:Nat):Int):=Int.ofNat_le.mpr (Zyu (by decide) c)
   rw[Zy2,Zy2] at h2
   exact h (Int.lt_of_lt_of_le h1 h2)
  ·lia
end L2
namespace My
open L2
noncomputable def tab(n:Nat)(f:Nat->Int):List Int:=(List.range n).map f
theorem getD_set{l:List Int}{j x:Nat}{v:Int}(h:j<l.length):(l.set j v).getD x 0=if x=j then v else l.getD x 0:=by
 rw[ZwZ,ZwZ]
 by_cases e:x=j
 ·subst e;rw[Zxy h,if_pos rfl];rfl
 ·rw[Zx1 (Ne.symm e),if_neg e]
structure JI(ns:List Int):Prop where
 lo:2<=ns.length
 hi:ns.length<=24
 nn:∀x∈ns,0<=x
 sm:ns.sum<=10^60
theorem sum_nn:∀{l:List Int},(∀x∈l,0<=x)->0<=l.sum
 |[],_=>by simp
 |a::l,h=>by
  have:=sum_nn (l:=l) fun x hx=>h x (by simp[hx])
  have:=h a (by simp)
  simp only[ZxB];lia
noncomputable def Zox(ns:List Int)(p:Int)(x:Nat):Int:=(if (x:Int)=p then 0 else ns.getD x 0)+ns.getD p.toNat 0/ns.length
noncomputable def Zou(n:Int)(p:Int)(i:Int)(x:Nat):Int:=if 1<=((x:Int)-p)%n/\((x:Int)-p)%n<=i then 1 else 0
noncomputable def Zov(ns:List Int)(p:Int)(i:Int)(x:Nat):Int:=Zox ns p x+Zou ns.length p i x
noncomputable def Zow(ns:List Int)(p:Int):List Int:=tab ns.length (Zov ns p (ns.getD p.toNat 0%ns.length))
noncomputable def Zot(ns:List Int)(p:Int):Int:=(p+ns.getD p.toNat 0%ns.length)%ns.length
section
end
noncomputable def run(f:Nat->Int):Nat->Nat->Nat
 |0,i=>i
 |k+1,i=>if 0<f i then run f k (i+1) else i
section
end
noncomputable def ZnS(a:List Int×Int):List Int×Int:=(Zow a.1 a.2,Zot a.1 a.2)
noncomputable def its{α:Type}(f:α->α):Nat->α->α
 |0,a=>a
 |n+1,a=>f (its f n a)
section
end
end My
namespace My
open PySem L2
noncomputable def Vy(ns:List Int):Bool:=decide (2<=ns.length/\ns.length<=24/\(∀x∈ns,0<=x)/\ns.sum<=10^60)
theorem Qw{ns:List Int}:Vy ns=true ↔ JI ns:=by
 unfold Vy
 rw[decide_eq_true_iff]
 exact⟨fun⟨a,b,c,d⟩=>⟨a,b,c,d⟩,fun h=>⟨h.lo,h.hi,h.nn,h.sm⟩⟩
end My
namespace L2
open PySem PySem.NumText PyProof.Rows
def Zo1(s:Str):Prop:=PyData.canLay0 (.str s)=true
theorem ZgV(s:Str):s.length=s.cps.toList.length:=by simp[Str.length]
theorem ZaE{c:Nat}{ws:List Str}(hn:ws≠[])(h:∀w∈ws,c ∉ w.cps.toList):Txt.split (Str.join ⟨#[c]⟩ ws) ⟨#[c]⟩=ws:=
 Zaj c (ZdQ _ _) hn (StrLaws.split_free _ c) h (StrLaws.join_split _ _)
noncomputable def Zmj(s:Str):List Str:=Txt.split s ⟨#[10]⟩
theorem ZaM{s:Str}{c:Nat}(h:s.length<=100000)(hc:(Txt.split s ⟨#[c]⟩).length<=1000000):Zab s [.str ⟨#[c]⟩]=.ok (.lst ((Txt.split s ⟨#[c]⟩).map PV.str)):=if_pos ⟨Zxi 1,h,hc⟩
structure OkW(w:Str):Prop where
 lay:Zo1 w
 len:w.length<=100
 sp:32 ∉ w.cps.toList
 nl:10 ∉ w.cps.toList
theorem Zkn{n:Int}(h0:0<=n)(h:n<=10^60):OkW (JK n):=by
 refine⟨ZgF h0, ?_,fun z=>?_,fun z=>?_⟩
 ·have:=U3 (k:=61) h0 (by decide) (by lia)
  lia
 ·have:=Uj h0 32 z;lia
 ·have:=Uj h0 10 z;lia
theorem ZaR(c:Nat):∀{ws:List Str}{d:Nat},d∈(Str.join ⟨#[c]⟩ ws).cps.toList->d=c\/∃w∈ws,d∈w.cps.toList
 |[],d,h=>by
  have h:d∈([]:List Nat):=h
  simp at h
 |[x],d,h=>.inr ⟨x,by simp,h⟩
 |x::y::r,d,h=>by
  rw[join_list] at h
  rcases Zxg.mp h with h|h
  ·exact .inr ⟨x,by simp,h⟩
  ·rcases Zxd.mp h with h|h
   ·exact .inl h
   ·rcases ZaR c h with h|⟨w,hw,hd⟩
    ·exact .inl h
    ·exact .inr ⟨w,Zxs _ hw,hd⟩
theorem Zb0(c:Nat){k:Nat}:∀{ws:List Str},(∀w∈ws,w.length<=k)->(Str.join ⟨#[c]⟩ ws).length<=ws.length*(k+1)
 |[],_=>Zym _
 |[x],h=>by
  have:=h x (by simp)
  show x.length<=_
  simp only[ZxC];lia
 |x::y::r,h=>by
  have ih:=Zb0 c (ws:=y::r) fun w hw=>h w (Zxs _ hw)
  have hx:=h x (by simp)
  rw[ZgV] at ih ⊢
  rw[join_list,Zxq,Zxp]
  rw[ZgV] at hx
  simp only[Zxp] at ih ⊢
  rw[Nat.add_mul,Nat.one_mul]
  lia
structure Zlb(ws:List Str):Prop where
 ne:ws≠[]
 len:ws.length<=60
 ok:∀w∈ws,OkW w
section
variable {ws:List Str}
theorem Zlb.jlen(h:Zlb ws):(Str.join spS ws).length<=6060:=by
 have:=Zb0 32 (k:=100) fun w hw=>(h.ok w hw).len
 have:=h.len
 have:ws.length*(100+1)<=6060:=by lia
 exact Zx2 ‹_› this
theorem Zlb.nl(h:Zlb ws):10 ∉ (Str.join spS ws).cps.toList:=fun z=>by
 rcases ZaR 32 z with z|⟨w,hw,hd⟩
 ·cases z
 ·exact(h.ok w hw).nl hd
theorem Zlb.lines(h:Zlb ws){rs:List Str}(hr:∀w∈rs,10 ∉ w.cps.toList):Zmj (Str.join ⟨#[10]⟩ (Str.join spS ws::rs))=Str.join spS ws::rs:=ZaE (by simp) fun w hw=>by
 rcases Zxd.mp hw with hw|hw
 ·rw[hw];exact h.nl
 ·exact hr w hw
end
end L2
namespace L2
open PySem PySem.Spec PyProof.Rows
section
end
end L2
namespace L2
open PySem PySem.NumText PyProof.Rows
end L2
namespace My
open PySem L2
end My
namespace L2
noncomputable def Js(p s:Int):Int:=p*s%(p+1)
noncomputable def QM(p s:Int):Int:=p*s/(p+1)
noncomputable def ZO(s:Int):Nat->Int
 |0=>s
 |k+1=>QM (k+1) (ZO s k)
noncomputable def ZH(s:Int)(n:Nat):List Int:=(List.range n).map fun(k:Nat)=>Js (k+1) (ZO s k)
theorem Zal(s:Int)(n:Nat):ZH s (n+1)=ZH s n++[Js (n+1) (ZO s n)]:=by
 simp[ZH,List.range_succ]
@[simp] theorem J1(s:Int)(n:Nat):(ZH s n).length=n:=by simp[ZH]
theorem ZW{s:Int}{n i:Nat}(h:i<n):(ZH s n).getD i 0=Js (i+1) (ZO s i):=by
 simp[ZH,ZwZ,Zxm,Zx4 h]
theorem Zb2{p s:Int}(h:0<=p):0<=Js p s/\Js p s<=p:=by
 have h1:=Zxu (p*s) (show p+1≠0 by lia)
 have h2:=Zxo (p*s) (show 0<p+1 by lia)
 unfold Js;lia
theorem Qs(p s:Int):p*s=(p+1)*QM p s+Js p s:=(Int.mul_ediv_add_emod (p*s) (p+1)).symm
theorem ZkQ{p s:Int}(hp:0<=p)(h:0<=s):0<=QM p s:=Int.ediv_nonneg (Int.mul_nonneg hp h) (by lia)
theorem ZkS{p s m:Int}(hp:0<p):m<=QM p s ↔ m*(p+1)<=p*s:=by
 unfold QM;exact Int.le_ediv_iff_mul_le (by lia)
theorem ZkR{p s:Int}(hp:0<p)(h:0<s):QM p s<s:=by
 have:=(ZkS (p:=p) (s:=s) (m:=s) hp)
 have e:s*(p+1)=p*s+s:=by rw[Int.mul_add,Int.mul_comm s p,Int.mul_one]
 lia
theorem Zau(p:Int):QM p 0=0:=by simp[QM]
theorem ZaS(p:Int):Js p 0=0:=by simp[Js]
theorem Ju(s:Int)(k:Nat):ZO s (k+1)=QM (k+1) (ZO s k):=rfl
theorem UM{s:Int}(h:0<=s):∀k,0<=ZO s k
 |0=>h
 |k+1=>ZkQ (by lia) (UM h k)
theorem Ql{s:Int}(h:0<=s):∀k:Nat,ZO s k<=s-k\/ZO s k=0
 |0=>.inl (by simp[ZO])
 |k+1=>by
  rw[Ju]
  rcases Ql h k with z|z
  ·by_cases h0:0<ZO s k
   ·have:=ZkR (p:=(k:Int)+1) (by lia) h0
    exact .inl (by lia)
   ·have:=UM h k
    rw[show ZO s k=0 by lia]
    exact .inr (Zau _)
  ·rw[z];exact .inr (Zau _)
theorem Zic{s:Int}(h:0<=s)(k:Nat):ZO s k<=s:=by
 rcases Ql h k with z|z<;>lia
theorem V6{s:Int}{k:Nat}(h:ZO s k=0):∀j,ZO s (k+j)=0
 |0=>h
 |j+1=>by rw[<- Nat.add_assoc,Ju,V6 h j,Zau]
theorem ZaU(s:Int):∀n:Nat,(ZH s n).sum=s-(n+1)*ZO s n
 |0=>by simp[ZH,ZO]
 |n+1=>by
  rw[Zal,List.sum_append,ZaU s n,Ju]
  have:=Qs ((n:Int)+1) (ZO s n)
  simp only[ZxB,List.sum_nil]
  have e:((n+1:Nat):Int)+1=(n:Int)+1+1:=by lia
  rw[e]
  lia
noncomputable def ZeJ(s:Int):Nat->Nat->Nat
 |0,k=>k
 |n+1,k=>if 0<ZO s k then ZeJ s n (k+1) else k
noncomputable def ZT(s:Int):Nat:=ZeJ s s.toNat 0
theorem Za8(s:Int):∀n k,(∀j,j<k->0<ZO s j)->ZO s (k+n)<=0->(∀j,j<ZeJ s n k->0<ZO s j)/\ZO s (ZeJ s n k)<=0/\ZeJ s n k<=k+n
 |0,k,h1,h2=>⟨h1,h2,Zxi _⟩
 |n+1,k,h1,h2=>by
  unfold ZeJ
  split
  ·rename_i h
   have:=Za8 s n (k+1) (fun j hj=>by
    by_cases e:j=k
    ·rw[e];exact h
    ·exact h1 j (by lia)) (by rw[show k+1+n=k+(n+1) by lia];exact h2)
   exact⟨this.1,this.2.1,by lia⟩
  ·exact⟨h1,by lia,by lia⟩
theorem Jw{s:Int}(h:0<=s):(∀j,j<ZT s->0<ZO s j)/\ZO s (ZT s)=0/\ZT s<=s.toNat:=by
 have hz:ZO s (0+s.toNat)<=0:=by
  have:=Ql h s.toNat
  rw[Nat.zero_add];lia
 have:=Za8 s s.toNat 0 (fun j hj=>by lia) hz
 have n:=UM h (ZT s)
 unfold ZT at n ⊢
 exact⟨this.1,by lia,by lia⟩
theorem Zbc{s:Int}(h:0<=s){j:Nat}:j<ZT s ↔ 0<ZO s j:=by
 obtain⟨h1,h2,h3⟩:=Jw h
 refine⟨h1 j,fun z=>?_⟩
 by_cases c:j<ZT s
 ·exact c
 ·have:=V6 h2 (j-ZT s)
  rw[show ZT s+(j-ZT s)=j by lia] at this
  lia
noncomputable def Zy(s:Int):List Int:=ZH s (ZT s)
@[simp] theorem JM(s:Int):(Zy s).length=ZT s:=J1 _ _
theorem UG{s:Int}(h:0<=s):(Zy s).sum=s:=by
 unfold Zy
 rw[ZaU,(Jw h).2.1];lia
theorem Zhq{s:Int}{n:Nat}:∀x∈ZH s n,0<=x:=fun x hx=>by
 obtain⟨k,_,rfl⟩:=Zxr.mp hx
 exact(Zb2 (by lia)).1
theorem Uc{s:Int}(h:0<=s)(hl:0<ZT s):(Zy s).getD (ZT s-1) 0≠0:=by
 unfold Zy
 rw[ZW (by lia)]
 have h1:=(Zbc h (j:=ZT s-1)).mp (by lia)
 have h2:=(Jw h).2.1
 rw[show ZT s=ZT s-1+1 by lia,Ju] at h2
 have:=Qs ((ZT s-1:Nat)+1:Int) (ZO s (ZT s-1))
 rw[h2] at this
 have:0<((ZT s-1:Nat)+1:Int)*ZO s (ZT s-1):=Int.mul_pos (by lia) h1
 lia
theorem Zdv{s:Int}(h:0<=s){n k:Nat}(hk:ZT s<=k)(hn:k<n):(ZH s n).getD k 0=0:=by
 rw[ZW hn]
 have:=V6 (Jw h).2.1 (k-ZT s)
 rw[show ZT s+(k-ZT s)=k by lia] at this
 rw[this,ZaS]
theorem QI{p s:Int}(hp:0<p):(Js p s=p->Js p (s-1)=0/\QM p (s-1)=QM p s)/\(Js p s≠p->Js p (s-1)=Js p s+1/\QM p (s-1)=QM p s-1):=by
 have h:=Qs p s
 have hb:=Zb2 (p:=p) (s:=s) (by omega)
 have e:p*(s-1)=p*s-p:=by rw[Int.mul_sub,Int.mul_one]
 constructor
 ·intro z
  have e2:p*(s-1)=(p+1)*QM p s+0:=by omega
  have:=Int.mul_emod_right (p+1) (QM p s)
  refine⟨?_, ?_⟩
  ·unfold Js;rw[e2,Int.add_zero];exact this
  ·show p*(s-1)/(p+1)=_
   rw[e2,Int.add_zero];exact Int.mul_ediv_cancel_left _ (by omega)
 ·intro z
  have e2:p*(s-1)=(Js p s+1)+(p+1)*(QM p s-1):=by rw[e,Int.mul_sub (p+1),Int.mul_one];omega
  refine⟨?_, ?_⟩
  ·show p*(s-1)%(p+1)=_
   rw[e2,ZxZ];exact ZxY (by omega) (by omega)
  ·show p*(s-1)/(p+1)=_
   rw[e2,Int.add_mul_ediv_left _ _ (by omega),Int.ediv_eq_zero_of_lt (by omega) (by omega)]
   omega
def Q4(s:Int)(k:Nat):Prop:=∀j,j<k->Js (j+1) (ZO s j)≠j+1
theorem V3{s:Int}:∀{k:Nat},Q4 s k->ZO (s-1) k=ZO s k-1
 |0,_=>rfl
 |k+1,h=>by
  rw[Ju,V3 (k:=k) fun j hj=>h j (by lia),((QI (by lia)).2 (h k (by lia))).2]
  rfl
theorem UW{s:Int}{k:Nat}(h:Q4 s k)(hf:Js (k+1) (ZO s k)=k+1):∀j,ZO (s-1) (k+1+j)=ZO s (k+1+j)
 |0=>by
  show QM _ _=QM _ _
  rw[V3 h,((QI (by lia)).1 hf).2]
 |j+1=>by
  rw[<- Nat.add_assoc,Ju,Ju,UW h hf j]
theorem Zdu{s:Int}(h:0<s):∃k,k<ZT s/\Q4 s k/\Js (k+1) (ZO s k)=k+1:=by
 have key:∀n,Q4 s n\/∃k,k<n/\Q4 s k/\Js (k+1) (ZO s k)=k+1:=by
  intro n
  induction n with
  |zero=>exact .inl fun j hj=>by lia
  |succ n ih =>
   rcases ih with ih|⟨k,h1,h2,h3⟩
   ·by_cases c:Js (n+1) (ZO s n)=n+1
    ·exact .inr ⟨n,by lia,ih,c⟩
    ·refine .inl fun j hj=>?_
     by_cases e:j=n
     ·rw[e];exact c
     ·exact ih j (by lia)
   ·exact .inr ⟨k,by lia,h2,h3⟩
 rcases key (ZT s) with z|z
 ·have h1:=V3 z
  have h2:=(Jw (show 0<=s by lia)).2.1
  have h3:=UM (show 0<=s-1 by lia) (ZT s)
  lia
 ·exact z
theorem VF{s:Int}{k n:Nat}(h:Q4 s k)(hf:Js (k+1) (ZO s k)=k+1)(hk:k<n) :
  ((ZH s n).take k).map (·+1)++[0]++(ZH s n).drop (k+1)=ZH (s-1) n:=by
 apply Zyn
 intro i
 have gx:∀(t:Int) (m i:Nat),(ZH t m)[i]?=if i<m then some (Js (i+1) (ZO t i)) else none:=fun t m i=>by
  unfold ZH
  split
  ·rename_i z;rw[Zxm,Zx4 z];rfl
  ·rename_i z;rw[Zxl (by simpa using z)]
 rw[gx,ZxV]
 rcases Nat.lt_trichotomy i k with z|z|z
 ·rw[Zxk (by simp;lia),Zxm,ZxO z,gx,if_pos (by lia),if_pos (by lia)]
  simp only[Zyi]
  rw[V3 (k:=i) fun j hj=>h j (by lia),((QI (by lia)).2 (h i z)).1]
 ·subst z
  rw[Zxn (by simp;lia),if_pos hk]
  simp only[Zxc,ZxK,J1]
  rw[show i-min i n=0 by lia,V3 h,((QI (by lia)).1 hf).1]
  rfl
 ·rw[Zxn (by simp;lia)]
  simp only[Zxc,ZxK,J1,Zys,Zye]
  rw[show i-min k n=(i-k-1)+1 by lia,List.getElem?_cons_succ,List.getElem?_drop,gx,show k+1+(i-k-1)=i by lia]
  have:=UW h hf (i-k-1)
  rw[show k+1+(i-k-1)=i by lia] at this
  rw[this]
noncomputable def Jm(ns:List Int):Nat->Nat
 |0=>0
 |k+1=>if ns.getD k 0=0 then Jm ns k else k+1
noncomputable def ZV(ns:List Int):List Int:=ns.take (Jm ns ns.length)
theorem Uf(ns:List Int):∀k,Jm ns k<=k
 |0=>Zxi _
 |k+1=>by
  unfold Jm
  split
  ·exact Nat.le_succ_of_le (Uf ns k)
  ·exact Zxi _
theorem Ug(ns:List Int):∀k,0<Jm ns k->ns.getD (Jm ns k-1) 0≠0
 |0,h=>absurd h (by simp[Jm])
 |k+1,h=>by
  unfold Jm at h ⊢
  split
  ·rename_i c;rw[if_pos c] at h;exact Ug ns k h
  ·rename_i c;rw[Nat.add_sub_cancel];exact c
theorem ZdN(ns:List Int){m:Nat}(hm:m=0\/ns.getD (m-1) 0≠0):∀k,m<=k->(∀j,m<=j->j<k->ns.getD j 0=0)->Jm ns k=m
 |0,h,_=>by simp[Jm];lia
 |k+1,h,h2=>by
  unfold Jm
  by_cases e:m=k+1
  ·subst e
   rw[if_neg]
   rcases hm with z|z
   ·lia
   ·simpa using z
  ·rw[if_pos (h2 k (by lia) (by lia))]
   exact ZdN ns hm k (by lia) fun j a b=>h2 j a (by lia)
theorem Zdw{s:Int}{m n:Nat}(h:m<=n):(ZH s n).take m=ZH s m:=by
 unfold ZH
 rw[<- List.map_take,List.take_range,Nat.min_eq_left h]
theorem ZcR{s:Int}(h:0<=s){n:Nat}(hn:ZT s<=n):ZV (ZH s n)=Zy s:=by
 unfold ZV
 rw[ZdN (m:=ZT s) (ZH s n) (by
  by_cases z:ZT s=0
  ·exact .inl z
  ·right
   have:=Uc h (by lia)
   unfold Zy at this
   rw[ZW (by lia)] at this ⊢
   exact this) _ (by simpa using hn) (fun j a b=>Zdv h a (by simpa using b)),Zdw hn]
 rfl
theorem ZfH{s:Int}(h:0<s):ZT (s-1)<=ZT s:=by
 obtain⟨k,h1,h2,h3⟩:=Zdu h
 have h4:=UW h2 h3 (ZT s-(k+1))
 rw[show k+1+(ZT s-(k+1))=ZT s by lia,(Jw (by lia)).2.1] at h4
 have:=Zbc (show 0<=s-1 by lia) (j:=ZT s)
 lia
theorem ZeK{s:Int}(h:0<s){k:Nat}(hk:k<ZT s)(h2:Q4 s k)(h3:Js (k+1) (ZO s k)=k+1) :
  ZV (((Zy s).take k).map (·+1)++[0]++(Zy s).drop (k+1))=Zy (s-1):=by
 unfold Zy
 rw[VF h2 h3 hk]
 exact ZcR (by lia) (ZfH h)
theorem Ue(ns:List Int):∀k j,Jm ns k<=j->j<k->ns.getD j 0=0
 |0,j,_,h=>absurd h (by lia)
 |k+1,j,h1,h2=>by
  unfold Jm at h1
  by_cases c:ns.getD k 0=0
  ·rw[if_pos c] at h1
   by_cases e:j=k
   ·rw[e];exact c
   ·exact Ue ns k j h1 (by lia)
  ·rw[if_neg c] at h1;lia
theorem VO(ns:List Int):(ZV ns).length=Jm ns ns.length:=by
 unfold ZV
 have:=Uf ns ns.length
 simp;lia
theorem ZeO{ns:List Int}(h:ZV ns≠[]):(ZV ns).getD ((ZV ns).length-1) 0≠0:=by
 have hl:0<(ZV ns).length:=Zyb.mpr h
 rw[VO] at hl ⊢
 have:=Ug ns ns.length hl
 unfold ZV
 rw[ZwZ,ZxO (by lia),<- ZwZ]
 exact this
theorem Zbg:∀{ns:List Int},(∀x∈ns,0<=x)->0<=ns.sum
 |[],_=>by simp
 |n::ns,h=>by
  have h1:=h n (by simp)
  have h2:=Zbg (ns:=ns) fun x hx=>h x (by simp[hx])
  simp only[ZxB];lia
theorem Zmk:∀{ns:List Int},(∀x∈ns,0<=x)->∀x∈ns,x<=ns.sum
 |[],_,x,hx=>by simp at hx
 |n::ns,h,x,hx=>by
  have h1:=h n (by simp)
  have h2:=Zbg (ns:=ns) fun x hx=>h x (by simp[hx])
  simp only[ZxB]
  rcases Zxd.mp hx with rfl|hx
  ·lia
  ·have:=Zmk (ns:=ns) (fun x hx=>h x (by simp[hx])) x hx;lia
def Qh(ns:List Int):Prop:=(∀x∈ns,0<=x)/\ns.length<=200/\ns.sum<=10000/\(ns=[]\/ns.getD (ns.length-1) 0≠0)
noncomputable instance (ns:List Int):Decidable (Qh ns):=by unfold Qh;infer_instance
theorem ZfQ{ns:List Int}{x:Int}(h:x∈ZV ns):x∈ns:=List.mem_of_mem_take h
noncomputable def Zjn(ns:List Int)(p:Int):List Int:=(ns.take (p-1).toNat).map (·+1)++[0]++ns.drop p.toNat
noncomputable def Vr(c k:Int):Int:=(c%2147483647*48271+977*k+11)%2147483647*((c%2147483647*48271+977*k+11)%2147483647)%2147483647/7
theorem ZhH{p s t:Int}(hp:0<=p)(h:s<=t):QM p s<=QM p t:=Int.ediv_le_ediv (by lia) (Int.mul_le_mul_of_nonneg_left h hp)
theorem Qk{s t:Int}(h:s<=t):∀k,ZO s k<=ZO t k
 |0=>h
 |k+1=>ZhH (by lia) (Qk h k)
theorem Zgb:ZO 10000 200=0:=by decide +kernel
theorem Vt{s:Int}(h0:0<=s)(h1:s<=10000):ZT s<=200:=by
 have h2:=Qk h1 200
 rw[Zgb] at h2
 have h3:=Zbc h0 (j:=200)
 lia
theorem ZdK{s:Int}(h0:0<=s)(h1:s<=10000):Qh (Zy s):=by
 refine⟨Zhq,by rw[JM];exact Vt h0 h1,by rw[UG h0];exact h1, ?_⟩
 by_cases e:ZT s=0
 ·left;apply Zyt;rw[JM,e]
 ·right;rw[JM];exact Uc h0 (by lia)
noncomputable def ZC:List Int->List Int->Nat
 |x::xs,y::ys=>if x=y then ZC xs ys+1 else 0
 |_,_=>0
def V4(ns:List Int):Prop:=ns=[]\/ns.getD (ns.length-1) 0≠0
theorem V4.tail{x:Int}:∀{ns:List Int},V4 (x::ns)->V4 ns
 |[],_=>.inl rfl
 |y::ns,h=>by
  rcases h with h|h
  ·cases h
  ·exact .inr (by simpa using h)
theorem QN:∀{ns:List Int},(∀x∈ns,0<=x)->ns.sum<=0->∀x∈ns,x=0:=fun {ns} h hs x hx=>by
 have h1:=Zmk h x hx
 have h2:=h x hx
 lia
theorem V4.nil{ns:List Int}(h:V4 ns)(h0:∀x∈ns,x=0):ns=[]:=by
 rcases h with h|h
 ·exact h
 ·exfalso
  cases ns with
  |nil=>simp at h
  |cons a l =>
   apply h
   rw[ZwZ,Zxa (by simp)]
   exact h0 _ (ZyB _)
theorem ZbT:∀{ns ms:List Int},(∀x∈ns,0<=x)->(∀x∈ms,0<=x)->ns.sum=ms.sum->V4 ns->V4 ms->ns≠ms->ZC ns ms<ns.length/\ZC ns ms<ms.length
 |[],ms,_,h2,h3,_,h5,h6=>by
  exfalso
  exact h6 (h5.nil (QN h2 (by simp at h3;lia))).symm
 |x::xs,[],h1,_,h3,h4,_,h6=>by
  exfalso
  exact h6 (h4.nil (QN h1 (by simp at h3 ⊢;lia)))
 |x::xs,y::ys,h1,h2,h3,h4,h5,h6=>by
  unfold ZC
  by_cases e:x=y
  ·subst e
   rw[if_pos rfl]
   have:=ZbT (ns:=xs) (ms:=ys) (fun z hz=>h1 z (by simp[hz])) (fun z hz=>h2 z (by simp[hz])) (by simp only[ZxB] at h3;lia) h4.tail h5.tail (fun z=>h6 (by rw[z]))
   simp only[Zxp];lia
  ·rw[if_neg e];simp
theorem U0:∀{ns ms:List Int}{i:Nat},i<ZC ns ms->ns.getD i 0=ms.getD i 0
 |[],_,i,h=>by simp[ZC] at h
 |_::_,[],i,h=>by simp[ZC] at h
 |x::xs,y::ys,i,h=>by
  unfold ZC at h
  by_cases e:x=y
  ·rw[if_pos e] at h
   cases i with
   |zero=>simpa using e
   |succ i=>simpa using U0 (ns:=xs) (ms:=ys) (i:=i) (by lia)
  ·rw[if_neg e] at h;lia
theorem QQ:∀{ns ms:List Int},ZC ns ms<ns.length->ZC ns ms<ms.length->ns.getD (ZC ns ms) 0≠ms.getD (ZC ns ms) 0
 |[],_,h,_=>by simp[ZC] at h
 |_::_,[],_,h=>by simp[ZC] at h
 |x::xs,y::ys,h1,h2=>by
  unfold ZC at h1 h2 ⊢
  by_cases e:x=y
  ·rw[if_pos e] at h1 h2 ⊢
   simpa using QQ (ns:=xs) (ms:=ys) (by simpa using h1) (by simpa using h2)
  ·rw[if_neg e];simpa using e
def ZcO(ns:List Int):Prop:=Qh ns/\ns=Zy ns.sum
noncomputable instance (ns:List Int):Decidable (ZcO ns):=by unfold ZcO;infer_instance
theorem Zc5{s:Int}{i:Nat}:0<=(Zy s).getD i 0:=by
 by_cases h:i<(Zy s).length
 ·unfold Zy at h ⊢
  rw[J1] at h
  rw[ZW h]
  exact(Zb2 (by lia)).1
 ·rw[ZwZ,Zxl (by lia)];simp
theorem QO{ns:List Int}(h:Qh ns)(hn:ns≠Zy ns.sum):ZC ns (Zy ns.sum)<ns.length/\ZC ns (Zy ns.sum)<(Zy ns.sum).length:=by
 have h0:=Zbg h.1
 have h1:=ZdK h0 h.2.2.1
 exact ZbT h.1 h1.1 (UG h0).symm h.2.2.2 h1.2.2.2 hn
noncomputable def s2(ns:List Int)(r:Nat):Nat->Int
 |0=>0
 |i+1=>s2 ns r i+if i%2=r then ns.getD i 0 else 0
noncomputable def ZB(s:Int):Nat:=if h:0<s then (Zdu h).choose else 0
theorem JF{s:Int}(h:0<s):ZB s<ZT s/\Q4 s (ZB s)/\Js (ZB s+1) (ZO s (ZB s))=ZB s+1:=by
 unfold ZB
 rw[dif_pos h]
 exact(Zdu h).choose_spec
theorem UH{s:Int}{i:Nat}(h:i<ZT s):(Zy s).getD i 0=Js (i+1) (ZO s i):=ZW h
theorem ZfI{s:Int}(h:0<s):ZV (Zjn (Zy s) (ZB s+1))=Zy (s-1):=by
 obtain⟨h1,h2,h3⟩:=JF h
 unfold Zjn
 rw[show ((ZB s:Int)+1-1).toNat=ZB s by lia,show ((ZB s:Int)+1).toNat=ZB s+1 by lia]
 exact ZeK h h1 h2 h3
theorem Za9:Zy 0=[]:=by decide
noncomputable def hs:Nat->Nat->Int->List Int
 |_,0,_=>[]
 |k,m+1,l=>Js (k+1) l::hs (k+1) m (QM (k+1) l)
noncomputable def s3(ns:List Int)(r:Nat):Nat->Int
 |0=>0
 |i+1=>s3 ns r i+if i%3=r then ns.getD i 0 else 0
def ZjK(ns:List Int):Prop:=(∀x∈ns,0<=x)/\ns.length<=100/\ns.sum<=100/\(ns=[]\/(ns.getD 0 0≠0/\ns.getD (ns.length-1) 0≠0))
noncomputable instance (ns:List Int):Decidable (ZjK ns):=by unfold ZjK;infer_instance
theorem Vw{ns:List Int}{i:Nat}(h:ns.length<=i):ns.getD i 0=0:=by
 rw[ZwZ,Zxl h];rfl
theorem ZjV{l m:List Int}{i:Nat}{v:Int}(hl:l.length=m.length)(hi:i<l.length)(h1:m.getD i 0=v)(h2:∀j,j<l.length->j≠i->m.getD j 0=l.getD j 0):l.set i v=m:=by
 apply Zy9
 ·simp[hl]
 ·intro j j1 j2
  rw[List.getElem_set]
  have e:∀(q:List Int) (z:j<q.length),q.getD j 0=q[j]:=fun q z=>by rw[ZwZ,Zxa z];rfl
  by_cases q:i=j
  ·subst q
   rw[if_pos rfl,<- h1,e m j2]
  ·rw[if_neg q,<- e l (by simpa using j1),<- h2 j (by simpa using j1) (Ne.symm q),e m j2]
theorem Zfp(ns:List Int):ns=(List.range ns.length).map fun(i:Nat)=>ns.getD i 0:=by
 apply Zyn
 intro j
 rw[Zxm]
 by_cases h:j<ns.length
 ·rw[Zx4 h,Zyi,ZwZ,Zxa h];rfl
 ·rw[Zxl (by lia),Zxl (by simp;lia)];rfl
theorem sum_nn:∀{ns:List Int},(∀x∈ns,0<=x)->0<=ns.sum
 |[],_=>by simp
 |x::xs,h=>by
  have:=h x (by simp)
  have:=sum_nn (ns:=xs) (fun y hy=>h y (by simp[hy]))
  simp;lia
theorem getD_set{l:List Int}{i j:Nat}{v:Int}(h:i<l.length):(l.set i v).getD j 0=if i=j then v else l.getD j 0:=by
 simp only[ZwZ,List.getElem?_set,if_pos h]
 split<;>rfl
noncomputable def ZoA(c j:Int):Int:=((c%2147483647+1009*j+7)*48271%2147483647)*((c%2147483647+1009*j+7)*48271%2147483647)%998244353/8
end L2
namespace My
open L2
noncomputable def Jx(ns:List Int)(k:Int):List Int:=tab ns.length fun x=>ns.getD (((x:Int)-k)%ns.length).toNat 0
noncomputable def ZmX(a:List Int×Int)(s:Nat):Int:=((its ZnS s a).2-a.2)%a.1.length
def isT(a:List Int×Int)(s:Nat):Prop:=(its ZnS s a).1=Jx a.1 (ZmX a s)
noncomputable instance (a:List Int×Int) (s:Nat):Decidable (isT a s):=by unfold isT;infer_instance
end My
namespace My
open L2 PySem
noncomputable def Zi4(ns:List Int):Int:=ns.foldl (fun n c=>(n*31+c)%1000000007) 0
theorem ZgG{ns:List Int}{i:Nat}(h:i<ns.length):Zi4 (ns.take (i+1))=(Zi4 (ns.take i)*31+ns.getD i 0)%1000000007:=by
 unfold Zi4
 rw[List.take_succ,List.foldl_append,Zxa h,ZwZ,Zxa h]
 rfl
theorem Ze2:∀(ns:List Int) (a:Int),0<=a->a<1000000007->0<=ns.foldl (fun n c=>(n*31+c)%1000000007) a/\ns.foldl (fun n c=>(n*31+c)%1000000007) a<1000000007
 |[],a,h0,h1=>⟨h0,h1⟩
 |c::ns,a,_,_=>Ze2 ns _ (Zxu _ (by decide)) (Zxo _ (by decide))
theorem ZgH(ns:List Int):0<=Zi4 ns/\Zi4 ns<1000000007:=Ze2 ns 0 (by decide) (by decide)
noncomputable def V9(n:Int):Int:=2+Vr n 3%23
theorem Zbk(n:Int):2<=V9 n/\V9 n<=24:=by
 have h1:=Zxu (Vr n 3) (show (23:Int)≠0 by decide)
 have h2:=Zxo (Vr n 3) (show (0:Int)<23 by decide)
 unfold V9;lia
noncomputable def hmD(n:Int):List Int:=(Zy (Vr n 7%151)++List.replicate 24 0).take (V9 n).toNat
noncomputable def atD(n:Int):Int:=Vr n 9%V9 n
noncomputable def QA(p a:Int):Nat:=((a-1)%p).toNat
noncomputable def ZmP(b:List Int)(p a:Int):List Int:=(b.set a.toNat (b.getD a.toNat 0-1)).set (QA p a) ((b.set a.toNat (b.getD a.toNat 0-1)).getD (QA p a) 0+1)
noncomputable def ZfC(ns:List Int)(n:Int):List Int:=(List.range (V9 n).toNat).map fun k=>Vr (ns.getD k 0) k%((k:Int)%7+3)
noncomputable def ZhE(ns:List Int)(n:Int):List Int:=
 if Vr n 5%2=0 then if Vr n 11%3=1/\0<(hmD n).getD (atD n).toNat 0 then ZmP (hmD n) (V9 n) (atD n) else hmD n
 else if Vr n 13%4=1 then (ZfC ns n).set 0 ((ZfC ns n).getD 0 0+ns.getD 1 0%10^59) else ZfC ns n
theorem Zhh(n:Int):(hmD n).length=(V9 n).toNat:=by
 have:=Zbk n
 unfold hmD
 rw[ZxK,Zxq,Zyo]
 lia
theorem Qc(ns:List Int)(n:Int):(ZfC ns n).length=(V9 n).toNat:=by unfold ZfC;rw[Zxc,ZxI]
theorem ZiW(ns:List Int)(n:Int):(ZhE ns n).length=(V9 n).toNat:=by
 unfold ZhE ZmP
 repeat' split
 all_goals simp only[Zyd,Zhh,Qc]
theorem Zj9(n:Int):(∀x∈hmD n,0<=x)/\∀x∈hmD n,x<=200:=by
 have h1:=Zxu (Vr n 7) (show (151:Int)≠0 by decide)
 have h2:=Zxo (Vr n 7) (show (0:Int)<151 by decide)
 have hy:=ZdK (s:=Vr n 7%151) h1 (by lia)
 have hs:=UG h1
 have key:∀x∈hmD n,0<=x/\x<=200:=fun x hx=>by
  have hx:=List.mem_of_mem_take hx
  rcases Zxg.mp hx with hx|hx
  ·have h0:=hy.1 x hx
   have:x<=(Zy (Vr n 7%151)).sum:=by
    have:∀(l:List Int),(∀y∈l,0<=y)->∀x∈l,x<=l.sum:=fun l=>by
     induction l with
     |nil=>intro _ x hx;cases hx
     |cons a l ih =>
      intro h x hx
      have ha:=h a (by simp)
      have hl:=sum_nn (l:=l) fun y hy=>h y (by simp[hy])
      rw[ZxB]
      rcases Zxd.mp hx with rfl|hx
      ·lia
      ·have:=ih (fun y hy=>h y (by simp[hy])) x hx
       lia
    exact this _ hy.1 x hx
   lia
  ·rw[(List.mem_replicate.mp hx).2];decide
 exact⟨fun x hx=>(key x hx).1,fun x hx=>(key x hx).2⟩
theorem ZbX:∀{l:List Int}{m:Int},(∀x∈l,x<=m)->l.sum<=l.length*m
 |[],m,_=>by simp
 |a::l,m,h=>by
  have:=ZbX (l:=l) fun x hx=>h x (by simp[hx])
  have ha:=h a (by simp)
  rw[ZxB,Zxp]
  rw[show ((l.length+1:Nat):Int)*m=(l.length:Int)*m+m by rw[Int.natCast_add,Int.add_mul];simp]
  lia
theorem Zae{l:List Int}{i:Nat}{y x:Int}(h:x∈l.set i y):x=y\/x∈l:=by
 rcases List.mem_or_eq_of_mem_set h with h|h
 ·exact .inr h
 ·exact .inl h
theorem Vo{l:List Int}(i:Nat):l.getD i 0=0\/l.getD i 0∈l:=by
 rw[ZwZ]
 cases h:l[i]? with
 |none=>exact .inl rfl
 |some x=>exact .inr (Zx3 h)
theorem ZhD(ns:List Int)(n:Int):JI (ZhE ns n):=by
 have hp:=Zbk n
 have hl:=ZiW ns n
 have key:∀x∈ZhE ns n,0<=x/\x<=10^59+300:=by
  obtain⟨g1,g2⟩:=Zj9 n
  intro x hx
  unfold ZhE at hx
  split at hx
  ·split at hx
   ·rename_i _ hc
    have hpos:0<(hmD n).getD (atD n).toNat 0:=hc.2
    have hmem:(hmD n).getD (atD n).toNat 0∈hmD n:=by
     rcases Vo (l:=hmD n) (atD n).toNat with z|z
     ·lia
     ·exact z
    have q1:∀y∈(hmD n).set (atD n).toNat ((hmD n).getD (atD n).toNat 0-1),0<=y/\y<=200:=fun y hy=>by
     rcases Zae hy with rfl|hy
     ·have:=g2 _ hmem;lia
     ·exact⟨g1 y hy,g2 y hy⟩
    unfold ZmP at hx
    rcases Zae hx with rfl|hx
    ·rcases Vo (l:=(hmD n).set (atD n).toNat ((hmD n).getD (atD n).toNat 0-1)) (QA (V9 n) (atD n)) with z|z
     ·rw[z];decide
     ·have:=q1 _ z
      have h9:(300:Int)<=10^59+300:=by decide
      lia
    ·have:=q1 x hx
     have h9:(300:Int)<=10^59+300:=by decide
     lia
   ·have:=g1 x hx
    have:=g2 x hx
    have h9:(300:Int)<=10^59+300:=by decide
    lia
  ·have hd:∀y∈ZfC ns n,0<=y/\y<10:=fun y hy=>by
    obtain⟨k,hk,rfl⟩:=Zxr.mp hy
    have a0:=Zxu (k:Int) (show (7:Int)≠0 by decide)
    have a1:=Zxo (k:Int) (show (0:Int)<7 by decide)
    have b0:=Zxu (Vr (ns.getD k 0) k) (show (k:Int)%7+3≠0 by lia)
    have b1:=Zxo (Vr (ns.getD k 0) k) (show 0<(k:Int)%7+3 by lia)
    lia
   have h9:(300:Int)<=10^59+300:=by decide
   split at hx
   ·have c0:=Zxu (ns.getD 1 0) (show (10:Int)^59≠0 by decide)
    have c1:=Zxo (ns.getD 1 0) (show (0:Int)<10^59 by decide)
    rcases Zae hx with rfl|hx
    ·rcases Vo (l:=ZfC ns n) 0 with z|z
     ·rw[z];lia
     ·have:=hd _ z;lia
    ·have:=hd x hx;lia
   ·have:=hd x hx;lia
 refine⟨by lia,by lia,fun x hx=>(key x hx).1, ?_⟩
 have ten:(24:Int)*10^4+10^59<=10^60:=by decide
 have few:∀l:List Int,l.length<=24->(∀x∈l,x<=10^4)->l.sum<=24*10^4:=fun l h1 h2=>by
  have:=ZbX h2
  have:(l.length:Int)*10^4<=24*10^4:=Int.mul_le_mul_of_nonneg_right (by lia) (by decide)
  lia
 obtain⟨g1,g2⟩:=Zj9 n
 have hd:∀y∈ZfC ns n,0<=y/\y<10:=fun y hy=>by
  obtain⟨k,hk,rfl⟩:=Zxr.mp hy
  have a0:=Zxu (k:Int) (show (7:Int)≠0 by decide)
  have a1:=Zxo (k:Int) (show (0:Int)<7 by decide)
  have b0:=Zxu (Vr (ns.getD k 0) k) (show (k:Int)%7+3≠0 by lia)
  have b1:=Zxo (Vr (ns.getD k 0) k) (show 0<(k:Int)%7+3 by lia)
  lia
 have p59:(0:Int)<=10^59:=by decide
 unfold ZhE at hl ⊢
 split at hl
 ·rename_i h0
  rw[if_pos h0]
  split at hl
  ·rename_i hc
   rw[if_pos hc]
   refine ZyE (few _ (by lia) fun x hx=>?_) (by lia)
   have q1:∀y∈(hmD n).set (atD n).toNat ((hmD n).getD (atD n).toNat 0-1),y<=200:=fun y hy=>by
    rcases Zae hy with rfl|hy
    ·rcases Vo (l:=hmD n) (atD n).toNat with z|z
     ·lia
     ·have:=g2 _ z;lia
    ·exact g2 y hy
   unfold ZmP at hx
   rcases Zae hx with rfl|hx
   ·rcases Vo (l:=(hmD n).set (atD n).toNat ((hmD n).getD (atD n).toNat 0-1)) (QA (V9 n) (atD n)) with z|z
    ·rw[z];decide
    ·have:=q1 _ z;lia
   ·have:=q1 x hx;lia
  ·rename_i hc
   rw[if_neg hc]
   exact ZyE (few _ (by lia) fun x hx=>by have:=g2 x hx;lia) (by lia)
 ·rename_i h0
  rw[if_neg h0]
  split at hl
  ·rename_i hc
   rw[if_pos hc]
   have c1:=Zxo (ns.getD 1 0) (show (0:Int)<10^59 by decide)
   have hln:0<(ZfC ns n).length:=by rw[Qc];lia
   generalize ns.getD 1 0%10^59=c at c1 ⊢
   cases hL:ZfC ns n with
   |nil=>rw[hL] at hln;cases hln
   |cons a l =>
    have hs:=few (ZfC ns n) (by rw[Qc];lia) fun x hx=>by have:=hd x hx;lia
    rw[hL,ZxB] at hs
    show ((a+c)::l).sum<=_
    rw[ZxB]
    lia
  ·rename_i hc
   rw[if_neg hc]
   exact ZyE (few _ (by rw[Qc];lia) fun x hx=>by have:=hd x hx;lia) (by lia)
theorem ZdP:∀{l:List Int},(∀x∈l,x=0)->l.sum=0
 |[],_=>rfl
 |a::l,h=>by rw[ZxB,h a (by simp),ZdP fun x hx=>h x (by simp[hx])];rfl
theorem QR(ns:List Int):(ZV ns).sum=ns.sum:=by
 have h:(ZV ns++ns.drop (Jm ns ns.length))=ns:=List.take_append_drop _ _
 have h2:(ns.drop (Jm ns ns.length)).sum=0:=ZdP fun x hx=>by
  obtain⟨j,hj,rfl⟩:=Zya hx
  rw[ZxL] at hj
  have:=Ue ns ns.length (Jm ns ns.length+j) (by lia) (by lia)
  rw[ZwZ,Zxa (by lia)] at this
  rw[List.getElem_drop]
  exact this
 have h3:=congrArg List.sum h
 rw[List.sum_append,h2] at h3
 lia
theorem ZbV{b:List Int}(hb:JI b)(h:b.sum<=10000):Qh (ZV b):=by
 refine⟨fun x hx=>hb.nn x (ZfQ hx), ?_,by rw[QR];exact h, ?_⟩
 ·have:=VO b
  have:=Uf b b.length
  have:=hb.hi
  lia
 ·by_cases c:ZV b=[]
  ·exact .inl c
  ·exact .inr (ZeO c)
theorem ZfO{b:List Int}{k:Nat}(h0:0<b.length)(h:k<b.length):b.drop (b.length-k)++b.take (b.length-k)=Jx b k:=by
 apply Zyn
 intro x
 have ht:(Jx b k)[x]?=if x<b.length then some (b.getD (((x:Int)-k)%b.length).toNat 0) else none:=by
  unfold Jx tab
  rw[Zxm]
  by_cases hx:x<b.length
  ·rw[Zx4 hx,if_pos hx];rfl
  ·rw[Zxl (by rw[ZxI];lia),if_neg hx];rfl
 rw[ht]
 by_cases hx:x<b.length
 ·rw[if_pos hx]
  by_cases c:x<k
  ·rw[Zxk (by rw[ZxL];lia),List.getElem?_drop,Zxa (by lia),ZwZ]
   have e:(((x:Int)-k)%b.length).toNat=b.length-k+x:=by
    rw[show (x:Int)-k=((b.length-k+x:Nat):Int)+(b.length:Int)*(-1) by lia,ZxZ,ZxY (by lia) (by lia)]
    lia
   rw[e,Zxa (by lia)]
   rfl
  ·rw[Zxn (by rw[ZxL];lia),ZxL,List.getElem?_take,if_pos (by lia)]
   have e:(((x:Int)-k)%b.length).toNat=x-(b.length-(b.length-k)):=by
    rw[ZxY (by lia) (by lia)]
    lia
   rw[ZwZ,e,Zxa (by lia)]
   rfl
 ·rw[if_neg hx,Zxl (by rw[Zxq,ZxL,ZxK];lia)]
noncomputable def Jt(b:List Int):List (List Int):=(List.range b.length).map fun(k:Nat)=>Jx b k
theorem ZeN{b:List Int}{t:List Int×Int}(h:Zav ((List.range b.length).map fun(k:Nat)=>(Jx b k,(k:Int))) t):Qj (Jt b) t.1/\((Jt b).idxOf t.1:Int)=t.2:=by
 obtain⟨h1,h2⟩:=h
 obtain⟨k,hk,rfl⟩:=Zxr.mp h1
 have hk:=ZxQ.mp hk
 have hget:∀i,i<b.length->(Jt b)[i]?=some (Jx b i):=fun i hi=>by
  unfold Jt
  rw[Zxm,Zx4 hi];rfl
 have hlen:(Jt b).length=b.length:=by unfold Jt;rw[Zxc,ZxI]
 have hmem:Jx b k∈Jt b:=Zx3 (hget k hk)
 refine⟨⟨hmem,fun u hu=>?_⟩, ?_⟩
 ·obtain⟨i,hi,rfl⟩:=Zxr.mp hu
  have:=h2 (Jx b i,(i:Int)) (Zxr.mpr ⟨i,hi,rfl⟩)
  unfold HL.Je at this
  dsimp only at this ⊢
  by_cases c:Jx b i=Jx b k
  ·rw[c]
   exact HL.Vv _
  ·rw[if_neg c] at this;exact this
 ·have hj:(Jt b).idxOf (Jx b k)<(Jt b).length:=Zy1 hmem
  have hg:(Jt b)[(Jt b).idxOf (Jx b k)]=Jx b k:=List.getElem_idxOf hj
  have hn:∀i,i<(Jt b).idxOf (Jx b k)->(Jt b)[i]?≠some (Jx b k):=fun i hi z=>by
   have hi':i<(Jt b).length:=by lia
   have:=List.not_of_lt_findIdx (p:=(·==Jx b k)) (xs:=Jt b) (i:=i) hi
   rw[Zxa hi'] at z
   rw[Option.some.inj z] at this
   simp at this
  generalize (Jt b).idxOf (Jx b k)=j at hj hg hn
  dsimp only
  have e1:¬k<j:=fun z=>hn k z (hget k hk)
  have e2:Jx b j=Jx b k:=by
   have:=hget j (by lia)
   rw[Zxa hj,hg] at this
   exact(Option.some.inj this).symm
  have e3:=h2 (Jx b j,(j:Int)) (Zxr.mpr ⟨j,ZxQ.mpr (by lia),rfl⟩)
  unfold HL.Je at e3
  rw[if_pos e2] at e3
  have:=of_decide_eq_false e3
  dsimp only at this
  lia
end My
namespace L2
theorem UI{s:Int}(h:0<=s)(i:Nat):(Zy s).getD i 0=Js (i+1) (ZO s i):=by
 by_cases hi:i<ZT s
 ·exact UH hi
 ·have hl:(Zy s).length<=i:=by unfold Zy ZH;simp;lia
  rw[Vw hl]
  have h2:=V6 (Jw h).2.1 (i-ZT s)
  rw[show ZT s+(i-ZT s)=i by lia] at h2
  rw[h2,ZaS]
theorem Vg(s:Int):(Zy s).length=ZT s:=by unfold Zy ZH;simp
theorem ZbO{s:Int}(h:0<=s):V4 (Zy s):=by
 by_cases z:ZT s=0
 ·exact .inl (Zyt (by rw[Vg];exact z))
 ·refine .inr ?_
  rw[Vg]
  exact Uc h (by lia)
theorem Zbe{s:Int}(h:0<=s){i:Nat}(hi:i<ZB (s+1)):(Zy s).getD i 0=(Zy (s+1)).getD i 0+1:=by
 obtain⟨h1,h2,h3⟩:=JF (s:=s+1) (by lia)
 have e:=VF (n:=ZT (s+1)) h2 h3 h1
 rw[show s+1-1=s by lia] at e
 have g:=congrArg (fun l=>l.getD i 0) e
 rw[ZW (by lia)] at g
 rw[UI h,<- g,UH (by lia)]
 rw[ZwZ,ZxV,Zxk (by simp[ZH];lia),Zxm,ZxO hi]
 unfold ZH
 rw[Zxm,Zx4 (by lia)]
 rfl
theorem ZjQ{s:Int}(h:0<=s):(Zy s).getD (ZB (s+1)) 0=0/\(Zy (s+1)).getD (ZB (s+1)) 0=ZB (s+1)+1:=by
 obtain⟨h1,h2,h3⟩:=JF (s:=s+1) (by lia)
 have e:=VF (n:=ZT (s+1)) h2 h3 h1
 rw[show s+1-1=s by lia] at e
 have g:=congrArg (fun l=>l.getD (ZB (s+1)) 0) e
 rw[ZW (by lia)] at g
 refine⟨?_,by rw[UH h1];exact h3⟩
 rw[UI h,<- g]
 have hl:(((ZH (s+1) (ZT (s+1))).take (ZB (s+1))).map (·+1)).length=ZB (s+1):=by simp[ZH];lia
 rw[ZwZ,ZxV,Zxn (by lia),hl,Nat.sub_self]
 rfl
theorem QP{s:Int}(h:0<=s){i:Nat}(hi:ZB (s+1)<i):(Zy s).getD i 0=(Zy (s+1)).getD i 0:=by
 obtain⟨h1,h2,h3⟩:=JF (s:=s+1) (by lia)
 have e:=UW h2 h3 (i-(ZB (s+1)+1))
 rw[show s+1-1=s by lia,show ZB (s+1)+1+(i-(ZB (s+1)+1))=i by lia] at e
 rw[UI h,UI (by lia),e]
theorem ZdL{s:Int}(i:Nat):0<=(Zy s).getD i 0:=Zc5
theorem Zet{a b:List Int}(ha:V4 a)(h:∀i,a.getD i 0=b.getD i 0):a.length<=b.length:=by
 rcases ha with rfl|ha
 ·simp
 ·by_cases c:a.length<=b.length
  ·exact c
  ·exact absurd ((h _).trans (Vw (by lia))) ha
theorem Zi8{a b:List Int}(ha:V4 a)(hb:V4 b)(h:∀i,a.getD i 0=b.getD i 0):a=b:=by
 have hl:a.length=b.length:=Nat.le_antisymm (Zet ha h) (Zet hb fun i=>(h i).symm)
 apply Zy9 hl
 intro i h1 h2
 have:=h i
 rw[ZwZ,ZwZ,Zxa h1,Zxa h2] at this
 simpa using this
noncomputable def ZbA(ns:List Int)(j:Nat):List Int:=(List.range ns.length).map fun(i:Nat)=>ns.getD i 0-if i<j then 1 else 0
@[simp] theorem UA(ns:List Int)(j:Nat):(ZbA ns j).length=ns.length:=by simp[ZbA]
theorem VG{ns:List Int}{j i:Nat}(h:i<ns.length):(ZbA ns j).getD i 0=ns.getD i 0-if i<j then 1 else 0:=by
 simp[ZbA,ZwZ,Zx4 h]
theorem Zht(ns:List Int):ZbA ns 0=ns:=by
 conv=>rhs;rw[Zfp ns]
 unfold ZbA
 simp
theorem ZiM{ns:List Int}{j:Nat}(h:j<ns.length):(ZbA ns j).set j ((ZbA ns j).getD j 0-1)=ZbA ns (j+1):=by
 apply ZjV (by simp) (by simpa using h)
 ·rw[VG h,VG h,if_pos (by lia),if_neg (by lia)];lia
 ·intro i hi hne
  simp at hi
  rw[VG hi,VG hi]
  have:(i<j+1)=(i<j):=propext (by lia)
  simp only[this]
theorem ZgI{s:Int}(h:0<=s):ZB (s+1)<=ZT s/\((if ZB (s+1)=ZT s then ZbA (Zy s) (ZB (s+1))++[0] else ZbA (Zy s) (ZB (s+1))).set (ZB (s+1)) (ZB (s+1)+1))=Zy (s+1):=by
 have hle:ZB (s+1)<=ZT s:=by
  by_cases c:ZB (s+1)<=ZT s
  ·exact c
  ·have h1:=Zbe h (i:=ZT s) (by lia)
   rw[Vw (by rw[Vg];lia)] at h1
   have:=ZdL (s:=s+1) (ZT s)
   lia
 refine⟨hle, ?_⟩
 have hl:=Vg s
 generalize hL:(if ZB (s+1)=ZT s then ZbA (Zy s) (ZB (s+1))++[0] else ZbA (Zy s) (ZB (s+1)))=L
 have hLl:L.length=max (ZT s) (ZB (s+1)+1):=by
  rw[<- hL]
  split
  ·simp[hl];lia
  ·simp[hl];lia
 have hLg:∀i,i≠ZB (s+1)->L.getD i 0=(Zy (s+1)).getD i 0:=fun i hi=>by
  have base:∀i,i≠ZB (s+1)->(ZbA (Zy s) (ZB (s+1))).getD i 0=(Zy (s+1)).getD i 0:=fun i hi=>by
   by_cases c:i<ZT s
   ·rw[VG (by lia)]
    by_cases d:i<ZB (s+1)
    ·rw[if_pos d,Zbe h d];lia
    ·rw[if_neg d,QP h (by lia)];lia
   ·rw[Vw (by simp[hl];lia)]
    have:=QP h (i:=i) (by lia)
    rw[Vw (by lia)] at this
    exact this
  rw[<- hL]
  split
  ·rename_i c
   by_cases d:i<ZT s
   ·rw[ZwZ,Zxk (by simp[hl];lia),<- ZwZ,base i hi]
   ·rw[Vw (by simp[hl];lia),<- base i hi,Vw (by simp[hl];lia)]
  ·exact base i hi
 have hk:ZB (s+1)<L.length:=by lia
 have key:∀i,(L.set (ZB (s+1)) (ZB (s+1)+1)).getD i 0=(Zy (s+1)).getD i 0:=fun i=>by
  rw[getD_set hk]
  split
  ·rename_i c;rw[<- c,(ZjQ h).2]
  ·rename_i c;exact hLg i (fun z=>c z.symm)
 refine Zi8 (.inr ?_) (ZbO (by lia)) key
 rw[Zyd,key,hLl]
 by_cases c:ZT s<=ZB (s+1)+1
 ·rw[show max (ZT s) (ZB (s+1)+1)-1=ZB (s+1) by lia,(ZjQ h).2];lia
 ·rw[show max (ZT s) (ZB (s+1)+1)-1=ZT s-1 by lia]
  rw[<- QP h (by lia)]
  exact Uc h (by lia)
noncomputable def Zaw(s:Int):List Int:=(List.range s.toNat).map fun(j:Nat)=>((ZB (s-j):Nat):Int)+1
@[simp] theorem Qx(s:Int):(Zaw s).length=s.toNat:=by simp[Zaw]
noncomputable def Zdc(s:Int)(i:Nat):List Int:=(List.range i).map fun(j:Nat)=>((ZB (s-j):Nat):Int)+1
theorem ZeW(s:Int)(i:Nat):Zdc s (i+1)=Zdc s i++[((ZB (s-i):Nat):Int)+1]:=by simp[Zdc,List.range_succ]
@[simp] theorem Zck(s:Int)(i:Nat):(Zdc s i).length=i:=by simp[Zdc]
theorem Zgl{s:Int}{j:Nat}(h:j<s.toNat):(Zaw s)[j]?=some (((ZB (s-j):Nat):Int)+1):=by
 simp[Zaw,Zx4 h]
noncomputable def Ut(ns:List Int):Nat:=((List.range ns.length).find? fun(j:Nat)=>decide (ns.getD j 0=(j:Int)+1)).getD 0
theorem Zi6{ns:List Int}{k:Nat}(hk:k<ns.length)(h1:ns.getD k 0=(k:Int)+1)(h2:∀j,j<k->ns.getD j 0≠(j:Int)+1):Ut ns=k:=by
 unfold Ut
 rw[List.find?_range_eq_some.mpr ⟨by simpa using h1,ZxQ.mpr hk,fun j hj=>by simpa using h2 j hj⟩]
 rfl
theorem Uw(s:Int)(n:Nat):(ZH s n).length=n:=by simp[ZH]
theorem Zfw{t:Int}(h:0<t){n:Nat}(hn:ZT t<=n):Ut (ZH t n)=ZB t/\ZB t<n/\Zjn (ZH t n) ((ZB t:Nat)+1)=ZH (t-1) n:=by
 obtain⟨h1,h2,h3⟩:=JF h
 refine⟨Zi6 (by rw[Uw];lia) ?_ fun j hj=>?_,by lia, ?_⟩
 ·rw[ZW (by lia)];exact h3
 ·rw[ZW (by lia)];exact h2 j hj
 ·unfold Zjn
  rw[show ((ZB t:Int)+1-1).toNat=ZB t by lia,show ((ZB t:Int)+1).toNat=ZB t+1 by lia]
  exact VF h2 h3 (by lia)
theorem ZfG{s t:Int}(h0:0<=s)(h:s<=t):ZT s<=ZT t:=by
 have h1:=Qk h (ZT t)
 rw[(Jw (show 0<=t by lia)).2.1] at h1
 have h2:=UM h0 (ZT t)
 have:=Zbc h0 (j:=ZT t)
 lia
structure ZoE(y:List Int):Prop where
 nn:∀x∈y,0<=x
 last:V4 y
 len:y.length<=6
 sm:y.sum<=14
def ZjL(y:List Int):Prop:=y=Zy y.sum
noncomputable instance (y:List Int):Decidable (ZjL y):=by unfold ZjL;infer_instance
structure Pre(y:List Int):Prop where
 nn:∀x∈y,0<=x
 last:V4 y
 len:y.length<=6
noncomputable def tri:Nat->Int
 |0=>0
 |k+1=>tri k+(k+1)
noncomputable def adI(l:List Int)(k i:Nat):Int:=l.getD i 0-((k:Int)-i)
structure ZoB(l:List Int)(k:Nat):Prop where
 lo:tri k<=l.sum
 hi:l.sum<tri (k+1)
 ad:∀i,i<=k->0<=adI l k i/\adI l k i<=1
 z:∀i,k<i->l.getD i 0=0
end L2
namespace L2
open PySem PyProof.Rows
structure ZoC(prog:Program)(w:World)(A:Around)(s:Shared)(κ:SortKind)(U:Keyed->Prop)(R:Keyed->Keyed->Bool)(Ok:Keyed->Keyed->Prop):Prop where
 ask:∀x y,U x->U y->Ok x y->∀(Q:Bool->Shared->Prop),Q (R x y) s->wpAny (model prog w) A (keyLt' κ x.1 y.1) Q (fun _ _=>False) s
 asy:∀x y,U x->U y->R x y=true->R y x=false
 tr:∀x y z,U x->U y->U z->R y x=false->R z y=false->R z x=false
section
variable {U:Keyed->Prop}{R:Keyed->Keyed->Bool}{Ok:Keyed->Keyed->Prop}
structure Zon(U:Keyed->Prop)(R:Keyed->Keyed->Bool)(Ok:Keyed->Keyed->Prop)(left:Bool)(key:Keyed)(arr:Array Keyed)(base n:Nat)(P:Nat->Bool):Prop where
 uk:U key
 it:∀i,i<n->∃x,arr[base+i]?=some x/\U x/\(if left=true then Ok x key else Ok key x)/\P i=(if left=true then R x key else !R key x)
 mono:∀i j,i<=j->j<n->P j=true->P i=true
end
def Srt(R:Keyed->Keyed->Bool)(l:List Keyed):Prop:=l.Pairwise fun x y=>R y x=false
structure MI(R:Keyed->Keyed->Bool)(a b o:List Keyed)(i j:Nat):Prop where
 perm:o.Perm (a.take i++b.take j)
 srt:Srt R o
 ga:∀x∈o,∀y∈a.drop i,R y x=false
 gb:∀x∈o,∀y∈b.drop j,R y x=false
 hi:i<=a.length
 hj:j<=b.length
section
variable {U:Keyed->Prop}{R:Keyed->Keyed->Bool}{Ok:Keyed->Keyed->Prop}
structure MLo(U:Keyed->Prop)(R:Keyed->Keyed->Bool)(Ok:Keyed->Keyed->Prop)(a b:Array Keyed):Prop where
 ua:∀x∈a.toList,U x
 ub:∀x∈b.toList,U x
 ok:∀x∈b.toList,∀y∈a.toList,Ok x y
 sa:Srt R a.toList
 sb:Srt R b.toList
 na:0<a.size
 nb:0<b.size
 fst:∀x y,b.toList[0]?=some x->a.toList[0]?=some y->R y x=false
 lst:∀x∈b.toList,∀y,a.toList[a.size-1]?=some y->R y x=false
end
section
section
end
end
structure MH(R:Keyed->Keyed->Bool)(a b q:List Keyed)(i j:Nat):Prop where
 perm:q.Perm (a.drop i++b.drop j)
 srt:Srt R q
 ga:∀x∈a.take i,∀y∈q,R y x=false
 gb:∀x∈b.take j,∀y∈q,R y x=false
 hi:i<=a.length
 hj:j<=b.length
section
end
section
section
end
end
section
end
noncomputable def gA(X:Array Keyed)(i:Nat):Keyed:=X.getD i (.none,.none)
def Up(R:Keyed->Keyed->Bool)(X:Array Keyed)(lo m:Nat):Prop:=∀i j,i<j->j<m->R (gA X (lo+j)) (gA X (lo+i))=false
def Dn'(R:Keyed->Keyed->Bool)(X:Array Keyed)(lo m:Nat):Prop:=∀i j,i<j->j<m->R (gA X (lo+i)) (gA X (lo+j))=false
structure Zo6(X Y:Array Keyed)(lo m:Nat):Prop where
 perm:Y.Perm X
 out:∀k,k<lo\/lo+m<=k->Y[k]?=X[k]?
def Sep(Ok:Keyed->Keyed->Prop)(X:Array Keyed)(e:Nat):Prop:=∀p q,p<e->e<=q->q<X.size->Ok (gA X q) (gA X p)
section
variable {U:Keyed->Prop}
def Zo9(U:Keyed->Prop)(X:Array Keyed):Prop:=∀i,i<X.size->U (gA X i)
variable {R0 R:Keyed->Keyed->Bool}{Ok:Keyed->Keyed->Prop}
def Eqv(R:Keyed->Keyed->Bool)(X:Array Keyed)(lo a b:Nat):Prop:=∀i j,a<=i->i<b->a<=j->j<b->R (gA X (lo+i)) (gA X (lo+j))=false
structure ZoF(R0 R:Keyed->Keyed->Bool)(Ok:Keyed->Keyed->Prop):Prop where
 up:∀x y,R0 x y=true->R x y=true
 ok:∀x y,Ok x y->R x y=R0 x y
structure Fal(R0 R:Keyed->Keyed->Bool)(X Y:Array Keyed)(lo q k:Nat):Prop where
 t:Zo6 X Y lo q
 d:Dn' R Y lo q
 e:Eqv R0 Y lo q k
 st:∀i j,i<q->q<=j->j<k->R0 (gA Y (lo+j)) (gA Y (lo+i))=true
 qk:q<k
end
noncomputable abbrev Zo7:=Nat×Nat×Nat
def UpS(R:Keyed->Keyed->Bool)(Ok:Keyed->Keyed->Prop)(X:Array Keyed)(c n:Nat):Prop:=Up R X c n/\Sep Ok X c
noncomputable def Zom(R:Keyed->Keyed->Bool)(Ok:Keyed->Keyed->Prop)(X:Array Keyed):Nat->List Zo7->Nat->Prop
 |s,[],e=>s=e
 |s,(c,n,_)::r,e=>c=s/\0<n/\UpS R Ok X c n/\Zom R Ok X (s+n) r e
section
variable {κ:SortKind}{U:Keyed->Prop}{R:Keyed->Keyed->Bool}{Ok:Keyed->Keyed->Prop}
structure RSt(κ:SortKind)(U:Keyed->Prop)(R:Keyed->Keyed->Bool)(Ok:Keyed->Keyed->Prop)(X:Array Keyed)(lo hi:Nat)(st':SortSt):Prop where
 kd:kindOf st'=κ
 fl:failedOf st'=none
 pm:(arrOf st').Perm X
 us:Zo9 U (arrOf st')
 rn:Zom R Ok (arrOf st') 0 (pendingOf st').toList lo
 le:lo<=X.size
 lh:lo<=hi
 sp:∀e,e=lo\/hi<=e->Sep Ok (arrOf st') e
end
end L2
namespace L2
open PySem PySem.Spec PyProof.Rows
section
end
end L2
namespace My
open PySem L2
set_option hygiene false
local macro_rules | `(tactic| walk_at "pu")=>`(tactic| try simp -implicitDefEqProofs only[Zhj,Zhk,List.set_cons_zero,List.set_cons_succ,Zys,Zye,Zx8,List.replicate_zero,Zyf,Rr.bind_ok,Rr.bind_exc,Rr.bind_bad,Rr.thenS_ok,Rr.thenS_exc,RS.seq_next,RS.seq_ret,RS.seq_exc,RS.out_next,RS.out_ret,RS.out_exc,
 Zg7,Zgp,Zjt,Zju,Zj0,Zj1,Zhn,Zhm,ZjG,ZhJ,ZhK,Zjz,Zjy,Zjx,Zgw,Zjw,Zjv,Ze0,Ze1,Zez,Zey,Zg4,Zbq,Zcs,Zcr,Zxp,Zx9,Bool.not_true,Bool.not_false,Bool.false_eq_true,if_true,if_false,Nat.reduceAdd,Nat.reduceSub,id,Zxf,ZxT,Int.reduceToNat,ZaN,Zgx,Zmb,Zj4,Zj3,Nat.reduceLeDiff,Zxi,Int.reduceLT,Int.reduceLE,Int.reduceEq,decide_true,decide_false])
set_option hygiene true
seal PE PT PA PS PSs DE DT DAA DAF DS
noncomputable def top(i:Nat):Stmt:=PySem.Challenge.pw_sowring_k69_whole_homes_asked.main.body.getD i (.Pass ⟨0,0,0,0⟩)
noncomputable abbrev Zps:Stmt:=top 148
theorem ZqI:Zr ["script", "number", "cell"] ["script"] (Zd Zps):=⟨rfl,rfl,rfl,by decide +kernel,rfl,by decide +kernel,by decide +kernel⟩
theorem ZuU:Zt "_law_number" Zps ["script"]:=fun _ _ _ _ _ _ us hl=>by obtain⟨_,rfl⟩:=us1 hl;rfl
noncomputable abbrev ZpC:Stmt:=top 144
theorem Zt7:Zr ["cell", "k", "stir"] ["cell", "k"] (Zd ZpC):=⟨rfl,rfl,rfl,by decide +kernel,rfl,by decide +kernel,by decide +kernel⟩
theorem ZtD:Zt "_law_mixed" ZpC ["cell", "k"]:=fun _ _ _ _ _ _ us hl=>by obtain⟨_,_,rfl⟩:=us2 hl;rfl
noncomputable abbrev Zqd:Stmt:=top 147
theorem ZqJ:Zr ["seeds", "yard", "turn", "place"] ["seeds"] (Zd Zqd):=⟨rfl,rfl,rfl,by decide +kernel,rfl,by decide +kernel,by decide +kernel⟩
theorem Zuk:Zt "_law_home" Zqd ["seeds"]:=fun _ _ _ _ _ _ us hl=>by obtain⟨_,rfl⟩:=us1 hl;rfl
noncomputable abbrev ZqN:Stmt:=top 143
theorem Zww:Zr ["script", "k"] ["script", "k"] (Zd ZqN):=⟨rfl,rfl,rfl,by decide +kernel,rfl,by decide +kernel,by decide +kernel⟩
theorem Zw7:Zt "_law_at" ZqN ["script", "k"]:=fun _ _ _ _ _ _ us hl=>by obtain⟨_,_,rfl⟩:=us2 hl;rfl
noncomputable abbrev ZpD:Stmt:=top 149
theorem Zq5:Zr ["script", "number", "pits", "board", "at"] ["script", "number"] (Zd ZpD):=⟨rfl,rfl,rfl,by decide +kernel,rfl,by decide +kernel,by decide +kernel⟩
theorem Zvu:Zt "_law_board" ZpD ["script", "number"]:=fun _ _ _ _ _ _ us hl=>by obtain⟨_,_,rfl⟩:=us2 hl;rfl
noncomputable abbrev Zqx:Stmt:=top 21
theorem ZvX:Zr ["value"] ["value"] (Zd Zqx):=⟨rfl,rfl,rfl,by decide +kernel,rfl,by decide +kernel,by decide +kernel⟩
theorem Zwm:Zt "is_whole" Zqx ["value"]:=fun _ _ _ _ _ _ us hl=>by obtain⟨_,rfl⟩:=us1 hl;rfl
noncomputable abbrev ZoW:Stmt:=top 22
theorem Zul:Zr ["value", "least"] ["value", "least"] (Zd ZoW):=⟨rfl,rfl,rfl,by decide +kernel,rfl,by decide +kernel,by decide +kernel⟩
theorem Zsb:Zt "is_whole_from" ZoW ["value", "least"]:=fun _ _ _ _ _ _ us hl=>by obtain⟨_,_,rfl⟩:=us2 hl;rfl
noncomputable abbrev ZoK:Stmt:=top 23
theorem Zq9:Zr ["values"] ["values"] (Zd ZoK):=⟨rfl,rfl,rfl,by decide +kernel,rfl,by decide +kernel,by decide +kernel⟩
theorem ZqB:Zt "is_list_from_nought" ZoK ["values"]:=fun _ _ _ _ _ _ us hl=>by obtain⟨_,rfl⟩:=us1 hl;rfl
noncomputable abbrev Zp7:Stmt:=top 20
theorem Zvc:Zr [] [] (Zd Zp7):=⟨rfl,rfl,rfl,by decide +kernel,rfl,by decide +kernel,by decide +kernel⟩
theorem ZtC:Zt "most_seeds" Zp7 []:=fun _ _ _ _ _ _ us hl=>match us,hl with | [],_=>rfl
noncomputable abbrev Zqz:Stmt:=top 24
theorem ZvZ:Zr ["board"] ["board"] (Zd Zqz):=⟨rfl,rfl,rfl,by decide +kernel,rfl,by decide +kernel,by decide +kernel⟩
theorem Zwo:Zt "is_board" Zqz ["board"]:=fun _ _ _ _ _ _ us hl=>by obtain⟨_,rfl⟩:=us1 hl;rfl
noncomputable abbrev Zpr:Stmt:=top 25
theorem ZuM:Zr ["board"] ["board"] (Zd Zpr):=⟨rfl,rfl,rfl,by decide +kernel,rfl,by decide +kernel,by decide +kernel⟩
theorem ZsW:Zt "check_board" Zpr ["board"]:=fun _ _ _ _ _ _ us hl=>by obtain⟨_,rfl⟩:=us1 hl;rfl
noncomputable abbrev ZoL:Stmt:=top 105
theorem Zse:Zr ["word"] ["word"] (Zd ZoL):=⟨rfl,rfl,rfl,by decide +kernel,rfl,by decide +kernel,by decide +kernel⟩
theorem ZsF:Zt "number_or_too_many" ZoL ["word"]:=fun _ _ _ _ _ _ us hl=>by obtain⟨_,rfl⟩:=us1 hl;rfl
noncomputable abbrev Zqa:Stmt:=top 104
theorem Zuf:Zr ["word"] ["word"] (Zd Zqa):=⟨rfl,rfl,rfl,by decide +kernel,rfl,by decide +kernel,by decide +kernel⟩
theorem ZvL:Zt "is_number" Zqa ["word"]:=fun _ _ _ _ _ _ us hl=>by obtain⟨_,rfl⟩:=us1 hl;rfl
noncomputable abbrev Zp6:Stmt:=top 103
theorem Zre:Zr ["text", "words", "board"] ["text"] (Zd Zp6):=⟨rfl,rfl,rfl,by decide +kernel,rfl,by decide +kernel,by decide +kernel⟩
theorem Zvp:Zt "read_board" Zp6 ["text"]:=fun _ _ _ _ _ _ us hl=>by obtain⟨_,rfl⟩:=us1 hl;rfl
noncomputable abbrev Zqr:Stmt:=top 137
theorem Zql:Zr ["value"] ["value"] (Zd Zqr):=⟨rfl,rfl,rfl,by decide +kernel,rfl,by decide +kernel,by decide +kernel⟩
theorem ZtY:Zt "copy_of" Zqr ["value"]:=fun _ _ _ _ _ _ us hl=>by obtain⟨_,rfl⟩:=us1 hl;rfl
noncomputable abbrev Zqy:Stmt:=top 140
theorem ZvY:Zr ["board", "word", "count"] ["board", "word", "count"] (Zd Zqy):=⟨rfl,rfl,rfl,by decide +kernel,rfl,by decide +kernel,by decide +kernel⟩
theorem Zwn:Zt "is_count" Zqy ["board", "word", "count"]:=fun _ _ _ _ _ _ us hl=>by obtain⟨_,_,_,rfl⟩:=us3 hl;rfl
noncomputable abbrev ZqL:Stmt:=top 72
theorem ZtF:Zr ["board", "k", "pits"] ["board", "k"] (Zd ZqL):=⟨rfl,rfl,rfl,by decide +kernel,rfl,by decide +kernel,by decide +kernel⟩
theorem Zw5:Zt "turn_by" ZqL ["board", "k"]:=fun _ _ _ _ _ _ us hl=>by obtain⟨_,_,rfl⟩:=us2 hl;rfl
noncomputable abbrev Zp8:Stmt:=top 73
theorem Zt5:Zr ["board"] ["board"] (Zd Zp8):=⟨rfl,rfl,rfl,by decide +kernel,rfl,by decide +kernel,by decide +kernel⟩
theorem Zvq:Zt "least_turn" Zp8 ["board"]:=fun _ _ _ _ _ _ us hl=>by obtain⟨_,rfl⟩:=us1 hl;rfl
noncomputable abbrev ZpX:Stmt:=top 119
theorem Zue:Zr ["board", "numbers", "answer"] ["board", "numbers"] (Zd ZpX):=⟨rfl,rfl,rfl,by decide +kernel,rfl,by decide +kernel,by decide +kernel⟩
theorem ZvI:Zt "tell_ring" ZpX ["board", "numbers"]:=fun _ _ _ _ _ _ us hl=>by obtain⟨_,_,rfl⟩:=us2 hl;rfl
noncomputable abbrev Zp9:Stmt:=top 33
theorem Zvd:Zr ["yard"] ["yard"] (Zd Zp9):=⟨rfl,rfl,rfl,by decide +kernel,rfl,by decide +kernel,by decide +kernel⟩
theorem Zvr:Zt "check_yard" Zp9 ["yard"]:=fun _ _ _ _ _ _ us hl=>by obtain⟨_,rfl⟩:=us1 hl;rfl
noncomputable abbrev ZoT:Stmt:=top 89
theorem ZtG:Zr ["pit", "sowings"] ["pit", "sowings"] (Zd ZoT):=⟨rfl,rfl,rfl,by decide +kernel,rfl,by decide +kernel,by decide +kernel⟩
theorem ZtW:Zt "sowings_beyond" ZoT ["pit", "sowings"]:=fun _ _ _ _ _ _ us hl=>by obtain⟨_,_,rfl⟩:=us2 hl;rfl
noncomputable abbrev ZqM:Stmt:=top 88
theorem Zwv:Zr ["pit", "sowings"] ["pit", "sowings"] (Zd ZqM):=⟨rfl,rfl,rfl,by decide +kernel,rfl,by decide +kernel,by decide +kernel⟩
theorem Zw6:Zt "held_in" ZqM ["pit", "sowings"]:=fun _ _ _ _ _ _ us hl=>by obtain⟨_,_,rfl⟩:=us2 hl;rfl
noncomputable abbrev ZqK:Stmt:=top 87
theorem ZrA:Zr ["seeds", "yard", "sowings", "pit"] ["seeds"] (Zd ZqK):=⟨rfl,rfl,rfl,by decide +kernel,rfl,by decide +kernel,by decide +kernel⟩
theorem Zva:Zt "yard_of" ZqK ["seeds"]:=fun _ _ _ _ _ _ us hl=>by obtain⟨_,rfl⟩:=us1 hl;rfl
noncomputable abbrev Zpd:Stmt:=top 93
theorem Zrf:Zr ["yard", "other", "pit"] ["yard", "other"] (Zd Zpd):=⟨rfl,rfl,rfl,by decide +kernel,rfl,by decide +kernel,by decide +kernel⟩
theorem ZuC:Zt "first_unlike" Zpd ["yard", "other"]:=fun _ _ _ _ _ _ us hl=>by obtain⟨_,_,rfl⟩:=us2 hl;rfl
noncomputable abbrev ZoU:Stmt:=top 92
theorem ZqC:Zr ["yard", "pit"] ["yard"] (Zd ZoU):=⟨rfl,rfl,rfl,by decide +kernel,rfl,by decide +kernel,by decide +kernel⟩
theorem ZtX:Zt "nearest_to_sow" ZoU ["yard"]:=fun _ _ _ _ _ _ us hl=>by obtain⟨_,rfl⟩:=us1 hl;rfl
noncomputable abbrev Zqw:Stmt:=top 85
theorem Zuq:Zr ["yard", "pit"] ["yard", "pit"] (Zd Zqw):=⟨rfl,rfl,rfl,by decide +kernel,rfl,by decide +kernel,by decide +kernel⟩
theorem Zwl:Zt "sow_home" Zqw ["yard", "pit"]:=fun _ _ _ _ _ _ us hl=>by obtain⟨_,_,rfl⟩:=us2 hl;rfl
noncomputable abbrev ZpZ:Stmt:=top 91
theorem ZpW:Zr ["yard", "plan", "now", "left", "pit"] ["yard"] (Zd ZpZ):=⟨rfl,rfl,rfl,by decide +kernel,rfl,by decide +kernel,by decide +kernel⟩
theorem ZvK:Zt "plan_home" ZpZ ["yard"]:=fun _ _ _ _ _ _ us hl=>by obtain⟨_,rfl⟩:=us1 hl;rfl
noncomputable abbrev Zpe:Stmt:=top 90
theorem Zrg:Zr ["yard", "due", "pit"] ["yard"] (Zd Zpe):=⟨rfl,rfl,rfl,by decide +kernel,rfl,by decide +kernel,by decide +kernel⟩
theorem ZuD:Zt "brought_home" Zpe ["yard"]:=fun _ _ _ _ _ _ us hl=>by obtain⟨_,rfl⟩:=us1 hl;rfl
noncomputable abbrev ZoJ:Stmt:=top 78
theorem ZpI:Zr ["numbers", "count"] ["numbers"] (Zd ZoJ):=⟨rfl,rfl,rfl,by decide +kernel,rfl,by decide +kernel,by decide +kernel⟩
theorem ZrU:Zt "without_last_noughts" ZoJ ["numbers"]:=fun _ _ _ _ _ _ us hl=>by obtain⟨_,rfl⟩:=us1 hl;rfl
noncomputable abbrev ZpY:Stmt:=top 130
theorem Zvy:Zr ["board", "numbers"] ["board", "numbers"] (Zd ZpY):=⟨rfl,rfl,rfl,by decide +kernel,rfl,by decide +kernel,by decide +kernel⟩
theorem ZvJ:Zt "tell_home" ZpY ["board", "numbers"]:=fun _ _ _ _ _ _ us hl=>by obtain⟨_,_,rfl⟩:=us2 hl;rfl
noncomputable abbrev Zpq:Stmt:=top 34
theorem ZuL:Zr ["number", "least", "most"] ["number", "least", "most"] (Zd Zpq):=⟨rfl,rfl,rfl,by decide +kernel,rfl,by decide +kernel,by decide +kernel⟩
theorem ZuT:Zt "check_count" Zpq ["number", "least", "most"]:=fun _ _ _ _ _ _ us hl=>by obtain⟨_,_,_,rfl⟩:=us3 hl;rfl
noncomputable abbrev Zqb:Stmt:=top 86
theorem Zvz:Zr ["seeds"] ["seeds"] (Zd Zqb):=⟨rfl,rfl,rfl,by decide +kernel,rfl,by decide +kernel,by decide +kernel⟩
theorem ZvM:Zt "home_yard" Zqb ["seeds"]:=fun _ _ _ _ _ _ us hl=>by obtain⟨_,rfl⟩:=us1 hl;rfl
noncomputable abbrev Zp5:Stmt:=top 131
theorem Zvb:Zr ["board", "numbers"] ["board", "numbers"] (Zd Zp5):=⟨rfl,rfl,rfl,by decide +kernel,rfl,by decide +kernel,by decide +kernel⟩
theorem Zvo:Zt "tell_homes" Zp5 ["board", "numbers"]:=fun _ _ _ _ _ _ us hl=>by obtain⟨_,_,rfl⟩:=us2 hl;rfl
noncomputable abbrev Zug:Stmt:=top 139
theorem ZwC:Zr ["board", "word", "texts", "numbers"] ["board", "word", "texts"] (Zd Zug):=⟨rfl,rfl,rfl,by decide +kernel,rfl,by decide +kernel,by decide +kernel⟩
theorem ZwS:Zt "tell" Zug ["board", "word", "texts"]:=fun _ _ _ _ _ _ us hl=>by obtain⟨_,_,_,rfl⟩:=us3 hl;rfl
noncomputable abbrev Zqc:Stmt:=top 138
theorem Zsg:Zr ["board", "question", "words", "refusal"] ["board", "question"] (Zd Zqc):=⟨rfl,rfl,rfl,by decide +kernel,rfl,by decide +kernel,by decide +kernel⟩
theorem ZvN:Zt "answer_to" Zqc ["board", "question"]:=fun _ _ _ _ _ _ us hl=>by obtain⟨_,_,rfl⟩:=us2 hl;rfl
noncomputable abbrev ZpA:Stmt:=top 136
theorem Zpp:Zr ["text", "lines", "board", "questions", "answers", "question"] ["text"] (Zd ZpA):=⟨rfl,rfl,rfl,by decide +kernel,rfl,by decide +kernel,by decide +kernel⟩
theorem Zvs:Zt "answers_to" ZpA ["text"]:=fun _ _ _ _ _ _ us hl=>by obtain⟨_,rfl⟩:=us1 hl;rfl
noncomputable abbrev Zqe:Stmt:=top 150
theorem Zv0:Zr ["yard", "pit"] ["yard", "pit"] (Zd Zqe):=⟨rfl,rfl,rfl,by decide +kernel,rfl,by decide +kernel,by decide +kernel⟩
theorem ZvO:Zt "_law_held" Zqe ["yard", "pit"]:=fun _ _ _ _ _ _ us hl=>by obtain⟨_,_,rfl⟩:=us2 hl;rfl
noncomputable abbrev Zpf:Stmt:=top 145
theorem Zrh:Zr ["yard", "many"] ["yard"] (Zd Zpf):=⟨rfl,rfl,rfl,by decide +kernel,rfl,by decide +kernel,by decide +kernel⟩
theorem ZsG:Zt "_law_trimmed" Zpf ["yard"]:=fun _ _ _ _ _ _ us hl=>by obtain⟨_,rfl⟩:=us1 hl;rfl
noncomputable abbrev Zpt:Stmt:=top 146
theorem ZsT:Zr ["yard", "pit", "nearer"] ["yard", "pit"] (Zd Zpt):=⟨rfl,rfl,rfl,by decide +kernel,rfl,by decide +kernel,by decide +kernel⟩
theorem ZuV:Zt "_law_behind" Zpt ["yard", "pit"]:=fun _ _ _ _ _ _ us hl=>by obtain⟨_,_,rfl⟩:=us2 hl;rfl
noncomputable abbrev Zpg:Stmt:=top 151
theorem Zq3:Zr ["yard", "plan", "left", "pit"] ["yard", "plan"] (Zd Zpg):=⟨rfl,rfl,rfl,by decide +kernel,rfl,by decide +kernel,by decide +kernel⟩
theorem ZuE:Zt "_law_planned" Zpg ["yard", "plan"]:=fun _ _ _ _ _ _ us hl=>by obtain⟨_,_,rfl⟩:=us2 hl;rfl
noncomputable abbrev ZoO:Stmt:=top 152
theorem Zq4:Zr ["yard", "due", "answer", "pit"] ["yard", "due", "answer"] (Zd ZoO):=⟨rfl,rfl,rfl,by decide +kernel,rfl,by decide +kernel,by decide +kernel⟩
theorem ZtE:Zt "_law_home_right" ZoO ["yard", "due", "answer"]:=fun _ _ _ _ _ _ us hl=>by obtain⟨_,_,_,rfl⟩:=us3 hl;rfl
noncomputable abbrev ZpB:Stmt:=top 153
theorem Zt6:Zr ["word", "board", "due", "answer", "turns"] ["word", "board", "due", "answer"] (Zd ZpB):=⟨rfl,rfl,rfl,by decide +kernel,rfl,by decide +kernel,by decide +kernel⟩
theorem Zvt:Zt "_law_right" ZpB ["word", "board", "due", "answer"]:=fun _ _ _ _ _ _ us hl=>by obtain⟨_,_,_,_,rfl⟩:=us4 hl;rfl
noncomputable abbrev Zv1:Stmt:=top 154
theorem Zsf:Zr ["script", "number", "board", "due", "words", "lines", "found"] ["script"] (Zd Zv1):=⟨rfl,rfl,rfl,by decide +kernel,rfl,by decide +kernel,by decide +kernel⟩
theorem ZwW:Zt "law" Zv1 ["script"]:=fun _ _ _ _ _ _ us hl=>by obtain⟨_,rfl⟩:=us1 hl;rfl
noncomputable abbrev XN:List Str:=["SowError", "BadBoard", "BadPit", "BadPits", "BadCount", "NoSeeds", "Unlike", "TooLong", "TooMany", "BadLine", "BadYard", "BadText"]
noncomputable abbrev ZdF:List (Str×Str×Bool):=[("SowError", "SowError",true),("BadBoard", "SowError",true),("BadPit", "SowError",true),("BadPits", "SowError",true),("BadCount", "SowError",true),("NoSeeds", "SowError",true),("Unlike", "SowError",true),("TooLong", "SowError",true),("TooMany", "SowError",true),("BadLine", "SowError",true),("BadYard", "SowError",true),("BadText", "SowError",true)]
noncomputable abbrev ZdH:List (Str×Str×Bool):=[("SowError", "BadBoard",false),("BadBoard", "BadBoard",true),("BadPit", "BadBoard",false),("BadPits", "BadBoard",false),("BadCount", "BadBoard",false),("NoSeeds", "BadBoard",false),("Unlike", "BadBoard",false),("TooLong", "BadBoard",false),("TooMany", "BadBoard",false),("BadLine", "BadBoard",false),("BadYard", "BadBoard",false),("BadText", "BadBoard",false)]
noncomputable abbrev ZhN:List (Str×Str×Bool):=[("SowError", "BadPit",false),("BadBoard", "BadPit",false),("BadPit", "BadPit",true),("BadPits", "BadPit",false),("BadCount", "BadPit",false),("NoSeeds", "BadPit",false),("Unlike", "BadPit",false),("TooLong", "BadPit",false),("TooMany", "BadPit",false),("BadLine", "BadPit",false),("BadYard", "BadPit",false),("BadText", "BadPit",false)]
noncomputable abbrev Zf7:List (Str×Str×Bool):=[("SowError", "BadPits",false),("BadBoard", "BadPits",false),("BadPit", "BadPits",false),("BadPits", "BadPits",true),("BadCount", "BadPits",false),("NoSeeds", "BadPits",false),("Unlike", "BadPits",false),("TooLong", "BadPits",false),("TooMany", "BadPits",false),("BadLine", "BadPits",false),("BadYard", "BadPits",false),("BadText", "BadPits",false)]
noncomputable abbrev ZdG:List (Str×Str×Bool):=[("SowError", "BadCount",false),("BadBoard", "BadCount",false),("BadPit", "BadCount",false),("BadPits", "BadCount",false),("BadCount", "BadCount",true),("NoSeeds", "BadCount",false),("Unlike", "BadCount",false),("TooLong", "BadCount",false),("TooMany", "BadCount",false),("BadLine", "BadCount",false),("BadYard", "BadCount",false),("BadText", "BadCount",false)]
noncomputable abbrev Zf4:List (Str×Str×Bool):=[("SowError", "NoSeeds",false),("BadBoard", "NoSeeds",false),("BadPit", "NoSeeds",false),("BadPits", "NoSeeds",false),("BadCount", "NoSeeds",false),("NoSeeds", "NoSeeds",true),("Unlike", "NoSeeds",false),("TooLong", "NoSeeds",false),("TooMany", "NoSeeds",false),("BadLine", "NoSeeds",false),("BadYard", "NoSeeds",false),("BadText", "NoSeeds",false)]
noncomputable abbrev ZhM:List (Str×Str×Bool):=[("SowError", "Unlike",false),("BadBoard", "Unlike",false),("BadPit", "Unlike",false),("BadPits", "Unlike",false),("BadCount", "Unlike",false),("NoSeeds", "Unlike",false),("Unlike", "Unlike",true),("TooLong", "Unlike",false),("TooMany", "Unlike",false),("BadLine", "Unlike",false),("BadYard", "Unlike",false),("BadText", "Unlike",false)]
noncomputable abbrev Zf3:List (Str×Str×Bool):=[("SowError", "TooLong",false),("BadBoard", "TooLong",false),("BadPit", "TooLong",false),("BadPits", "TooLong",false),("BadCount", "TooLong",false),("NoSeeds", "TooLong",false),("Unlike", "TooLong",false),("TooLong", "TooLong",true),("TooMany", "TooLong",false),("BadLine", "TooLong",false),("BadYard", "TooLong",false),("BadText", "TooLong",false)]
noncomputable abbrev Zf2:List (Str×Str×Bool):=[("SowError", "TooMany",false),("BadBoard", "TooMany",false),("BadPit", "TooMany",false),("BadPits", "TooMany",false),("BadCount", "TooMany",false),("NoSeeds", "TooMany",false),("Unlike", "TooMany",false),("TooLong", "TooMany",false),("TooMany", "TooMany",true),("BadLine", "TooMany",false),("BadYard", "TooMany",false),("BadText", "TooMany",false)]
noncomputable abbrev Zf8:List (Str×Str×Bool):=[("SowError", "BadLine",false),("BadBoard", "BadLine",false),("BadPit", "BadLine",false),("BadPits", "BadLine",false),("BadCount", "BadLine",false),("NoSeeds", "BadLine",false),("Unlike", "BadLine",false),("TooLong", "BadLine",false),("TooMany", "BadLine",false),("BadLine", "BadLine",true),("BadYard", "BadLine",false),("BadText", "BadLine",false)]
noncomputable abbrev Zf5:List (Str×Str×Bool):=[("SowError", "BadYard",false),("BadBoard", "BadYard",false),("BadPit", "BadYard",false),("BadPits", "BadYard",false),("BadCount", "BadYard",false),("NoSeeds", "BadYard",false),("Unlike", "BadYard",false),("TooLong", "BadYard",false),("TooMany", "BadYard",false),("BadLine", "BadYard",false),("BadYard", "BadYard",true),("BadText", "BadYard",false)]
noncomputable abbrev Zf6:List (Str×Str×Bool):=[("SowError", "BadText",false),("BadBoard", "BadText",false),("BadPit", "BadText",false),("BadPits", "BadText",false),("BadCount", "BadText",false),("NoSeeds", "BadText",false),("Unlike", "BadText",false),("TooLong", "BadText",false),("TooMany", "BadText",false),("BadLine", "BadText",false),("BadYard", "BadText",false),("BadText", "BadText",true)]
noncomputable abbrev XS:List (Str×Str×Bool):=ZdF++ZdH++ZhN++Zf7++ZdG++Zf4++ZhM++Zf3++Zf2++Zf8++Zf5++Zf6
noncomputable abbrev XR:List Str:=["SowError", "BadBoard", "BadPit", "BadPits", "BadCount", "NoSeeds", "Unlike", "TooLong", "TooMany", "BadLine", "BadYard", "BadText"]
noncomputable abbrev J9:Stmt:=JR (top 1) 0
theorem Zcc:Zr ["self"] ["self"] (Zd J9):=⟨rfl,rfl,rfl,by decide +kernel,rfl,by decide +kernel,by decide +kernel⟩
noncomputable abbrev JB:Stmt:=JR (top 2) 0
theorem Zce:Zr ["self"] ["self"] (Zd JB):=⟨rfl,rfl,rfl,by decide +kernel,rfl,by decide +kernel,by decide +kernel⟩
noncomputable abbrev V2:Stmt:=JR (top 3) 0
theorem ZeU:Zr ["self"] ["self"] (Zd V2):=⟨rfl,rfl,rfl,by decide +kernel,rfl,by decide +kernel,by decide +kernel⟩
noncomputable abbrev Vb:Stmt:=JR (top 4) 0
theorem ZcY:Zr ["self"] ["self"] (Zd Vb):=⟨rfl,rfl,rfl,by decide +kernel,rfl,by decide +kernel,by decide +kernel⟩
noncomputable abbrev JA:Stmt:=JR (top 5) 0
theorem Zcd:Zr ["self"] ["self"] (Zd JA):=⟨rfl,rfl,rfl,by decide +kernel,rfl,by decide +kernel,by decide +kernel⟩
noncomputable abbrev JY:Stmt:=JR (top 6) 0
theorem ZcV:Zr ["self"] ["self"] (Zd JY):=⟨rfl,rfl,rfl,by decide +kernel,rfl,by decide +kernel,by decide +kernel⟩
noncomputable abbrev V1:Stmt:=JR (top 7) 0
theorem ZeT:Zr ["self"] ["self"] (Zd V1):=⟨rfl,rfl,rfl,by decide +kernel,rfl,by decide +kernel,by decide +kernel⟩
noncomputable abbrev JX:Stmt:=JR (top 8) 0
theorem ZcU:Zr ["self"] ["self"] (Zd JX):=⟨rfl,rfl,rfl,by decide +kernel,rfl,by decide +kernel,by decide +kernel⟩
noncomputable abbrev JW:Stmt:=JR (top 9) 0
theorem ZcT:Zr ["self"] ["self"] (Zd JW):=⟨rfl,rfl,rfl,by decide +kernel,rfl,by decide +kernel,by decide +kernel⟩
noncomputable abbrev Vc:Stmt:=JR (top 10) 0
theorem ZcZ:Zr ["self"] ["self"] (Zd Vc):=⟨rfl,rfl,rfl,by decide +kernel,rfl,by decide +kernel,by decide +kernel⟩
noncomputable abbrev JZ:Stmt:=JR (top 11) 0
theorem ZcW:Zr ["self"] ["self"] (Zd JZ):=⟨rfl,rfl,rfl,by decide +kernel,rfl,by decide +kernel,by decide +kernel⟩
noncomputable abbrev Va:Stmt:=JR (top 12) 0
theorem ZcX:Zr ["self"] ["self"] (Zd Va):=⟨rfl,rfl,rfl,by decide +kernel,rfl,by decide +kernel,by decide +kernel⟩
noncomputable abbrev JL:List Str:=["ends", "wins", "longest"]
theorem Zaz:(JL.all fun x=>PyData.canLay0 (.str x))=true:=by simp only[Zyg,ZyF,PyData.canLay0];decide +kernel
noncomputable abbrev Jr:List Str:=["to", "least"]
theorem QC:(Jr.all fun x=>PyData.canLay0 (.str x))=true:=by simp only[Zyg,ZyF,PyData.canLay0];decide +kernel
noncomputable abbrev JV:List Str:=["sow", "back", "round", "gather", "march"]
theorem Zbx:(JV.all fun x=>PyData.canLay0 (.str x))=true:=by simp only[Zyg,ZyF,PyData.canLay0];decide +kernel
noncomputable abbrev Vf:List Str:=["sow", "back", "on", "number", "ring", "round", "gather", "to", "least", "ends", "wins", "longest", "march", "marching", "home", "homes"]
noncomputable abbrev Zba:List (Str×Str):=[("ring", "tell_ring"),("home", "tell_home"),("homes", "tell_homes")]
structure Txt(w:World)(K:PySem.W.Frag)(mg:Str->Option Value):Prop where
 Zvm:Dfn K mg "_law_number" Zps
 Zuj:Dfn K mg "_law_mixed" ZpC
 ZuB:Dfn K mg "_law_home" Zqd
 ZwI:Dfn K mg "_law_at" ZqN
 ZvG:Dfn K mg "_law_board" ZpD
 Zw2:Dfn K mg "is_whole" Zqx
 ZsB:Dfn K mg "is_whole_from" ZoW
 ZqO:Dfn K mg "is_list_from_nought" ZoK
 Zui:Dfn K mg "most_seeds" Zp7
 Zw4:Dfn K mg "is_board" Zqz
 ZtB:Dfn K mg "check_board" Zpr
 ZsR:Dfn K mg "number_or_too_many" ZoL
 Zwh:Dfn K mg "is_number" Zqa
 ZvB:Dfn K mg "read_board" Zp6
 ZuA:Dfn K mg "copy_of" Zqr
 Zw3:Dfn K mg "is_count" Zqy
 ZwG:Dfn K mg "turn_by" ZqL
 ZvC:Dfn K mg "least_turn" Zp8
 Zwe:Dfn K mg "tell_ring" ZpX
 ZvD:Dfn K mg "check_yard" Zp9
 Zum:Dfn K mg "sowings_beyond" ZoT
 ZwH:Dfn K mg "held_in" ZqM
 Zv9:Dfn K mg "yard_of" ZqK
 ZuQ:Dfn K mg "first_unlike" Zpd
 Zun:Dfn K mg "nearest_to_sow" ZoU
 Zw1:Dfn K mg "sow_home" Zqw
 Zwg:Dfn K mg "plan_home" ZpZ
 ZuR:Dfn K mg "brought_home" Zpe
 Zsc:Dfn K mg "without_last_noughts" ZoJ
 Zwf:Dfn K mg "tell_home" ZpY
 Zvl:Dfn K mg "check_count" Zpq
 Zwi:Dfn K mg "home_yard" Zqb
 ZvA:Dfn K mg "tell_homes" Zp5
 ZwV:Dfn K mg "tell" Zug
 Zwj:Dfn K mg "answer_to" Zqc
 ZvE:Dfn K mg "answers_to" ZpA
 Zwk:Dfn K mg "_law_held" Zqe
 ZsV:Dfn K mg "_law_trimmed" Zpf
 Zvn:Dfn K mg "_law_behind" Zpt
 ZuS:Dfn K mg "_law_planned" Zpg
 ZtV:Dfn K mg "_law_home_right" ZoO
 ZvF:Dfn K mg "_law_right" ZpB
 ZwY:Dfn K mg "law" Zv1
 c_FEWEST_PITS:∃t,mg "FEWEST_PITS"=some (.int 2 t)
 c_FIGURES:∃t,mg "FIGURES"=some (.str "0123456789" t)
 c_MOST_FIGURES:∃t,mg "MOST_FIGURES"=some (.int 61 t)
 c_MOST_PITS:∃t,mg "MOST_PITS"=some (.int 24 t)
 c_MOST_YARD_PITS:∃t,mg "MOST_YARD_PITS"=some (.int 200 t)
 c_MOST_YARD_SEEDS:∃t,mg "MOST_YARD_SEEDS"=some (.int 10000 t)
 z_all:mg "all"=none
 z_bool:mg "bool"=none
 z_int:mg "int"=none
 z_isinstance:mg "isinstance"=none
 z_len:mg "len"=none
 z_list:mg "list"=none
 z_min:mg "min"=none
 z_range:mg "range"=none
 z_str:mg "str"=none
 z_sum:mg "sum"=none
 z_tuple:mg "tuple"=none
 z_zip:mg "zip"=none
 k_ANY_NUMBERS:Zlo K mg "ANY_NUMBERS" JL
 k_BOARD_NUMBERS:Zlo K mg "BOARD_NUMBERS" Jr
 k_ONE_NUMBER:Zlo K mg "ONE_NUMBER" JV
 t_TELLERS:Tel w.params K mg "TELLERS" Vf Zba
 x_tab:ZjM K XN XS=true
 x_exc:ZjN K XR=true
 x_mg:∀n C,Za6 K n C->mg n=some (.ref C)
 m_SowError:ZfE K "SowError" "called" "SowError.called" J9
 m_BadBoard:ZfE K "BadBoard" "called" "BadBoard.called" JB
 m_BadPit:ZfE K "BadPit" "called" "BadPit.called" V2
 m_BadPits:ZfE K "BadPits" "called" "BadPits.called" Vb
 m_BadCount:ZfE K "BadCount" "called" "BadCount.called" JA
 m_NoSeeds:ZfE K "NoSeeds" "called" "NoSeeds.called" JY
 m_Unlike:ZfE K "Unlike" "called" "Unlike.called" V1
 m_TooLong:ZfE K "TooLong" "called" "TooLong.called" JX
 m_TooMany:ZfE K "TooMany" "called" "TooMany.called" JW
 m_BadLine:ZfE K "BadLine" "called" "BadLine.called" Vc
 m_BadYard:ZfE K "BadYard" "called" "BadYard.called" JZ
 m_BadText:ZfE K "BadText" "called" "BadText.called" Va
section
variable {P:Program}{w:World}{K:W.Frag}{mg:Str->Option Value}{base:Heap}
theorem Zdn(T:Txt w K mg):ZeI P w K mg base "called" "SowError":=by
 obtain⟨C,f,fd,h1,h2,h3,F⟩:=T.m_SowError
 obtain⟨C2,c1,_,c2,_⟩:=Jp T.x_tab (n := "SowError") (by decide)
 obtain rfl:=c1.inj h1
 exact⟨C2,f,h1,c2,h2,h3,F.kp,Q7 F Zcc (F.binds (fun _ _ _ _ _ _ us hl=>match us,hl with | [_],_=>rfl)) rfl⟩
theorem Zdp(T:Txt w K mg):ZeI P w K mg base "called" "BadBoard":=by
 obtain⟨C,f,fd,h1,h2,h3,F⟩:=T.m_BadBoard
 obtain⟨C2,c1,_,c2,_⟩:=Jp T.x_tab (n := "BadBoard") (by decide)
 obtain rfl:=c1.inj h1
 exact⟨C2,f,h1,c2,h2,h3,F.kp,Q7 F Zce (F.binds (fun _ _ _ _ _ _ us hl=>match us,hl with | [_],_=>rfl)) rfl⟩
theorem ZgO(T:Txt w K mg):ZeI P w K mg base "called" "BadPit":=by
 obtain⟨C,f,fd,h1,h2,h3,F⟩:=T.m_BadPit
 obtain⟨C2,c1,_,c2,_⟩:=Jp T.x_tab (n := "BadPit") (by decide)
 obtain rfl:=c1.inj h1
 exact⟨C2,f,h1,c2,h2,h3,F.kp,Q7 F ZeU (F.binds (fun _ _ _ _ _ _ us hl=>match us,hl with | [_],_=>rfl)) rfl⟩
theorem Zfm(T:Txt w K mg):ZeI P w K mg base "called" "BadPits":=by
 obtain⟨C,f,fd,h1,h2,h3,F⟩:=T.m_BadPits
 obtain⟨C2,c1,_,c2,_⟩:=Jp T.x_tab (n := "BadPits") (by decide)
 obtain rfl:=c1.inj h1
 exact⟨C2,f,h1,c2,h2,h3,F.kp,Q7 F ZcY (F.binds (fun _ _ _ _ _ _ us hl=>match us,hl with | [_],_=>rfl)) rfl⟩
theorem Zdo(T:Txt w K mg):ZeI P w K mg base "called" "BadCount":=by
 obtain⟨C,f,fd,h1,h2,h3,F⟩:=T.m_BadCount
 obtain⟨C2,c1,_,c2,_⟩:=Jp T.x_tab (n := "BadCount") (by decide)
 obtain rfl:=c1.inj h1
 exact⟨C2,f,h1,c2,h2,h3,F.kp,Q7 F Zcd (F.binds (fun _ _ _ _ _ _ us hl=>match us,hl with | [_],_=>rfl)) rfl⟩
theorem Zfj(T:Txt w K mg):ZeI P w K mg base "called" "NoSeeds":=by
 obtain⟨C,f,fd,h1,h2,h3,F⟩:=T.m_NoSeeds
 obtain⟨C2,c1,_,c2,_⟩:=Jp T.x_tab (n := "NoSeeds") (by decide)
 obtain rfl:=c1.inj h1
 exact⟨C2,f,h1,c2,h2,h3,F.kp,Q7 F ZcV (F.binds (fun _ _ _ _ _ _ us hl=>match us,hl with | [_],_=>rfl)) rfl⟩
theorem ZgN(T:Txt w K mg):ZeI P w K mg base "called" "Unlike":=by
 obtain⟨C,f,fd,h1,h2,h3,F⟩:=T.m_Unlike
 obtain⟨C2,c1,_,c2,_⟩:=Jp T.x_tab (n := "Unlike") (by decide)
 obtain rfl:=c1.inj h1
 exact⟨C2,f,h1,c2,h2,h3,F.kp,Q7 F ZeT (F.binds (fun _ _ _ _ _ _ us hl=>match us,hl with | [_],_=>rfl)) rfl⟩
theorem Zfi(T:Txt w K mg):ZeI P w K mg base "called" "TooLong":=by
 obtain⟨C,f,fd,h1,h2,h3,F⟩:=T.m_TooLong
 obtain⟨C2,c1,_,c2,_⟩:=Jp T.x_tab (n := "TooLong") (by decide)
 obtain rfl:=c1.inj h1
 exact⟨C2,f,h1,c2,h2,h3,F.kp,Q7 F ZcU (F.binds (fun _ _ _ _ _ _ us hl=>match us,hl with | [_],_=>rfl)) rfl⟩
theorem Zfh(T:Txt w K mg):ZeI P w K mg base "called" "TooMany":=by
 obtain⟨C,f,fd,h1,h2,h3,F⟩:=T.m_TooMany
 obtain⟨C2,c1,_,c2,_⟩:=Jp T.x_tab (n := "TooMany") (by decide)
 obtain rfl:=c1.inj h1
 exact⟨C2,f,h1,c2,h2,h3,F.kp,Q7 F ZcT (F.binds (fun _ _ _ _ _ _ us hl=>match us,hl with | [_],_=>rfl)) rfl⟩
theorem Zfn(T:Txt w K mg):ZeI P w K mg base "called" "BadLine":=by
 obtain⟨C,f,fd,h1,h2,h3,F⟩:=T.m_BadLine
 obtain⟨C2,c1,_,c2,_⟩:=Jp T.x_tab (n := "BadLine") (by decide)
 obtain rfl:=c1.inj h1
 exact⟨C2,f,h1,c2,h2,h3,F.kp,Q7 F ZcZ (F.binds (fun _ _ _ _ _ _ us hl=>match us,hl with | [_],_=>rfl)) rfl⟩
theorem Zfk(T:Txt w K mg):ZeI P w K mg base "called" "BadYard":=by
 obtain⟨C,f,fd,h1,h2,h3,F⟩:=T.m_BadYard
 obtain⟨C2,c1,_,c2,_⟩:=Jp T.x_tab (n := "BadYard") (by decide)
 obtain rfl:=c1.inj h1
 exact⟨C2,f,h1,c2,h2,h3,F.kp,Q7 F ZcW (F.binds (fun _ _ _ _ _ _ us hl=>match us,hl with | [_],_=>rfl)) rfl⟩
theorem Zfl(T:Txt w K mg):ZeI P w K mg base "called" "BadText":=by
 obtain⟨C,f,fd,h1,h2,h3,F⟩:=T.m_BadText
 obtain⟨C2,c1,_,c2,_⟩:=Jp T.x_tab (n := "BadText") (by decide)
 obtain rfl:=c1.inj h1
 exact⟨C2,f,h1,c2,h2,h3,F.kp,Q7 F ZcX (F.binds (fun _ _ _ _ _ _ us hl=>match us,hl with | [_],_=>rfl)) rfl⟩
theorem Zmh(T:Txt w K mg):∀n∈XN,ZeI P w K mg base "called" n:=fun n hn=>by
 simp only[XN,Zxd,Zxx,or_false] at hn
 rcases hn with rfl|rfl|rfl|rfl|rfl|rfl|rfl|rfl|rfl|rfl|rfl|rfl
 ·exact Zdn T
 ·exact Zdp T
 ·exact ZgO T
 ·exact Zfm T
 ·exact Zdo T
 ·exact Zfj T
 ·exact ZgN T
 ·exact Zfi T
 ·exact Zfh T
 ·exact Zfn T
 ·exact Zfk T
 ·exact Zfl T
theorem Zdq:U1 XN (.exc "BadCount")=.ok (.str "BadCount"):=Zad (by decide)
theorem Zfr:U1 XN (.exc "BadYard")=.ok (.str "BadYard"):=Zad (by decide)
theorem ZgS:PyData.canLay0 (.str "home")=true:=by rw[PyData.canLay0];decide +kernel
theorem Zer:PyData.canLay0 (.str "homes")=true:=by rw[PyData.canLay0];decide +kernel
theorem Zcw{g:Bool->Bool}:ZbM g (.str "home") (.str "home")=.ok (.bl (g true)):=VT ZgS ZgS
theorem Za2{g:Bool->Bool}:ZbM g (.str "homes") (.str "homes")=.ok (.bl (g true)):=VT Zer Zer
set_option hygiene false
local macro_rules | `(tactic| walk_at "pd")=>`(tactic| try simp -implicitDefEqProofs (disch:=first|omega|(simp only[Zxc,Zxq,Zyd,Zyo,Zxp,Zx9,ZxK,ZxL,ZxI,QU];omega)|decide) only[Zhj,Zhk,List.set_cons_zero,List.set_cons_succ,Zys,Zye,Zgg,Zgf,Zyf,Rr.bind_ok,Rr.bind_exc,Rr.bind_bad,Rr.thenS_ok,Rr.thenS_exc,RS.seq_next,RS.seq_ret,RS.seq_exc,RS.out_next,RS.out_ret,RS.out_exc,
 ZmB,Zg7,Zgp,Zjt,Zju,Zj0,Zj1,Zhn,Zhm,Zhl,ZjG,ZhJ,ZiZ,ZhK,Zjz,Zjy,Zjx,Zgw,Zjw,Zjv,Ze0,Ze1,Zez,Zey,Zg4,Zbq,Zkk,Zcs,Zkj,Zki,Zns,Zcr,Zxp,Zx9,Bool.not_true,Bool.not_false,Bool.false_eq_true,if_true,if_false,Nat.reduceAdd,Nat.reduceSub,id,Zxf,ZxT,Int.reduceToNat,ZaN,Zgx,Zmb,Zj4,Zj3,ZkV,Nat.reduceLeDiff,Zxi,Int.reduceLT,Int.reduceLE,Int.reduceEq,decide_true,decide_false,
 Zee,Zgs,Zg6,Zio,Zkv,Zfc,US,Zem,Zip,Zm8,ZiS,ZjS,ZhY,ZjR,Zi2,Zi1,ZgJ,Zef,beq_self_eq_true,Bool.and_true,Bool.true_and,Bool.and_false,Bool.false_and,ZlY,Zdq,Zfr,Zcw,Za2])
set_option hygiene true
noncomputable def Zpl:Pm:=⟨List Int,fun ns=>[.lst (ns.map PV.int)],fun ns=>ns.length<=63,fun ns=>.ok (.int (Zi4 ns))⟩
theorem ZuO(T:Txt w K mg){f:Addr}{fd:FuncData}(F:Fun K "_law_number" "_law_number" Zps f fd):Jv P w K mg base CX0 1 f fd ["script"] (spF K 1 .P W0 Zpl.fn):=by
 refine F.okP ZqI rfl rfl (fun cdv A outer s H E hr=>?_)
 have hu:=hr.units
 refine⟨_,_,⟨[],[],[],.P⟩,rfl,(Zh (ZA (i:=1) ZqI.nd rfl (by first|exact Or.inl rfl|exact Or.inr rfl) Zk)
   (Zh (ZdY PassesOwn.never rfl (Jq (K:=K) (pv 0)) (Qn (i:=2) ZqI.nd rfl (by first|exact Or.inl rfl|exact Or.inr rfl)) (Zi (ZA (i:=1) ZqI.nd rfl (by first|exact Or.inl rfl|exact Or.inr rfl) (Z8 J4 (Z8 J5 (Z8 Qp (pv 1) Zk) (pv 2)) Zk))))
   (Zi (Zu (pv 1))))),
   (Zl (Γm:=[.S,.P,.U]) (ZP (i:=1) Zj (by decide))
   (Zl (Γm:=[.S,.P,.U]) (Ze5 (Γl:=[.S,.P,.U]) (U9 (Zao (i:=0) rfl)) rfl (ZmU (i:=2) (by decide))
   (DS.out (Y:=⟨[.S,.P,.P],[.S,.P,.U],[.S,.P,.U],.P⟩) (Y':=⟨[.S,.P,.U],[.S,.P,.U],[.S,.P,.U],.P⟩) (ZP (i:=1) (J7 (DE.toA (J8 (DE.toA (ZaX (DE.toA (Zp (i:=1) rfl)) (DE.toA Zj))) (DE.toA (Zp (i:=2) rfl)))) (DE.toA Zj)) (by decide)) rfl rfl rfl rfl))
   (Z7 (Zp (i:=1) rfl)))), ?_⟩
 refine Pm.ref Zpl (g:=fun xs=>_) ?_
 rintro(ns:List Int) (hn:ns.length<=63)
 simp only[Zpl]
 walk_at "pd"
 generalize hw:Zfv _ _ _=W
 obtain⟨ρ',rfl,v,rfl⟩:=Qa hw (fun i ρ=>∃v,ρ=[.lst (ns.map PV.int),.int (Zi4 (ns.take i)),v]) ⟨_,rfl⟩ (by
  rintro i x ρ hx ⟨v,rfl⟩
  rw[Zxm] at hx
  have hi:i<ns.length:=by
   by_cases c:i<ns.length
   ·exact c
   ·rw[Zxl (by lia)] at hx;cases hx
  rw[Zxa hi] at hx
  cases hx
  have hb:=ZgH (ns.take i)
  walk_at "pd"
  exact UR ⟨.int ns[i],by rw[ZgG hi,ZwZ,Zxa hi];rfl⟩)
 walk_at "pd"
 rw[Zxc,List.take_length]
theorem Zq7{ns:List Int}(h:ns.length<=63):Zpl.fn [.lst (ns.map PV.int)]=.ok (.int (Zi4 ns)):=Pm.fn_eq Zpl ns h fun(a:List Int) e=>by (simp only[Zpl,List.cons.injEq,PV.lst.injEq,PV.int.injEq,PV.str.injEq,PV.bl.injEq,PV.tup.injEq,Z3,and_true] at e ⊢;first|(simp only[e];done)|(subst e;rfl)|(rw[e]))
noncomputable def Zpc:Pm:=⟨Int×Int,fun a=>[.int a.1,.int a.2],fun a=>-1000000<=a.2/\a.2<=1000000,fun a=>.ok (.int (Vr a.1 a.2))⟩
theorem Zt9(T:Txt w K mg){f:Addr}{fd:FuncData}(F:Fun K "_law_mixed" "_law_mixed" ZpC f fd):Jv P w K mg base CX0 1 f fd ["cell", "k"] (spF K 2 .P W0 Zpc.fn):=by
 refine F.okP Zt7 rfl rfl (fun cdv A outer s H E hr=>?_)
 have hu:=hr.units
 refine⟨_,_,⟨[],[],[],.P⟩,rfl,(Zh (ZA (i:=2) Zt7.nd rfl (by first|exact Or.inl rfl|exact Or.inr rfl) (Z8 J4 (Z8 J5 (Z8 J5 (Z8 Qp (Z8 J4 (pv 0) Zk) Zk) (Z8 Qp Zk (pv 1))) Zk) Zk))
   (Zi (Zu (Z8 Zeh (Z8 J4 (Z8 Qp (pv 2) (pv 2)) Zk) Zk)))),
   (Zl (Γm:=[.S,.S,.P]) (ZP (i:=2) (J7 (DE.toA (J8 (DE.toA (J8 (DE.toA (ZaX (DE.toA (J7 (Zc (i:=0) (m:=.S) rfl (by decide)) (DE.toA Zj))) (DE.toA Zj))) (DE.toA (ZaX (DE.toA Zj) (Zc (i:=1) (m:=.S) rfl (by decide)))))) (DE.toA Zj))) (DE.toA Zj)) (by decide))
   (Z7 (ZjE (DE.toA (J7 (DE.toA (ZaX (DE.toA (Zp (i:=2) rfl)) (DE.toA (Zp (i:=2) rfl)))) (DE.toA Zj))) (DE.toA Zj)))), ?_⟩
 refine Pm.ref Zpc (g:=fun xs=>_) ?_
 rintro⟨c,k⟩ ⟨h0,h1⟩
 simp only at h0 h1
 simp only[Zpc]
 have c0:=Zxu c (show (2147483647:Int)≠0 by decide)
 have c1:=Zxo c (show (0:Int)<2147483647 by decide)
 walk_at "pd"
 have d0:=Zxu (c%2147483647*48271+977*k+11) (show (2147483647:Int)≠0 by decide)
 have d1:=Zxo (c%2147483647*48271+977*k+11) (show (0:Int)<2147483647 by decide)
 walk_at "pd"
 all_goals rfl
theorem ZpH{c k:Int}(h:-1000000<=k/\k<=1000000):Zpc.fn [.int c,.int k]=.ok (.int (Vr c k)):=Pm.fn_eq Zpc (c,k) h fun(a:Int×Int) e=>by (simp only[Zpc,List.cons.injEq,PV.lst.injEq,PV.int.injEq,PV.str.injEq,PV.bl.injEq,PV.tup.injEq,Z3,and_true] at e ⊢;first|(simp only[e];done)|(subst e;rfl)|(rw[e]))
noncomputable def ZpF:Pm:=⟨Int,fun s=>[.int s],fun s=>0<=s/\s<=10000,fun s=>.ok (.lst ((Zy s).map PV.int))⟩
theorem Zuh(T:Txt w K mg){f:Addr}{fd:FuncData}(F:Fun K "_law_home" "_law_home" Zqd f fd):Jv P w K mg base CX0 1 f fd ["seeds"] (spF K 1 .F W0 ZpF.fn):=by
 refine F.okP ZqJ rfl rfl (fun cdv A outer s H E hr=>?_)
 have hu:=hr.units
 refine⟨_,_,⟨[],[],[],.F⟩,rfl,(Zh (ZA (i:=1) ZqJ.nd rfl (by first|exact Or.inl rfl|exact Or.inr rfl) (VQ Zg))
   (Zh (ZdY PassesOwn.never rfl (Vm rfl T.z_range (Za (pv 0) Zg)) (Qn (i:=2) ZqJ.nd rfl (by first|exact Or.inl rfl|exact Or.inr rfl)) (Zh (ZA (i:=3) ZqJ.nd rfl (by first|exact Or.inl rfl|exact Or.inr rfl) Zk)
   (Zh (Vu PassesOwn.never (PW.pt (ZaI (Zx Zi3 (pv 3) (Zn (Z4 (K:=K)) rfl T.z_len ZX (Za (pv 1) Zg)) (Zz _)) (Qm (Zx Us (JD (ZL (K:=K)) (pv 1) (pv 3) (fun _ _=>rfl)) Zk (Zz _))))) (Zh (Zcj (Z8 J3 (JD (ZL (K:=K)) (pv 1) (pv 3) (fun _ _=>rfl)) Zk) (Zcl (pv 1) (pv 3) UN))
   (Zi (ZA (i:=3) ZqJ.nd rfl (by first|exact Or.inl rfl|exact Or.inr rfl) (Z8 J5 (pv 3) Zk)))))
   (Zh (Jc (Zx (ZS (K:=K) hu) (pv 3) (Zn (Z4 (K:=K)) rfl T.z_len ZX (Za (pv 1) Zg)) (Zz _)) (Zi (V8 (Zax PySem.F.plainAttrs_list PySem.F.slot_list_append PySem.F.type_list_append UT (pv 1) (Za Zk Zg)))) Z5)
   (Zi (Zcj (Z8 J5 (pv 3) Zk) (Zcl (pv 1) (pv 3) UN)))))))
   (Zi (Zu (pv 1))))),
   (Zl (Γm:=[.S,.O,.U,.U]) (ZQ (i:=1) (VH JS) (by decide))
   (Zl (Γm:=[.S,.O,.U,.U]) (Ze5 (Γl:=[.S,.O,.U,.U]) (U8 (Zb (Zc (i:=0) (m:=.S) rfl (by decide)) Ze)) rfl (ZmU (i:=2) (by decide))
   (DS.out (Y:=⟨[.S,.O,.P,.P],[.S,.O,.U,.U],[.S,.O,.U,.U],.F⟩) (Y':=⟨[.S,.O,.U,.U],[.S,.O,.U,.U],[.S,.O,.U,.U],.F⟩) (Zl (Γm:=[.S,.O,.P,.P]) (ZP (i:=3) Zj (by decide))
   (Zl (Γm:=[.S,.O,.P,.P]) (Vx (Γ:=[.S,.O,.P,.P]) (ZaV (Zw (DE.toA (ZiQ (DE.toA (Zp (i:=3) rfl)) (DE.toA (Jb (Zb (Zc (i:=1) (m:=.O) rfl (by decide)) Ze)))))) (Zw (DE.toA (Uu (Jf (te:=tC .non) (Zc (i:=1) (m:=.O) rfl (by decide)) (DE.toA (Zp (i:=3) rfl))) (DE.toA Zj)))))
   (Zl (Γm:=[.S,.O,.P,.P]) (VY (i:=1) rfl (J6 (Jf (te:=tC .non) (Zc (i:=1) (m:=.O) rfl (by decide)) (DE.toA (Zp (i:=3) rfl))) (DE.toA Zj)) (DE.toA (Zp (i:=3) rfl)))
   (ZP (i:=3) (J8 (DE.toA (Zp (i:=3) rfl)) (DE.toA Zj)) (by decide))))
   (Zl (Γm:=[.S,.O,.P,.P]) (Jd (Zw (DE.toA (ZM (g:=id) (DE.toA (Zp (i:=3) rfl)) (DE.toA (Jb (Zb (Zc (i:=1) (m:=.O) rfl (by decide)) Ze))))))
   (Zb9 (i:=1) rfl rfl (DE.PF Zj))
   Z6)
   (VY (i:=1) rfl (J8 (DE.toA (Zp (i:=3) rfl)) (DE.toA Zj)) (DE.toA (Zp (i:=3) rfl)))))) rfl rfl rfl rfl))
   (ZD (Qu (i:=1) rfl)))), ?_⟩
 refine Pm.ref ZpF (g:=fun xs=>_) ?_
 rintro(s:Int) ⟨h0,h1⟩
 simp only[ZpF]
 walk_at "pd"
 generalize hw:Zfv _ _ _=W
 obtain⟨ρ',rfl,v,u,rfl⟩:=Qa hw (fun i ρ=>∃v u,ρ=[.int s,.lst ((Zy i).map PV.int),v,u]) ⟨_,_,by rw[ZyC,Za9];rfl⟩ (by
  rintro i x ρ hx ⟨v,u,rfl⟩
  obtain⟨hi,rfl⟩:=Zie hx
  obtain⟨n1,n2⟩:=ZgI (s:=i) (by lia)
  have hy:ZT i<=200:=Vt (by lia) (by lia)
  have hl:=Vg i
  walk_at "pd"
  generalize hw2:Vh _ _ _=W2
  obtain⟨ρ',rfl,rfl⟩:=Jg hw2 (ZB ((i:Int)+1)) (fun j ρ=>ρ=[.int s,.lst ((ZbA (Zy i) j).map PV.int),.int (0+(i:Int)),.int j]) (by rw[Zht];rfl) (by
   rintro j ρ hj rfl
   have hd:(ZbA (Zy i) j).length=ZT i:=by rw[UA,hl]
   have hg:(ZbA (Zy i) j).getD j 0=(Zy i).getD j 0:=by rw[VG (by lia),if_neg (by lia),ZyG]
   have hu:=Zbe (s:=i) (by lia) hj
   have hnn:=ZdL (s:=(i:Int)+1) j
   constructor
   ·walk_at "pd"
    rw[decide_eq_true (by lia)]
    walk_at "pd"
    rw[Zxt,hg,decide_eq_true (by lia)]
   ·walk_at "pd"
    exact UR (by rw[<- ZiM (by lia),Zxt,show ((j+1:Nat):Int)=(j:Int)+1 by lia])) (by
   rintro ρ rfl
   have hd:(ZbA (Zy i) (ZB ((i:Int)+1))).length=ZT i:=by rw[UA,hl]
   walk_at "pd"
   by_cases c:ZB ((i:Int)+1)<ZT i
   ·rw[decide_eq_true (by lia)]
    walk_at "pd"
    rw[Zxt,VG (by lia),if_neg (by lia),ZyG,(ZjQ (s:=i) (by lia)).1]
    rfl
   ·rw[decide_eq_false (by lia)]
    walk_at "pd")
  have hd:(ZbA (Zy i) (ZB ((i:Int)+1))).length=ZT i:=by rw[UA,hl]
  walk_at "pd"
  by_cases c:ZB ((i:Int)+1)=ZT i
  ·rw[if_pos c] at n2
   rw[decide_eq_true (by lia)]
   walk_at "pd"
   exact UR ⟨_,_,by rw[Zxt,n2];rfl⟩
  ·rw[if_neg c] at n2
   rw[decide_eq_false (by lia)]
   walk_at "pd"
   exact UR ⟨_,_,by rw[Zxt,n2];rfl⟩)
 walk_at "pd"
 rw[QU,show ((s.toNat:Nat):Int)=s by lia]
theorem ZqG{s:Int}(h:0<=s/\s<=10000):ZpF.fn [.int s]=.ok (.lst ((Zy s).map PV.int)):=Pm.fn_eq ZpF s h fun(a:Int) e=>by (simp only[ZpF,List.cons.injEq,PV.lst.injEq,PV.int.injEq,PV.str.injEq,PV.bl.injEq,PV.tup.injEq,Z3,and_true] at e ⊢;first|(simp only[e];done)|(subst e;rfl)|(rw[e]))
noncomputable def Zq1:Pm:=⟨List Int×Int,fun a=>[.lst (a.1.map PV.int),.int a.2],fun a=>0<=a.2,fun a=>.ok (.int (a.1.getD a.2.toNat 0))⟩
theorem Zw0(T:Txt w K mg){f:Addr}{fd:FuncData}(F:Fun K "_law_at" "_law_at" ZqN f fd):Jv P w K mg base CX0 1 f fd ["script", "k"] (spF K 2 .P W0 Zq1.fn):=by
 refine F.okP Zww rfl rfl (fun cdv A outer s H E hr=>?_)
 have hu:=hr.units
 refine⟨_,_,⟨[],[],[],.P⟩,rfl,(Zh (Jc (Zx Zi3 (pv 1) (Zn (Z4 (K:=K)) rfl T.z_len ZX (Za (pv 0) Zg)) (Zz _)) (Zi (Zu (JD (ZL (K:=K)) (pv 0) (pv 1) (fun _ _=>rfl)))) Z5)
   (Zi (Zu Zk))),
   (Zl (Γm:=[.S,.S]) (Jd (Zw (DE.toA (ZiQ (Zc (i:=1) (m:=.S) rfl (by decide)) (DE.toA (Jb (Zb (Zc (i:=0) (m:=.S) rfl (by decide)) Ze))))))
   (Z7 (DE.grd (Jf (te:=tC .non) (Zc (i:=0) (m:=.S) rfl (by decide)) (Zc (i:=1) (m:=.S) rfl (by decide)))))
   Z6)
   (Z7 Zj)), ?_⟩
 refine Pm.ref Zq1 (g:=fun xs=>_) ?_
 rintro⟨ns,k⟩ (hk:0<=k)
 simp only[Zq1]
 walk_at "pu"
 by_cases h:k<ns.length
 ·rw[if_pos (decide_eq_true h),Zee hk h]
  walk_at "pu"
 ·rw[if_neg (by simpa using h)]
  walk_at "pu"
  rw[ZwZ,Zxl (by lia)];rfl
theorem ZrG{ns:List Int}{k:Int}(h:0<=k):Zq1.fn [.lst (ns.map PV.int),.int k]=.ok (.int (ns.getD k.toNat 0)):=Pm.fn_eq Zq1 (ns,k) h fun(a:List Int×Int) e=>by (simp only[Zq1,List.cons.injEq,PV.lst.injEq,PV.int.injEq,PV.str.injEq,PV.bl.injEq,PV.tup.injEq,Z3,and_true] at e ⊢;first|(simp only[e];done)|(subst e;rfl)|(rw[e]))
theorem Zew{n:Nat}{a:Int}(h0:0<=a)(h1:a<n):ixN n (a-1)=some (QA n a):=by
 unfold ixN QA
 by_cases c:a=0
 ·subst c
  rw[if_neg (by lia),if_pos (by lia),show (0-1:Int)%n=n-1 by rw[show (0-1:Int)=((n:Int)-1)+n*(-1) by lia,ZxZ,ZxY (by lia) (by lia)]]
  rw[show (0-1+(n:Int))=(n:Int)-1 by lia]
 ·rw[if_pos (by lia),if_pos (by lia),ZxY (by lia) (by lia)]
theorem Zih{n:Nat}{a:Int}(hn:0<n):QA n a<n:=by
 have h1:=Zxu (a-1) (show (n:Int)≠0 by lia)
 have h2:=Zxo (a-1) (show 0<(n:Int) by lia)
 unfold QA;lia
theorem Zix{ns:List Int}{a:Int}(h0:0<=a)(h1:a<ns.length):pIx (.lst (ns.map PV.int)) (.int (a-1))=.ok (.int (ns.getD (QA ns.length a) 0)):=by
 have hp:=Zih (n:=ns.length) (a:=a) (by lia)
 have:atI (ns.map PV.int) (a-1)=some (.int (ns.getD (QA ns.length a) 0)):=by
  unfold atI
  rw[Zxc,Zew h0 h1]
  show (ns.map PV.int)[QA ns.length a]?=_
  rw[Zxm,Zxa hp,ZwZ,Zxa hp]
  rfl
 simp only[pIx,this]
theorem Zgr{ns:List Int}{a y:Int}(h0:0<=a)(h1:a<ns.length):pSet (.lst (ns.map PV.int)) (.int (a-1)) (.int y)=.ok (.lst ((ns.set (QA ns.length a) y).map PV.int)):=by
 simp only[pSet,Zxc,Zew h0 h1,List.map_set]
noncomputable def Zp0:Pm:=⟨List Int×Int,fun a=>[.lst (a.1.map PV.int),.int a.2],fun a=>a.1.length<=63,fun a=>.ok (.lst ((ZhE a.1 a.2).map PV.int))⟩
theorem Zvk(T:Txt w K mg){f:Addr}{fd:FuncData}(F:Fun K "_law_board" "_law_board" ZpD f fd):Jv P w K mg base CX0 2 f fd ["script", "number"] (spF K 2 .F W0 Zp0.fn):=by
 have Zpn:=VD (P:=P) (w:=w) (base:=base) T.Zuj ZtD (fun F=>Zt9 T F)
 have Zt3:=VD (P:=P) (w:=w) (base:=base) T.ZuB Zuk (fun F=>Zuh T F)
 have ZvW:=VD (P:=P) (w:=w) (base:=base) T.ZwI Zw7 (fun F=>Zw0 T F)
 refine F.okP Zq5 rfl rfl (fun cdv A outer s H E hr=>?_)
 have hu:=hr.units
 refine⟨_,_,⟨[],[],[],.F⟩,rfl,(Zh (ZA (i:=2) Zq5.nd rfl (by first|exact Or.inl rfl|exact Or.inr rfl) (Z8 J5 Zk (Z8 J4 (Zq Zpn (hr.mono (by decide)) rfl (Za (pv 1) (Za Zk Zg))) Zk)))
   (Zh (Jc (Zx (ZS (K:=K) hu) (Z8 J4 (Zq Zpn (hr.mono (by decide)) rfl (Za (pv 1) (Za Zk Zg))) Zk) Zk (Zz _)) (Zh (ZA (i:=3) Zq5.nd rfl (by first|exact Or.inl rfl|exact Or.inr rfl) (Jz (Jy (K:=K)) (Z8 (U2 (K:=K)) (Zq Zt3 (hr.mono (by decide)) rfl (Za (Z8 J4 (Zq Zpn (hr.mono (by decide)) rfl (Za (pv 1) (Za Zk Zg))) Zk) Zg)) (Z8 Zmc (VQ (Za Zk Zg)) Zk)) Vl (Vk (pv 2))))
   (Zh (ZA (i:=4) Zq5.nd rfl (by first|exact Or.inl rfl|exact Or.inr rfl) (Z8 J4 (Zq Zpn (hr.mono (by decide)) rfl (Za (pv 1) (Za Zk Zg))) (pv 2)))
   (Zh (Jc (PW.pt (ZaI (Zx (ZS (K:=K) hu) (Z8 J4 (Zq Zpn (hr.mono (by decide)) rfl (Za (pv 1) (Za Zk Zg))) Zk) Zk (Zz _)) (Qm (Zx Us (JD (ZL (K:=K)) (pv 3) (pv 4) (fun _ _=>rfl)) Zk (Zz _))))) (Zh (Zcj (Z8 J3 (JD (ZL (K:=K)) (pv 3) (pv 4) (fun _ _=>rfl)) Zk) (Zcl (pv 3) (pv 4) UN))
   (Zi (Zcj (Z8 J5 (JD (ZL (K:=K)) (pv 3) (Z8 J3 (pv 4) Zk) (fun _ _=>rfl)) Zk) (Zcl (pv 3) (Z8 J3 (pv 4) Zk) UN)))) Z5)
   (Zi (Zu (pv 3)))))) Z5)
   (Zh (JC (i:=3) Zq5.nd rfl (Vm rfl T.z_range (Za (pv 2) Zg)) (fun _ _ _ _=>(Z8 J4 (Zq Zpn (hr.mono (by decide)) rfl (Za (Zq ZvW (hr.mono (by decide)) rfl (Za (pv 0) (Za (pv 5) Zg))) (Za (pv 5) Zg))) (Z8 J5 (Z8 J4 (pv 5) Zk) Zk))) rfl)
   (Zh (Jc (Zx (ZS (K:=K) hu) (Z8 J4 (Zq Zpn (hr.mono (by decide)) rfl (Za (pv 1) (Za Zk Zg))) Zk) Zk (Zz _)) (Zi (Zcj (Z8 J5 (JD (ZL (K:=K)) (pv 3) Zk (fun _ _=>rfl)) (Z8 J4 (Zq ZvW (hr.mono (by decide)) rfl (Za (pv 0) (Za Zk Zg))) (Z8 Zj2 Zk Zk))) (Zcl (pv 3) Zk UN))) Z5)
   (Zi (Zu (pv 3))))))),
   (Zl (Γm:=[.S,.S,.P,.U,.U]) (ZP (i:=2) (J8 (DE.toA Zj) (DE.toA (J7 (DE.toA (Q1 (Zf (Zf Zm)) (Zb (Zc (i:=1) (m:=.S) rfl (by decide)) (Zb (DE.toA Zj) Ze)))) (DE.toA Zj)))) (by decide))
   (Zl (Γm:=[.S,.S,.P,.U,.U]) (Jd (Zw (DE.toA (ZM (g:=id) (DE.toA (J7 (DE.toA (Q1 (Zf (Zf Zm)) (Zb (Zc (i:=1) (m:=.S) rfl (by decide)) (Zb (DE.toA Zj) Ze)))) (DE.toA Zj))) (DE.toA Zj))))
   (Zl (Γm:=[.S,.S,.P,.O,.U]) (ZQ (i:=3) (VZ (DE.toA (UC (DE.toA (Zhz (Zf Zm) (Zb (DE.toA (J7 (DE.toA (Q1 (Zf (Zf Zm)) (Zb (Zc (i:=1) (m:=.S) rfl (by decide)) (Zb (DE.toA Zj) Ze)))) (DE.toA Zj))) Ze))) (DE.toA (Zk9 (Zb (DE.toA Zj) Ze) (DE.toA Zj))))) Vq (Vp (DE.toA (Zp (i:=2) rfl)))) (by decide))
   (Zl (Γm:=[.S,.S,.P,.O,.P]) (ZP (i:=4) (J7 (DE.toA (Q1 (Zf (Zf Zm)) (Zb (Zc (i:=1) (m:=.S) rfl (by decide)) (Zb (DE.toA Zj) Ze)))) (DE.toA (Zp (i:=2) rfl))) (by decide))
   (Zl (Γm:=[.S,.S,.P,.O,.P]) (Jd (ZaV (Zw (DE.toA (ZM (g:=id) (DE.toA (J7 (DE.toA (Q1 (Zf (Zf Zm)) (Zb (Zc (i:=1) (m:=.S) rfl (by decide)) (Zb (DE.toA Zj) Ze)))) (DE.toA Zj))) (DE.toA Zj)))) (Zw (DE.toA (Uu (Jf (te:=tC .non) (Zc (i:=3) (m:=.O) rfl (by decide)) (DE.toA (Zp (i:=4) rfl))) (DE.toA Zj)))))
   (Zl (Γm:=[.S,.S,.P,.O,.P]) (VY (i:=3) rfl (J6 (Jf (te:=tC .non) (Zc (i:=3) (m:=.O) rfl (by decide)) (DE.toA (Zp (i:=4) rfl))) (DE.toA Zj)) (DE.toA (Zp (i:=4) rfl)))
   (VY (i:=3) rfl (J8 (Jf (te:=tC .non) (Zc (i:=3) (m:=.O) rfl (by decide)) (DE.toA (J6 (DE.toA (Zp (i:=4) rfl)) (DE.toA Zj)))) (DE.toA Zj)) (DE.toA (J6 (DE.toA (Zp (i:=4) rfl)) (DE.toA Zj)))))
   Z6)
   (ZD (Qu (i:=3) rfl)))))
   Z6)
   (Zl (Γm:=[.S,.S,.P,.O,.U]) (JG (i:=3) (ZN (DI.c (U8 (Zb (DE.toA (Zp (i:=2) rfl)) Ze))) (DE.PF (J7 (DE.toA (Q1 (Zf (Zf Zm)) (Zb (DE.toA (Q1 (Zf (Zf Zm)) (Zb (Zc (i:=0) (m:=.S) rfl (by decide)) (Zb (Zc (i:=5) (m:=.S) rfl (by decide)) Ze)))) (Zb (Zc (i:=5) (m:=.S) rfl (by decide)) Ze)))) (DE.toA (J8 (DE.toA (J7 (Zc (i:=5) (m:=.S) rfl (by decide)) (DE.toA Zj))) (DE.toA Zj)))))) (by decide))
   (Zl (Γm:=[.S,.S,.P,.O,.U]) (Jd (Zw (DE.toA (ZM (g:=id) (DE.toA (J7 (DE.toA (Q1 (Zf (Zf Zm)) (Zb (Zc (i:=1) (m:=.S) rfl (by decide)) (Zb (DE.toA Zj) Ze)))) (DE.toA Zj))) (DE.toA Zj))))
   (VY (i:=3) rfl (J8 (Jf (te:=tC .non) (Zc (i:=3) (m:=.O) rfl (by decide)) (DE.toA Zj)) (DE.toA (J7 (DE.toA (Q1 (Zf (Zf Zm)) (Zb (Zc (i:=0) (m:=.S) rfl (by decide)) (Zb (DE.toA Zj) Ze)))) (DE.toA (ZjC (DE.toA Zj) (DE.toA Zj)))))) (DE.toA Zj))
   Z6)
   (ZD (Qu (i:=3) rfl)))))), ?_⟩
 refine Pm.ref Zp0 (g:=fun xs=>_) ?_
 rintro⟨ns,n⟩ (hn:ns.length<=63)
 simp only[Zp0]
 have hp:=Zbk n
 walk_at "pd"
 have M:∀k:Int,-1000000<=k/\k<=1000000->Zpc.fn [.int n,.int k]=.ok (.int (Vr n k)):=fun k h=>ZpH h
 rw[M 3 (by decide)]
 walk_at "pd"
 rw[show 2+Vr n 3%23=V9 n from rfl]
 rw[M 5 (by decide)]
 walk_at "pd"
 unfold ZhE
 by_cases h5:Vr n 5%2=0
 ·rw[decide_eq_true h5,if_pos h5]
  walk_at "pd"
  rw[M 7 (by decide)]
  walk_at "pd"
  have b0:=Zxu (Vr n 7) (show (151:Int)≠0 by decide)
  have b1:=Zxo (Vr n 7) (show (0:Int)<151 by decide)
  have hyl:(Zy (Vr n 7%151)).length<=200:=by rw[JM];exact Vt b0 (by lia)
  rw[ZqG ⟨b0,by lia⟩]
  walk_at "pd"
  rw[show List.take (V9 n).toNat (Zy (Vr n 7%151)++List.replicate 24 (0:Int))=hmD n from rfl]
  have hh:=Zhh n
  have a0:=Zxu (Vr n 9) (show V9 n≠0 by lia)
  have a1:=Zxo (Vr n 9) (show 0<V9 n by lia)
  walk_at "pd"
  rw[M 9 (by decide)]
  walk_at "pd"
  rw[show Vr n 9%V9 n=atD n from rfl] at a0 a1 ⊢
  rw[M 11 (by decide)]
  walk_at "pd"
  have hpn:((hmD n).length:Int)=V9 n:=by lia
  by_cases h11:Vr n 11%3=1
  ·rw[decide_eq_true h11]
   walk_at "pd"
   by_cases h12:0<(hmD n).getD (atD n).toNat 0
   ·rw[decide_eq_true h12]
    walk_at "pd"
    have hl2:((hmD n).set (atD n).toNat ((hmD n).getD (atD n).toNat 0-1)).length=(hmD n).length:=Zyd ..
    rw[Zix a0 (by lia)]
    walk_at "pd"
    rw[Zgr a0 (by lia)]
    walk_at "pd"
    rw[hl2,hpn,if_pos (show Vr n 11%3=1/\0<(hmD n).getD (atD n).toNat 0 from ⟨h11,h12⟩)]
    rfl
   ·rw[decide_eq_false h12]
    walk_at "pd"
    rw[if_neg (show ¬(Vr n 11%3=1/\0<(hmD n).getD (atD n).toNat 0) from fun z=>h12 z.2)]
  ·rw[decide_eq_false h11]
   walk_at "pd"
   rw[if_neg (show ¬(Vr n 11%3=1/\0<(hmD n).getD (atD n).toNat 0) from fun z=>h11 z.1)]
 ·rw[decide_eq_false h5,if_neg h5]
  walk_at "pd"
  rw[ZgQ (g:=fun k=>Vr (ns.getD k 0) k%((k:Int)%7+3)) (fun i hi=>by
   have y0:=Zxu (i:Int) (show (7:Int)≠0 by decide)
   rw[Zy7,ZrG (by lia),Zxt]
   walk_at "pd"
   rw[ZpH ⟨by lia,by lia⟩]
   walk_at "pd")]
  walk_at "pd"
  rw[show List.map (fun k:Nat=>Vr (ns.getD k 0) k%((k:Int)%7+3)) (List.range (V9 n).toNat)=ZfC ns n from rfl]
  have hd:=Qc ns n
  rw[M 13 (by decide)]
  walk_at "pd"
  by_cases h13:Vr n 13%4=1
  ·rw[decide_eq_true h13,if_pos h13]
   walk_at "pd"
   rw[ZrG (by decide)]
   walk_at "pd"
  ·rw[decide_eq_false h13,if_neg h13]
   walk_at "pd"
theorem ZqV{ns:List Int}{n:Int}(h:ns.length<=63):Zp0.fn [.lst (ns.map PV.int),.int n]=.ok (.lst ((ZhE ns n).map PV.int)):=Pm.fn_eq Zp0 (ns,n) h fun(a:List Int×Int) e=>by (simp only[Zp0,List.cons.injEq,PV.lst.injEq,PV.int.injEq,PV.str.injEq,PV.bl.injEq,PV.tup.injEq,Z3,and_true] at e ⊢;first|(simp only[e];done)|(subst e;rfl)|(rw[e]))
noncomputable def Zqv:Pm:=⟨Int,fun i=>[.int i],fun _=>True,fun _=>.ok (.bl true)⟩
theorem Zwb(T:Txt w K mg){f:Addr}{fd:FuncData}(F:Fun K "is_whole" "is_whole" Zqx f fd):Jv P w K mg base CX0 1 f fd ["value"] (spF K 1 .P W0 Zqv.fn):=by
 refine F.okP ZvX rfl rfl (fun cdv A outer s H E hr=>?_)
 have hu:=hr.units
 refine⟨_,_,⟨[],[],[],.P⟩,rfl,(Zi (Zu (ZaK (Zn (Jj (K:=K) (n := "int") rfl) rfl T.z_isinstance ZF (Za (pv 0) (Za (Vn (v:=.ty "int") rfl T.z_int ZhC rfl) Zg))) (ZaJ (ZlU (Zn (Jj (K:=K) (n := "bool") rfl) rfl T.z_isinstance ZF (Za (pv 0) (Za (Vn (v:=.ty "bool") rfl T.z_bool ZkO rfl) Zg)))))))),
   (Z7 (ZaY (DE.toA (Ua (Zc (i:=0) (m:=.S) rfl (by decide)))) (Zm5 (DE.toA (Ua (Zc (i:=0) (m:=.S) rfl (by decide))))))), ?_⟩
 refine Pm.ref Zqv (g:=fun xs=>_) ?_
 intro (i:Int) _
 simp only[Zqv]
 walk_at "pd"
theorem ZrD{i:Int}:Zqv.fn [.int i]=.ok (.bl true):=Pm.fn_eq Zqv i trivial fun _ _=>rfl
noncomputable def ZoM:Pm:=⟨Int×Int,fun a=>[.int a.1,.int a.2],fun _=>True,fun a=>.ok (.bl (decide (a.2<=a.1)))⟩
theorem Zsa(T:Txt w K mg){f:Addr}{fd:FuncData}(F:Fun K "is_whole_from" "is_whole_from" ZoW f fd):Jv P w K mg base CX0 2 f fd ["value", "least"] (spF K 2 .P W0 ZoM.fn):=by
 have Zw9:=VD (P:=P) (w:=w) (base:=base) T.Zw2 Zwm (fun F=>Zwb T F)
 refine F.okP Zul rfl rfl (fun cdv A outer s H E hr=>?_)
 have hu:=hr.units
 refine⟨_,_,⟨[],[],[],.P⟩,rfl,(Zi (Zu (ZaK (Zq Zw9 (hr.mono (by decide)) rfl (Za (pv 0) Zg)) (ZaJ (Jh Znt (pv 0) (pv 1) (Zz _)))))),
   (Z7 (ZaY (DE.toA (Q1 (Zf Zm) (Zb (Zc (i:=0) (m:=.S) rfl (by decide)) Ze))) (Zn5 (Zc (i:=0) (m:=.S) rfl (by decide)) (Zc (i:=1) (m:=.S) rfl (by decide))))), ?_⟩
 refine Pm.ref ZoM (g:=fun xs=>_) ?_
 rintro⟨i,j⟩ _
 simp only[ZoM]
 walk_at "pd"
 rw[ZrD]
 walk_at "pd"
theorem Zp3{i j:Int}:ZoM.fn [.int i,.int j]=.ok (.bl (decide (j<=i))):=Pm.fn_eq ZoM (i,j) trivial fun(a:Int×Int) e=>by (simp only[ZoM,List.cons.injEq,PV.lst.injEq,PV.int.injEq,PV.str.injEq,PV.bl.injEq,PV.tup.injEq,Z3,and_true] at e ⊢;first|(simp only[e];done)|(subst e;rfl)|(rw[e]))
theorem QB:ZoM.calm:=fun a q h=>by (simp only[ZoM] at h;cases h)
noncomputable def ZoI:Pm:=⟨List Int,fun ns=>[.lst (ns.map PV.int)],fun ns=>ns.length<=1000000,fun ns=>.ok (.bl (decide (∀x∈ns,0<=x)))⟩
theorem ZqA(T:Txt w K mg){f:Addr}{fd:FuncData}(F:Fun K "is_list_from_nought" "is_list_from_nought" ZoK f fd):Jv P w K mg base CX0 3 f fd ["values"] (spF K 1 .P W0 ZoI.fn):=by
 have Zrs:=VD (P:=P) (w:=w) (base:=base) T.ZsB Zsb (fun F=>Zsa T F)
 refine F.okP Zq9 rfl rfl (fun cdv A outer s H E hr=>?_)
 have hu:=hr.units
 refine⟨_,_,⟨[],[],[],.P⟩,rfl,(Zi (Zu (ZaK (Zn (Jj (K:=K) (n := "list") rfl) rfl T.z_isinstance ZF (Za (pv 0) (Za (Vn (v:=.ty "list") rfl T.z_list Ub rfl) Zg))) (ZaJ (Zn (Qe (K:=K) rfl) rfl T.z_all ZeG (Za (Jk (Jq (K:=K) (pv 0)) (fun _ _ _ _=>(Zq Zrs (hr.mono (by decide)) rfl (Za (pv 1) (Za Zk Zg)))) Zq9.nd rfl) Zg)))))),
   (Z7 (ZaY (DE.toA (Ua (Zc (i:=0) (m:=.S) rfl (by decide)))) (ZeB (Zb (DE.toA (ZN (DI.c (U9 (Zao (i:=0) rfl))) (DE.PF (Q1 (Zf (Zf Zm)) (Zb (Zc (i:=1) (m:=.S) rfl (by decide)) (Zb (DE.toA Zj) Ze)))))) Ze)))), ?_⟩
 refine Pm.ref ZoI (g:=fun xs=>_) ?_
 intro (ns:List Int) (hn:ns.length<=1000000)
 simp only[ZoI]
 walk_at "pd"
 rw[Zks (g:=fun z=>decide (0<=z)) (fun z _=>Zp3)]
 walk_at "pd"
 rw[ZkZ]
theorem ZoR{ns:List Int}(h:ns.length<=1000000):ZoI.fn [.lst (ns.map PV.int)]=.ok (.bl (decide (∀x∈ns,0<=x))):=Pm.fn_eq ZoI ns h fun(a:List Int) e=>by (simp only[ZoI,List.cons.injEq,PV.lst.injEq,PV.int.injEq,PV.str.injEq,PV.bl.injEq,PV.tup.injEq,Z3,and_true] at e ⊢;first|(simp only[e];done)|(subst e;rfl)|(rw[e]))
theorem VL:ZoI.calm:=fun a q h=>by (simp only[ZoI] at h;cases h)
noncomputable def ZpJ:Pm:=⟨Unit,fun _=>[],fun _=>True,fun _=>.ok (.int (10^60))⟩
theorem Zt8(T:Txt w K mg){f:Addr}{fd:FuncData}(F:Fun K "most_seeds" "most_seeds" Zp7 f fd):Jv P w K mg base CX0 1 f fd [] (spF K 0 .P W0 ZpJ.fn):=by
 refine F.okP Zvc rfl rfl (fun cdv A outer s H E hr=>?_)
 have hu:=hr.units
 refine⟨_,_,⟨[],[],[],.P⟩,rfl,(Zi (Zu (Z8 Zj2 Zk Zk))),
   (Z7 (ZjC (DE.toA Zj) (DE.toA Zj))), ?_⟩
 refine Pm.ref ZpJ (g:=fun xs=>_) ?_
 rintro _ _
 simp only[ZpJ]
 walk_at "pd"
theorem Zq2:ZpJ.fn []=.ok (.int (10^60)):=Pm.fn_eq ZpJ () trivial fun _ _=>rfl
noncomputable def Zp2:Pm:=⟨List Int,fun ns=>[.lst (ns.map PV.int)],fun ns=>ns.length<=1000,fun ns=>.ok (.bl (Vy ns))⟩
theorem Zwd(T:Txt w K mg){f:Addr}{fd:FuncData}(F:Fun K "is_board" "is_board" Zqz f fd):Jv P w K mg base CX0 4 f fd ["board"] (spF K 1 .P W0 Zp2.fn):=by
 have Zqk:=VD (P:=P) (w:=w) (base:=base) T.ZqO ZqB (fun F=>ZqA T F)
 have ZsQ:=VD (P:=P) (w:=w) (base:=base) T.Zui ZtC (fun F=>Zt8 T F)
 refine F.okP ZvZ rfl rfl (fun cdv A outer s H E hr=>?_)
 have hu:=hr.units
 refine⟨_,_,⟨[],[],[],.P⟩,rfl,(Zh (Jc (UP (Vj (Zq Zqk (hr.mono (by decide)) rfl (Za (pv 0) Zg)))) (Zi (Zu Zde)) Z5)
   (Zh (Jc (PW.pt (Zbi (Zx Zi3 (Zn (Z4 (K:=K)) rfl T.z_len ZX (Za (pv 0) Zg)) (Ui T.c_FEWEST_PITS rfl) (Zz _)) (QX (Zx Us (Zn (Z4 (K:=K)) rfl T.z_len ZX (Za (pv 0) Zg)) (Ui T.c_MOST_PITS rfl) (Zz _))))) (Zi (Zu Zde)) Z5)
   (Zi (Zu (Jh Zkm (Zn (Jo (K:=K) rfl) rfl T.z_sum Uz (Za (pv 0) Zg)) (Zcm ZsQ (hr.mono (by decide)) rfl) (Zz _)))))),
   (Zl (Γm:=[.S]) (Jd (Qb (ZcC (DE.toA (Q1 (Zf Zm) (Zb (Zc (i:=0) (m:=.S) rfl (by decide)) Ze)))))
   (Z7 Zd1)
   Z6)
   (Zl (Γm:=[.S]) (Jd (Zb6 (Zw (DE.toA (ZiQ (DE.toA (Jb (Zb (Zc (i:=0) (m:=.S) rfl (by decide)) Ze))) (DE.toA Zj)))) (Zw (DE.toA (Uu (DE.toA (Jb (Zb (Zc (i:=0) (m:=.S) rfl (by decide)) Ze))) (DE.toA Zj)))))
   (Z7 Zd1)
   Z6)
   (Z7 (ZkE (DE.toA (Ux (Zb (Zc (i:=0) (m:=.S) rfl (by decide)) Ze))) (DE.toA (Q1 Zm Ze)))))), ?_⟩
 refine Pm.ref Zp2 (g:=fun xs=>_) ?_
 intro (ns:List Int) (hn:ns.length<=1000)
 simp only[Zp2]
 walk_at "pd"
 rw[ZoR (by lia)]
 walk_at "pd"
 by_cases h3:∀x∈ns,0<=x
 ·rw[decide_eq_true h3]
  walk_at "pd"
  by_cases h1:(ns.length:Int)<2
  ·rw[decide_eq_true h1]
   walk_at "pd"
   rw[show Vy ns=false from decide_eq_false (by lia)]
  rw[decide_eq_false h1]
  walk_at "pd"
  by_cases h2:(24:Int)<ns.length
  ·rw[decide_eq_true h2]
   walk_at "pd"
   rw[show Vy ns=false from decide_eq_false (by lia)]
  rw[decide_eq_false h2]
  walk_at "pd"
  rw[Zq2]
  walk_at "pd"
  by_cases h4:ns.sum<=10^60
  ·rw[decide_eq_true h4,Qw.mpr ⟨by lia,by lia,h3,h4⟩]
  ·rw[decide_eq_false h4,show Vy ns=false from decide_eq_false (fun z=>h4 z.2.2.2)]
 ·rw[decide_eq_false h3]
  walk_at "pd"
  rw[show Vy ns=false from decide_eq_false (fun z=>h3 z.2.2.1)]
theorem ZrF{ns:List Int}(h:ns.length<=1000):Zp2.fn [.lst (ns.map PV.int)]=.ok (.bl (Vy ns)):=Pm.fn_eq Zp2 ns h fun(a:List Int) e=>by (simp only[Zp2,List.cons.injEq,PV.lst.injEq,PV.int.injEq,PV.str.injEq,PV.bl.injEq,PV.tup.injEq,Z3,and_true] at e ⊢;first|(simp only[e];done)|(subst e;rfl)|(rw[e]))
theorem Zdg:Zp2.calm:=fun a q h=>by (simp only[Zp2] at h;cases h)
noncomputable def Zpj:Pm:=⟨List Int,fun ns=>[.lst (ns.map PV.int)],fun ns=>ns.length<=1000,fun ns=>orX (if Vy ns=true then none else some "BadBoard") .non⟩
theorem ZsU(T:Txt w K mg){f:Addr}{fd:FuncData}(F:Fun K "check_board" "check_board" Zpr f fd):Jv P w K mg base (CX1 P w) 5 f fd ["board"] (spF K 1 .P (W1 K) Zpj.fn):=by
 have ZwB:=VD (P:=P) (w:=w) (base:=base) T.Zw4 Zwo (fun F=>Zwd T F)
 obtain⟨C_BadBoard,hC_BadBoard,hQ_BadBoard⟩:=Ud T.x_exc (n := "BadBoard") (by decide)
 refine F.okX ZuM rfl rfl (fun cdv A outer s H E hr=>?_)
 have hu:=hr.units
 refine⟨_,_,⟨[.S],[],[],.P⟩,rfl,(Zi (Jc (UP (Vj (Zq ZwB (hr.mono (by decide)) rfl (Za (pv 0) Zg)))) (Zi (Uh Qr hQ_BadBoard rfl (T.x_mg _ _ hC_BadBoard) rfl (Za ZJ Zg))) Z5)),
   (Jd (Qb (ZcC (DE.toA (Zk4 (Zf Zm) (Pm.calm_fn Zdg) (Zb (Zc (i:=0) (m:=.S) rfl (by decide)) Ze)))))
   (Uq hC_BadBoard (Zf Zm) (by decide) (Zb (DE.toA ZI) Ze))
   Z6), ?_⟩
 refine Pm.ref Zpj (g:=fun xs=>_) ?_
 intro (ns:List Int) (hn:ns.length<=1000)
 simp only[Zpj]
 walk_at "pu"
 rw[ZrF hn]
 walk_at "pu"
 by_cases h:Vy ns=true
 ·rw[h];walk_at "pu";rfl
 ·rw[Bool.not_eq_true] at h
  rw[h];walk_at "pu";rfl
theorem Zqm{ns:List Int}(h:ns.length<=1000):Zpj.fn [.lst (ns.map PV.int)]=orX (if Vy ns=true then none else some "BadBoard") .non:=Pm.fn_eq Zpj ns h fun a e=>by
 simp only[Zpj,List.cons.injEq,PV.lst.injEq,and_true] at e ⊢
 rw[UZ e]
theorem Zel{n m:Int}(hn:0<=n/\n<10^110)(hm:0<=m/\m<10^110)(e:JK n=JK m):n=m:=by
 have l1:=U3 (k:=110) hn.1 (by decide) hn.2
 have l2:=U3 (k:=110) hm.1 (by decide) hm.2
 have e1:=Zbs hn.1 (by lia)
 have e2:=Zbs hm.1 (by lia)
 rw[e] at e1
 rw[e1] at e2
 exact Option.some.inj e2
noncomputable def ZnC:Type:={n:Int // 0<=n/\n<10^110}
noncomputable def ZoH:Pm:=⟨ZnC,fun n=>[.str (JK n.1)],fun _=>True,fun n=>.ok (.int (ZfD n.1))⟩
theorem Zs0(T:Txt w K mg){f:Addr}{fd:FuncData}(F:Fun K "number_or_too_many" "number_or_too_many" ZoL f fd):Jv P w K mg base CX0 2 f fd ["word"] (spF K 1 .P W0 ZoH.fn):=by
 have ZsQ:=VD (P:=P) (w:=w) (base:=base) T.Zui ZtC (fun F=>Zt8 T F)
 refine F.okP Zse rfl rfl (fun cdv A outer s H E hr=>?_)
 have hu:=hr.units
 refine⟨_,_,⟨[],[],[],.P⟩,rfl,(Zh (Jc (Zx Us (Zn ZcI rfl T.z_len ZX (Za (pv 0) Zg)) (Ui T.c_MOST_FIGURES rfl) (Zz _)) (Zi (Zu (Z8 J5 (Zcm ZsQ (hr.mono (by decide)) rfl) Zk))) Z5)
   (Zi (Zu (J0 ZhA rfl T.z_int ZhC (Za (pv 0) Zg))))),
   (Zl (Γm:=[.S]) (Jd (Zw (DE.toA (Uu (DE.toA (ZkD (Zb (Zc (i:=0) (m:=.S) rfl (by decide)) Ze))) (DE.toA Zj))))
   (Z7 (J8 (DE.toA (Q1 Zm Ze)) (DE.toA Zj)))
   Z6)
   (Z7 (ZkF (Zb (Zc (i:=0) (m:=.S) rfl (by decide)) Ze)))), ?_⟩
 refine Pm.ref ZoH (g:=fun xs=>_) ?_
 rintro⟨n,h0,h1⟩ -
 simp only[ZoH]
 have hl:=U3 (k:=110) h0 (by decide) h1
 walk_at "pd"
 rw[Zgy (by lia)]
 walk_at "pd"
 by_cases c:n<10^61
 ·rw[decide_eq_false (fun z=>(Zh6 h0).mp z c)]
  walk_at "pd"
  rw[Zg2 h0 (by lia),show ZfD n=n from if_pos c]
  walk_at "pd"
 ·rw[decide_eq_true ((Zh6 h0).mpr c)]
  walk_at "pd"
  rw[Zq2]
  walk_at "pd"
  rw[show ZfD n=10^60+1 from if_neg c]
theorem ZoZ{n:Int}(h:0<=n/\n<10^110):ZoH.fn [.str (JK n)]=.ok (.int (ZfD n)):=Pm.fn_eq ZoH (⟨n,h⟩:ZnC) trivial fun(b:ZnC) e=>by
 obtain⟨m,hm⟩:=b
 simp only[ZoH,List.cons.injEq,PV.str.injEq,and_true] at e ⊢
 rw[Zel hm h e]
theorem VR:ZoH.calm:=fun a q h=>by (simp only[ZoH] at h;cases h)
theorem Zkw:PyData.canLay0 (.str ("0":Str))=true:=by unfold PyData.canLay0 PyData.strOk;rw[<- Zyr];decide
theorem Znw:PyData.canLay0 (.str ("":Str))=true:=by unfold PyData.canLay0 PyData.strOk;rw[<- Zyr];decide
noncomputable def Zpy:Pm:=⟨Int,fun n=>[.str (JK n)],fun n=>0<=n/\n<10^110,fun _=>.ok (.bl true)⟩
theorem Zv5(T:Txt w K mg){f:Addr}{fd:FuncData}(F:Fun K "is_number" "is_number" Zqa f fd):Jv P w K mg base CX0 1 f fd ["word"] (spF K 1 .P W0 Zpy.fn):=by
 refine F.okP Zuf rfl rfl (fun cdv A outer s H E hr=>?_)
 have hu:=hr.units
 refine⟨_,_,⟨[],[],[],.P⟩,rfl,(Zh (Jc (PW.pt (Zbi (Zx (ZS (K:=K) hu) (pv 0) ZJ (Zz _)) (QX (UP (Vj (Zn (Qe (K:=K) rfl) rfl T.z_all ZeG (Za (Jk (ZlP (pv 0)) (fun _ _ _ _=>(Jh Zg8 (pv 1) (Zij T.c_FIGURES rfl) rfl)) Zuf.nd rfl) Zg))))))) (Zi (Zu Zde)) Z5)
   (Zi (Zu (Znk (Jh (ZS (K:=K) hu) (pv 0) ZJ (Zz _)) (ZaJ (Jh (Zeg (K:=K) hu) (JD Zj6 (pv 0) Zk (fun _ _=>rfl)) ZJ (Zz _))))))),
   (Zl (Γm:=[.S]) (Jd (Zb6 (Zw (DE.toA (ZM (g:=id) (Zc (i:=0) (m:=.S) rfl (by decide)) (DE.toA ZI)))) (Qb (ZcC (DE.toA (ZeB (Zb (DE.toA (ZN (DI.c (Zm4 (Zc (i:=0) (m:=.S) rfl (by decide)))) (DE.PF (Zm7 (Zc (i:=1) (m:=.S) rfl (by decide)) (DE.toA ZI))))) Ze))))))
   (Z7 Zd1)
   Z6)
   (Z7 (Zn3 (DE.toA (ZM (g:=id) (Zc (i:=0) (m:=.S) rfl (by decide)) (DE.toA ZI))) (ZM (g:=(!·)) (DE.toA (Zm6 (Zc (i:=0) (m:=.S) rfl (by decide)) (DE.toA Zj))) (DE.toA ZI))))), ?_⟩
 refine Pm.ref Zpy (g:=fun xs=>_) ?_
 rintro(n:Int) ⟨h0,h1⟩
 simp only[Zpy]
 walk_at "pd"
 rw[Zbp h0 Znw,Zkp h0]
 walk_at "pd"
 have hl:=U3 (k:=110) h0 (by decide) h1
 have hd:=Uj h0
 rw[Zbr] at hl
 rw[ZkX]
 generalize hcs:(JK n).cps.toList=cs at hl hd
 walk_at "pd"
 rw[Zaf (g:=fun _=>PV.bl true) (fun x hx=>by
  obtain⟨c,hc,rfl⟩:=Zxr.mp hx
  show Rr.ok (PV.bl (inS ⟨#[c]⟩ Znz))=_
  rw[Zm0 (hd c hc)])]
 rw[show (cs.map fun c=>PV.str ⟨#[c]⟩).map (fun _=>PV.bl true)=(cs.map fun _=>true).map PV.bl by rw[ZxD,ZxD];rfl]
 walk_at "pd"
 rw[show (cs.map fun _=>true).all id=true by simp]
 walk_at "pd"
 by_cases c:n=0
 ·rw[Zbp h0 Zkw,c,Zmd]
  walk_at "pd"
 ·rw[Zbp h0 Zkw,ZgE h0 c]
  obtain⟨d,e1,e2,e3⟩:=Zfg h0 c
  walk_at "pd"
  rw[show ZmM (.str (JK n)) (.int 0)=.ok (.str ⟨#[d]⟩) by
   unfold ZmM
   simp only[e1]
   rw[if_pos (by rw[Zbr,hcs];lia)]]
  walk_at "pd"
  rw[VT (by unfold PyData.canLay0 PyData.strOk;rw[<- Zyr];simp;lia) Zkw,e2]
  walk_at "pd"
theorem Zro{n:Int}(h:0<=n/\n<10^110):Zpy.fn [.str (JK n)]=.ok (.bl true):=Pm.fn_eq Zpy n h fun _ _=>rfl
theorem Zco:Zpy.calm:=fun a q h=>by (simp only[Zpy] at h;cases h)
theorem Zc1{l m:List Int}(hl:l≠[]/\∀x∈l,0<=x/\x<10^110)(hm:m≠[]/\∀x∈m,0<=x/\x<10^110)(e:Jn l=Jn m):l=m:=by
 have e1:=ZfY hl.1 fun x hx=>(hl.2 x hx).1
 have e2:=ZfY hm.1 fun x hx=>(hm.2 x hx).1
 rw[e,e2] at e1
 have key:∀{l m:List Int},(∀x∈l,0<=x/\x<10^110)->(∀x∈m,0<=x/\x<10^110)->m.map JK=l.map JK->l=m:=by
  intro l
  induction l with
  |nil=>intro m _ _ h;cases m with|nil=>rfl|cons a m=>cases h
  |cons a l ih =>
   intro m h1 h2 h
   cases m with
   |nil=>cases h
   |cons b m =>
    rw[Zxf,Zxf] at h
    obtain⟨q1,q2⟩:=List.cons.inj h
    rw[Zel (h2 b (by simp)) (h1 a (by simp)) q1,ih (fun x hx=>h1 x (by simp[hx])) (fun x hx=>h2 x (by simp[hx])) q2]
 exact key hl.2 hm.2 e1
noncomputable def Zn9:Type:={l:List Int // (l≠[]/\∀x∈l,0<=x/\x<10^110)/\l.length<=100}
noncomputable def Zpw:Pm:=⟨Zn9,fun l=>[.str (Jn l.1)],fun _=>True,fun l=>orX (if Vy (l.1.map ZfD)=true then none else some "BadBoard") (.lst ((l.1.map ZfD).map PV.int))⟩
theorem Zvf(T:Txt w K mg){f:Addr}{fd:FuncData}(F:Fun K "read_board" "read_board" Zp6 f fd):Jv P w K mg base (CX1 P w) 6 f fd ["text"] (spF K 1 .F (W1 K) Zpw.fn):=by
 have ZrZ:=Qq (P:=P) (w:=w) (base:=base) T.ZtB ZsW (fun F=>ZsU T F)
 have ZsS:=VD (P:=P) (w:=w) (base:=base) T.ZsR ZsF (fun F=>Zs0 T F)
 have Zws:=VD (P:=P) (w:=w) (base:=base) T.Zwh ZvL (fun F=>Zv5 T F)
 obtain⟨C_BadText,hC_BadText,hQ_BadText⟩:=Ud T.x_exc (n := "BadText") (by decide)
 refine F.okX Zre rfl rfl (fun cdv A outer s H E hr=>?_)
 have hu:=hr.units
 refine⟨_,_,⟨[],[],[],.F⟩,rfl,(Zh (ZA (i:=1) Zre.nd rfl (by first|exact Or.inl rfl|exact Or.inr rfl) (Zax PySem.F.plainAttrs_str PySem.F.slot_str_split PySem.F.type_str_split Zbu (pv 0) (Za ZJ Zg)))
   (Zh (Jc (UP (Vj (Zn (Qe (K:=K) rfl) rfl T.z_all ZeG (Za (Jk (Jq (K:=K) (pv 1)) (fun _ _ _ _=>(Zq Zws (hr.mono (by decide)) rfl (Za (pv 3) Zg))) Zre.nd rfl) Zg)))) (Zi (Uh Qr hQ_BadText rfl (T.x_mg _ _ hC_BadText) rfl (Za ZJ Zg))) Z5)
   (Zh (JC (i:=2) Zre.nd rfl (Jq (K:=K) (pv 1)) (fun _ _ _ _=>(Zq ZsS (hr.mono (by decide)) rfl (Za (pv 3) Zg))) rfl)
   (Zh (V8 (JJ ZrZ (hr.mono (by decide)) rfl VB (Za (pv 2) Zg)))
   (Zi (Zu (pv 2))))))),
   (Zl (Γm:=[.S,.O,.U]) (ZQ (i:=1) (ZbD (Zc (i:=0) (m:=.S) rfl (by decide)) (Zb (DE.toA ZI) Ze)) (by decide))
   (Zl (Γm:=[.S,.O,.U]) (Jd (Qb (ZcC (DE.toA (ZeB (Zb (DE.toA (ZN (Qd (Zc (i:=1) (m:=.O) rfl (by decide))) (DE.PF (Zk4 (Zf Zm) (Pm.calm_fn Zco) (Zb (Zc (i:=3) (m:=.S) rfl (by decide)) Ze))))) Ze)))))
   (Uq hC_BadText (Zf Zm) (by decide) (Zb (DE.toA ZI) Ze))
   Z6)
   (Zl (Γm:=[.S,.O,.O]) (JG (i:=2) (ZN (Qd (Zc (i:=1) (m:=.O) rfl (by decide))) (DE.PF (Zk4 (Zf Zm) (Pm.calm_fn VR) (Zb (Zc (i:=3) (m:=.S) rfl (by decide)) Ze)))) (by decide))
   (Zl (Γm:=[.S,.O,.O]) (Zb7 (DE.toA (ZmT (Zf Zm) (Zb (Zc (i:=2) (m:=.O) rfl (by decide)) Ze))))
   (ZD (Qu (i:=2) rfl)))))), ?_⟩
 refine Pm.ref Zpw (g:=fun xs=>_) ?_
 rintro⟨l,⟨hn,hb⟩,hl⟩ -
 simp only[Zpw]
 walk_at "pd"
 rw[Zfb hn hb hl]
 walk_at "pd"
 rw[show ZkW (.lst ((l.map JK).map PV.str))=.ok ((l.map JK).map PV.str) from if_pos VX]
 walk_at "pd"
 rw[Zaf (g:=fun _=>PV.bl true) (fun x hx=>by
  rw[ZxD] at hx
  obtain⟨n,hn',rfl⟩:=Zxr.mp hx
  exact Zro (hb n hn'))]
 rw[show ((l.map JK).map PV.str).map (fun _=>PV.bl true)=(l.map fun _=>true).map PV.bl by rw[ZxD,ZxD,ZxD];rfl]
 walk_at "pd"
 rw[show (l.map fun _=>true).all id=true by simp]
 walk_at "pd"
 rw[show ZkW (.lst ((l.map JK).map PV.str))=.ok ((l.map JK).map PV.str) from if_pos VX]
 walk_at "pd"
 rw[show Zay (fun x=>ZoH.fn [x]) ((l.map JK).map PV.str)=.ok ((l.map ZfD).map PV.int) by
  clear hn hl
  induction l with
  |nil=>rfl
  |cons a l ih =>
   rw[Zxf,Zxf,Zay,ZoZ (hb a (by simp)),ih fun x hx=>hb x (by simp[hx])]
   rfl]
 walk_at "pd"
 rw[Zqm (by rw[Zxc];lia)]
 by_cases h:Vy (l.map ZfD)=true
 ·rw[if_pos h]
  walk_at "pd"
 ·rw[if_neg h]
  walk_at "pd"
theorem ZqQ{l:List Int}(h:(l≠[]/\∀x∈l,0<=x/\x<10^110)/\l.length<=100):Zpw.fn [.str (Jn l)]=orX (if Vy (l.map ZfD)=true then none else some "BadBoard") (.lst ((l.map ZfD).map PV.int)):=Pm.fn_eq Zpw (⟨l,h⟩:Zn9) trivial fun(b:Zn9) e=>by
 obtain⟨m,hm⟩:=b
 simp only[Zpw,List.cons.injEq,PV.str.injEq,and_true] at e ⊢
 have:=Zc1 hm.1 h.1 e
 subst this
 rfl
def Zjf(x:PV):Prop:=(∃s,x=.str s)\/∃i,x=.int i
noncomputable def JO:Pm:=⟨PV,fun x=>[x],fun x=>Zjf x,fun x=>.ok x⟩
theorem Zc8(T:Txt w K mg){f:Addr}{fd:FuncData}(F:Fun K "copy_of" "copy_of" Zqr f fd):Jv P w K mg base CX0 2 f fd ["value"] (spF K 1 .F W0 JO.fn):=by
 refine F.okP Zql rfl rfl (fun cdv A outer s H E hr=>?_)
 have hu:=hr.units
 refine⟨_,_,⟨[],[],[],.F⟩,rfl,(Zh (Jc (Vj (Zn (Jj (K:=K) (n := "list") rfl) rfl T.z_isinstance ZF (Za (pv 0) (Za (Vn (v:=.ty "list") rfl T.z_list Ub rfl) Zg)))) (Zi (Zu (Jk (Zbl (K:=K) (pv 0)) (fun _ _ _ _=>Zdd) Zql.nd rfl))) Z5)
   (Zh (Jc (Vj (Zn (Jj (K:=K) (n := "tuple") rfl) rfl T.z_isinstance ZF (Za (pv 0) (Za (Vn (v:=.ty "tuple") rfl T.z_tuple QL rfl) Zg)))) (Zi (Zu (J0 (UE (K:=K)) rfl T.z_tuple Zas (Za (Jk (Zbl (K:=K) (pv 0)) (fun _ _ _ _=>Zdd) Zql.nd rfl) Zg)))) Z5)
   (Zi (Zu (pv 0))))),
   (Zl (Γm:=[.S]) (Jd (ZcC (DE.toA (Ua (Zc (i:=0) (m:=.S) rfl (by decide)))))
   (ZD (ZN (DI.c (Ze7 (DE.PZ (DE.grd (Zc (i:=0) (m:=.S) rfl (by decide)))))) Zdz))
   Z6)
   (Zl (Γm:=[.S]) (Jd (ZcC (DE.toA (Ua (Zc (i:=0) (m:=.S) rfl (by decide)))))
   (ZD (Zap (ZN (DI.c (Ze7 (DE.PZ (DE.grd (Zc (i:=0) (m:=.S) rfl (by decide)))))) Zdz)))
   Z6)
   (ZD (DE.PF (DE.grd (Zc (i:=0) (m:=.S) rfl (by decide))))))), ?_⟩
 refine Pm.ref JO (g:=fun xs=>_) ?_
 rintro(x:PV) (h:Zjf x)
 simp only[JO]
 rcases h with ⟨s,rfl⟩|⟨i,rfl⟩
 ·walk_at "pd"
  rw[show Zfd "list" (.str s)=.ok (.bl false) from rfl]
  walk_at "pd"
  rw[show Zfd "tuple" (.str s)=.ok (.bl false) from rfl]
  walk_at "pd"
 ·walk_at "pd"
  rw[show UY (Vi (.int i)) "list"=false from rfl]
  walk_at "pd"
  rw[show UY (Vi (.int i)) "tuple"=false from rfl]
  walk_at "pd"
theorem Zd5{x:PV}(h:Zjf x):JO.fn [x]=.ok x:=Pm.fn_eq JO x h fun(a:PV) e=>by (cases e;rfl)
def QE(x:PV):Prop:=(∃ns:List Int,ns.length<=100000/\x=.fz (ns.map PV.int))\/Zjf x
theorem QE.flat{x:PV}(h:QE x):x.flat=true:=by
 rcases h with ⟨ns,_,rfl⟩|⟨s,rfl⟩|⟨i,rfl⟩
 ·exact PV.flats_ints ns
 ·rfl
 ·rfl
noncomputable def JP:Pm:=⟨PV,fun x=>[x],fun x=>QE x,fun x=>.ok (thw x)⟩
theorem Zc9(T:Txt w K mg){f:Addr}{fd:FuncData}(F:Fun K "copy_of" "copy_of" Zqr f fd):Jv P w K mg base CX0 3 f fd ["value"] (spF K 1 .F W0 JP.fn):=by
 have G_copy_of_2:=VD (P:=P) (w:=w) (base:=base) T.ZuA ZtY (fun F=>Zc8 T F)
 refine F.okP Zql rfl rfl (fun cdv A outer s H E hr=>?_)
 have hu:=hr.units
 refine⟨_,_,⟨[],[],[],.F⟩,rfl,(Zh (Jc (Vj (Zn (Jj (K:=K) (n := "list") rfl) rfl T.z_isinstance ZF (Za (pv 0) (Za (Vn (v:=.ty "list") rfl T.z_list Ub rfl) Zg)))) (Zi (Zu (Jk (Jq (K:=K) (pv 0)) (fun _ _ _ _=>(Zq G_copy_of_2 (hr.mono (by decide)) rfl (Za (pv 1) Zg))) Zql.nd rfl))) Z5)
   (Zh (Jc (Vj (Zn (Jj (K:=K) (n := "tuple") rfl) rfl T.z_isinstance ZF (Za (pv 0) (Za (Vn (v:=.ty "tuple") rfl T.z_tuple QL rfl) Zg)))) (Zi (Zu (J0 (UE (K:=K)) rfl T.z_tuple Zas (Za (Jk (Jq (K:=K) (pv 0)) (fun _ _ _ _=>(Zq G_copy_of_2 (hr.mono (by decide)) rfl (Za (pv 1) Zg))) Zql.nd rfl) Zg)))) Z5)
   (Zi (Zu (pv 0))))),
   (Zl (Γm:=[.S]) (Jd (ZcC (DE.toA (Ua (Ze8 (Zc (i:=0) (m:=.S) rfl (by decide))))))
   (ZD (ZN (Qd (Ze8 (Zc (i:=0) (m:=.S) rfl (by decide)))) (Zhz (Zf Zm) (Zb (Zc (i:=1) (m:=.S) rfl (by decide)) Ze))))
   Z6)
   (Zl (Γm:=[.S]) (Jd (ZcC (DE.toA (Ua (Ze8 (Zc (i:=0) (m:=.S) rfl (by decide))))))
   (ZD (Zap (ZN (Qd (Ze8 (Zc (i:=0) (m:=.S) rfl (by decide)))) (Zhz (Zf Zm) (Zb (Zc (i:=1) (m:=.S) rfl (by decide)) Ze)))))
   Z6)
   (ZD (DE.PF (DE.grd (Zc (i:=0) (m:=.S) rfl (by decide))))))), ?_⟩
 refine Pm.ref JP (g:=fun xs=>_) ?_
 rintro(x:PV) (h:QE x)
 simp only[JP]
 rcases h with ⟨ns,hn,rfl⟩|⟨s,rfl⟩|⟨i,rfl⟩
 ·walk_at "pd"
  rw[Zlx,show Zfd "list" (.lst (ns.map PV.int))=.ok (.bl true) from rfl,show ZkW (.lst (ns.map PV.int))=.ok (ns.map PV.int) from if_pos (PV.flats_ints ns)]
  walk_at "pd"
  rw[Zaf (g:=fun x=>x) (fun x hx=>by
   obtain⟨i,_,rfl⟩:=Zxr.mp hx
   exact Zd5 (.inr ⟨i,rfl⟩)),List.map_id']
  walk_at "pd"
 ·walk_at "pd"
  rw[show thw (.str s)=.str s from rfl,show Zfd "list" (.str s)=.ok (.bl false) from rfl]
  walk_at "pd"
  rw[show thw (.str s)=.str s from rfl,show Zfd "tuple" (.str s)=.ok (.bl false) from rfl]
  walk_at "pd"
 ·walk_at "pd"
  rw[show thw (.int i)=.int i from rfl,show Zfd "list" (.int i)=.ok (.bl false) from rfl]
  walk_at "pd"
  rw[show thw (.int i)=.int i from rfl,show Zfd "tuple" (.int i)=.ok (.bl false) from rfl]
  walk_at "pd"
theorem Zd6{x:PV}(h:QE x):JP.fn [x]=.ok (thw x):=Pm.fn_eq JP x h fun(a:PV) e=>by (cases e;rfl)
noncomputable def ZpQ:Pm:=⟨List PV,fun xs=>[.tup xs],fun xs=>xs.length<=1000/\∀x∈xs,QE x,fun xs=>.ok (.tup (xs.map thw))⟩
theorem Zwz(T:Txt w K mg){f:Addr}{fd:FuncData}(F:Fun K "copy_of" "copy_of" Zqr f fd):Jv P w K mg base CX0 4 f fd ["value"] (spF K 1 .F W0 ZpQ.fn):=by
 have G_copy_of_1:=VD (P:=P) (w:=w) (base:=base) T.ZuA ZtY (fun F=>Zc9 T F)
 refine F.okP Zql rfl rfl (fun cdv A outer s H E hr=>?_)
 have hu:=hr.units
 refine⟨_,_,⟨[],[],[],.F⟩,rfl,(Zh (Jc (Vj (Zn (Jj (K:=K) (n := "list") rfl) rfl T.z_isinstance ZF (Za (pv 0) (Za (Vn (v:=.ty "list") rfl T.z_list Ub rfl) Zg)))) (Zi (Zu (Jk (Zbl (K:=K) (pv 0)) (fun _ _ _ _=>(Zq G_copy_of_1 (hr.mono (by decide)) rfl (Za (pv 1) Zg))) Zql.nd rfl))) Z5)
   (Zh (Jc (Vj (Zn (Jj (K:=K) (n := "tuple") rfl) rfl T.z_isinstance ZF (Za (pv 0) (Za (Vn (v:=.ty "tuple") rfl T.z_tuple QL rfl) Zg)))) (Zi (Zu (J0 (UE (K:=K)) rfl T.z_tuple Zas (Za (Jk (Zbl (K:=K) (pv 0)) (fun _ _ _ _=>(Zq G_copy_of_1 (hr.mono (by decide)) rfl (Za (pv 1) Zg))) Zql.nd rfl) Zg)))) Z5)
   (Zi (Zu (pv 0))))),
   (Zl (Γm:=[.S]) (Jd (ZcC (DE.toA (Ua (Zc (i:=0) (m:=.S) rfl (by decide)))))
   (ZD (ZN (DI.c (Ze7 (DE.PZ (DE.grd (Zc (i:=0) (m:=.S) rfl (by decide)))))) (Zhz (Zf Zm) (Zb (Zc (i:=1) (m:=.S) rfl (by decide)) Ze))))
   Z6)
   (Zl (Γm:=[.S]) (Jd (ZcC (DE.toA (Ua (Zc (i:=0) (m:=.S) rfl (by decide)))))
   (ZD (Zap (ZN (DI.c (Ze7 (DE.PZ (DE.grd (Zc (i:=0) (m:=.S) rfl (by decide)))))) (Zhz (Zf Zm) (Zb (Zc (i:=1) (m:=.S) rfl (by decide)) Ze)))))
   Z6)
   (ZD (DE.PF (DE.grd (Zc (i:=0) (m:=.S) rfl (by decide))))))), ?_⟩
 refine Pm.ref ZpQ (g:=fun xs=>_) ?_
 rintro(xs:List PV) ⟨hl,h⟩
 simp only[ZpQ]
 have hf:PV.flat (.tup xs)=true:=PV.flats_all.mpr fun x hx=>(h x hx).flat
 walk_at "pd"
 rw[show UY (Vi (.tup xs)) "list"=false from rfl]
 walk_at "pd"
 rw[show grd (.tup xs)=.ok (.tup xs) from if_pos hf]
 walk_at "pd"
 rw[Zaf (g:=thw) (fun x hx=>Zd6 (h x hx))]
 walk_at "pd"
 rfl
theorem ZsE{xs:List PV}(h:xs.length<=1000/\∀x∈xs,QE x):ZpQ.fn [.tup xs]=.ok (.tup (xs.map thw)):=Pm.fn_eq ZpQ xs h fun(a:List PV) e=>by (cases e;rfl)
theorem ZeZ:ZpQ.calm:=fun a q h=>by (simp only[ZpQ] at h;cases h)
noncomputable abbrev Q3:List Str:=["home", "homes", "ring"]
theorem V7{w:Str}(h:w∈Q3):w = "home"\/w = "homes"\/w = "ring":=by simpa[Q3] using h
theorem ZaH{w:Str}(h:w∈Q3):PyData.canLay0 (.str w)=true:=by
 rcases V7 h with rfl|rfl|rfl<;>(rw[PyData.canLay0];decide +kernel)
theorem ZlL{w:Str}(h:w∈Q3):(JL.any (·==w))=false/\(Jr.any (·==w))=false/\(JV.any (·==w))=false/\(w==("on":Str))=false/\Vf.contains w=true:=by
 rcases V7 h with rfl|rfl|rfl<;>decide +kernel
theorem Zml:PyData.canLay0 (.str ("on":Str))=true:=by rw[PyData.canLay0];decide +kernel
noncomputable def Zp1:Pm:=⟨List Int×Str×Int,fun a=>[.lst (a.1.map PV.int),.str a.2.1,.int a.2.2],fun a=>a.2.1∈Q3,fun a=>.ok (.bl (decide (a.2.2=0)))⟩
theorem Zwc(T:Txt w K mg){f:Addr}{fd:FuncData}(F:Fun K "is_count" "is_count" Zqy f fd):Jv P w K mg base CX0 1 f fd ["board", "word", "count"] (spF K 3 .P W0 Zp1.fn):=by
 obtain⟨a_ANY_NUMBERS,hm_ANY_NUMBERS,hk_ANY_NUMBERS⟩:=T.k_ANY_NUMBERS.at
 obtain⟨a_BOARD_NUMBERS,hm_BOARD_NUMBERS,hk_BOARD_NUMBERS⟩:=T.k_BOARD_NUMBERS.at
 obtain⟨a_ONE_NUMBER,hm_ONE_NUMBER,hk_ONE_NUMBER⟩:=T.k_ONE_NUMBER.at
 refine F.okP ZvY rfl rfl (fun cdv A outer s H E hr=>?_)
 have hu:=hr.units
 refine⟨_,_,⟨[],[],[],.P⟩,rfl,(Zh (Jc (Zx (Zg9 (K:=K) hu) (pv 1) (QY (v:=.ref a_ANY_NUMBERS) rfl hm_ANY_NUMBERS rfl) rfl) (Zi (Zu Zde)) Z5)
   (Zh (Jc (Zx (Zg9 (K:=K) hu) (pv 1) (QY (v:=.ref a_BOARD_NUMBERS) rfl hm_BOARD_NUMBERS rfl) rfl) (Zi (Zu (Jh (ZS (K:=K) hu) (pv 2) (Zn (Z4 (K:=K)) rfl T.z_len ZX (Za (pv 0) Zg)) (Zz _)))) Z5)
   (Zh (Jc (Zx (ZS (K:=K) hu) (pv 1) ZJ (Zz _)) (Zi (Zu (Jh (ZS (K:=K) hu) (pv 2) Zk (Zz _)))) Z5)
   (Zi (Zu (Jh (ZS (K:=K) hu) (pv 2) (Zii (Zx (Zg9 (K:=K) hu) (pv 1) (QY (v:=.ref a_ONE_NUMBER) rfl hm_ONE_NUMBER rfl) rfl) Zk Zk) (Zz _))))))),
   (Zl (Γm:=[.S,.S,.S]) (Jd (Zw (DE.toA (Zhw (g:=id) hk_ANY_NUMBERS Zaz (Zc (i:=1) (m:=.S) rfl (by decide)))))
   (Z7 Zd1)
   Z6)
   (Zl (Γm:=[.S,.S,.S]) (Jd (Zw (DE.toA (Zhw (g:=id) hk_BOARD_NUMBERS QC (Zc (i:=1) (m:=.S) rfl (by decide)))))
   (Z7 (ZM (g:=id) (Zc (i:=2) (m:=.S) rfl (by decide)) (DE.toA (Jb (Zb (Zc (i:=0) (m:=.S) rfl (by decide)) Ze)))))
   Z6)
   (Zl (Γm:=[.S,.S,.S]) (Jd (Zw (DE.toA (ZM (g:=id) (Zc (i:=1) (m:=.S) rfl (by decide)) (DE.toA ZI))))
   (Z7 (ZM (g:=id) (Zc (i:=2) (m:=.S) rfl (by decide)) (DE.toA Zj)))
   Z6)
   (Z7 (ZM (g:=id) (Zc (i:=2) (m:=.S) rfl (by decide)) (DE.toA (Zn4 (Zw (DE.toA (Zhw (g:=id) hk_ONE_NUMBER Zbx (Zc (i:=1) (m:=.S) rfl (by decide))))) Zj Zj))))))), ?_⟩
 refine Pm.ref Zp1 (g:=fun xs=>_) ?_
 rintro⟨b,w,n⟩ (h:w∈Q3)
 simp only[Zp1]
 obtain⟨h1,h2,h3,h4,h5⟩:=ZlL h
 walk_at "pd"
 rw[Zdk (ZaH h),h1]
 walk_at "pd"
 rw[Zdk (ZaH h),h2]
 walk_at "pd"
 rw[VT (ZaH h) Zml,h4]
 walk_at "pd"
 rw[Zdk (ZaH h),h3]
 walk_at "pd"
theorem ZrE{b:List Int}{w:Str}{n:Int}(h:w∈Q3):Zp1.fn [.lst (b.map PV.int),.str w,.int n]=.ok (.bl (decide (n=0))):=Pm.fn_eq Zp1 (b,w,n) h fun(a:List Int×Str×Int) e=>by (simp only[Zp1,List.cons.injEq,PV.lst.injEq,PV.int.injEq,PV.str.injEq,PV.bl.injEq,PV.tup.injEq,Z3,and_true] at e ⊢;first|(simp only[e];done)|(subst e;rfl)|(rw[e]))
theorem Zdf:Zp1.calm:=fun a q h=>by (simp only[Zp1] at h;cases h)
noncomputable def ZpP:Pm:=⟨List Int×Int,fun a=>[.lst (a.1.map PV.int),.int a.2],fun a=>0<a.1.length/\a.1.length<=1000,fun a=>.ok (.lst ((Jx a.1 a.2).map PV.int))⟩
theorem Zwx(T:Txt w K mg){f:Addr}{fd:FuncData}(F:Fun K "turn_by" "turn_by" ZqL f fd):Jv P w K mg base CX0 1 f fd ["board", "k"] (spF K 2 .F W0 ZpP.fn):=by
 refine F.okP ZtF rfl rfl (fun cdv A outer s H E hr=>?_)
 have hu:=hr.units
 refine⟨_,_,⟨[],[],[],.F⟩,rfl,(Zh (ZA (i:=2) ZtF.nd rfl (by first|exact Or.inl rfl|exact Or.inr rfl) (Zn (Z4 (K:=K)) rfl T.z_len ZX (Za (pv 0) Zg)))
   (Zi (Zu (Jk (Vm rfl T.z_range (Za (pv 2) Zg)) (fun _ _ _ _=>(JD (ZL (K:=K)) (pv 0) (Z8 J4 (Z8 J3 (pv 3) (pv 1)) (pv 2)) (fun _ _=>rfl))) ZtF.nd rfl)))),
   (Zl (Γm:=[.S,.S,.P]) (ZP (i:=2) (Jb (Zb (Zc (i:=0) (m:=.S) rfl (by decide)) Ze)) (by decide))
   (ZD (ZN (DI.c (U8 (Zb (DE.toA (Zp (i:=2) rfl)) Ze))) (DE.PF (DE.grd (Jf (te:=tC .non) (Zc (i:=0) (m:=.S) rfl (by decide)) (DE.toA (J7 (DE.toA (J6 (Zc (i:=3) (m:=.S) rfl (by decide)) (Zc (i:=1) (m:=.S) rfl (by decide)))) (DE.toA (Zp (i:=2) rfl)))))))))), ?_⟩
 refine Pm.ref ZpP (g:=fun xs=>_) ?_
 rintro⟨bs,k⟩ ⟨h0,h1⟩
 simp only at h0 h1
 simp only[ZpP]
 walk_at "pd"
 rw[ZgQ (g:=fun x=>bs.getD (((x:Int)-k)%bs.length).toNat 0) (fun i hi=>by
  have y0:=Zxu ((i:Int)-k) (show (bs.length:Int)≠0 by lia)
  have y1:=Zxo ((i:Int)-k) (show (0:Int)<bs.length by lia)
  rw[Zy7]
  walk_at "pd")]
 walk_at "pd"
 rfl
theorem ZsC{bs:List Int}{k:Int}(h:0<bs.length/\bs.length<=1000):ZpP.fn [.lst (bs.map PV.int),.int k]=.ok (.lst ((Jx bs k).map PV.int)):=Pm.fn_eq ZpP (bs,k) h fun(a:List Int×Int) e=>by (simp only[ZpP,List.cons.injEq,PV.lst.injEq,PV.int.injEq,PV.str.injEq,PV.bl.injEq,PV.tup.injEq,Z3,and_true] at e ⊢;first|(simp only[e];done)|(subst e;rfl)|(rw[e]))
theorem ZeY:ZpP.calm:=fun a q h=>by (simp only[ZpP] at h;cases h)
noncomputable def ZbU(bs:List Int):List (List Int×Int):=(List.range bs.length).map fun(k:Nat)=>(Jx bs k,(k:Int))
def ZmE(bs:List Int)(t:List Int×Int):Prop:=Zav (ZbU bs) t
theorem Zes{bs:List Int}(h:0<bs.length):∃t,ZmE bs t:=by
 have key:∀(l:List (List Int×Int)),l≠[]->∃t,Zav l t:=by
  intro l
  induction l with
  |nil=>intro h;exact absurd rfl h
  |cons a l ih =>
   intro _
   by_cases hl:l=[]
   ·subst hl
    exact⟨a,by simp,fun u hu=>by simp at hu;rw[hu];exact HL.JT a⟩
   ·obtain⟨t,t1,t2⟩:=ih hl
    cases hc:HL.Je t a with
    |true =>
     refine⟨t,by simp[t1],fun u hu=>?_⟩
     rcases Zxd.mp hu with rfl|hu
     ·cases hd:HL.Je u t with
      |false=>rfl
      |true=>have:=HL.VS hd hc;rw[HL.JT] at this;cases this
     ·exact t2 u hu
    |false =>
     refine⟨a,by simp,fun u hu=>?_⟩
     rcases Zxd.mp hu with rfl|hu
     ·exact HL.JT u
     ·cases hd:HL.Je u a with
      |false=>rfl
      |true =>
       have h1:=t2 u hu
       by_cases he:t=a
       ·rw[<- he] at hd;rw[h1] at hd;cases hd
       ·have h2:HL.Je a t=true:=by
         cases h3:HL.Je a t with
         |true=>rfl
         |false=>exact absurd (Qy hc h3) he
        have:=HL.VS hd h2
        rw[h1] at this;cases this
 exact key _ (by unfold ZbU;intro z;have:=congrArg List.length z;rw[Zxc,ZxI,Zx9] at this;lia)
noncomputable def Uv(bs:List Int):List Int×Int:=if h:0<bs.length then (Zes h).choose else ([],0)
theorem Zah{bs:List Int}(h:0<bs.length):ZmE bs (Uv bs):=by unfold Uv;rw[dif_pos h];exact(Zes h).choose_spec
noncomputable def Zpx:Pm:=⟨List Int,fun a=>[.lst (a.map PV.int)],fun a=>JI a,fun a=>.ok (VC (Uv a))⟩
theorem Zvg(T:Txt w K mg){f:Addr}{fd:FuncData}(F:Fun K "least_turn" "least_turn" Zp8 f fd):Jv P w K mg base (CX1 P w) 6 f fd ["board"] (spF K 1 .F (W1 K) Zpx.fn):=by
 have ZrZ:=Qq (P:=P) (w:=w) (base:=base) T.ZtB ZsW (fun F=>ZsU T F)
 have ZwK:=VD (P:=P) (w:=w) (base:=base) T.ZwG Zw5 (fun F=>Zwx T F)
 refine F.okX Zt5 rfl rfl (fun cdv A outer s H E hr=>?_)
 have hu:=hr.units
 refine⟨_,_,⟨[],[],[],.F⟩,rfl,(Zh (V8 (JJ ZrZ (hr.mono (by decide)) rfl VB (Za (pv 0) Zg)))
   (Zi (Zu (Zn (Zf1 (K:=K) hu rfl) rfl T.z_min ZhI (Za (Jk (Vm rfl T.z_range (Za (Zn (Z4 (K:=K)) rfl T.z_len ZX (Za (pv 0) Zg)) Zg)) (fun _ _ _ _=>(VP (Za (Zq ZwK (hr.mono (by decide)) rfl (Za (pv 0) (Za (pv 1) Zg))) (Za (pv 1) Zg)))) Zt5.nd rfl) Zg))))),
   (Zl (Γm:=[.S]) (Zb7 (DE.toA (ZmT (Zf Zm) (Zb (Zc (i:=0) (m:=.S) rfl (by decide)) Ze))))
   (ZD (ZkB (ZN (DI.c (U8 (Zb (DE.toA (Jb (Zb (Zc (i:=0) (m:=.S) rfl (by decide)) Ze))) Ze))) (ZbC (Jl (Zk5 (Zf (Zf Zm)) (Pm.calm_fn ZeY) (Zb (Zc (i:=0) (m:=.S) rfl (by decide)) (Zb (Zc (i:=1) (m:=.S) rfl (by decide)) Ze))) (Jl (DE.PF (DE.grd (Zc (i:=1) (m:=.S) rfl (by decide)))) JS))))))), ?_⟩
 refine Pm.ref Zpx (g:=fun xs=>_) ?_
 rintro(bs:List Int) (hB:JI bs)
 simp only[Zpx]
 have b0:=hB.lo
 have b1:=hB.hi
 walk_at "pd"
 rw[Zqm (by lia),if_pos (Qw.mpr hB)]
 walk_at "pd"
 rw[Zbw (g:=fun k=>VC (Jx bs k,(k:Int))) (fun i hi=>by
  rw[Zy7]
  walk_at "pd"
  rw[ZsC ⟨by lia,by lia⟩]
  walk_at "pd"
  rfl)]
 walk_at "pd"
 rw[show (List.range (bs.length:Int).toNat).map (fun(k:Nat)=>VC (Jx bs k,(k:Int)))=(ZbU bs).map VC by
  unfold ZbU
  rw[ZxD,show (bs.length:Int).toNat=bs.length by lia]
  rfl]
 rw[Ziq (Zah (bs:=bs) (by lia))]
 walk_at "pd"
theorem ZqR{bs:List Int}(h:JI bs):Zpx.fn [.lst (bs.map PV.int)]=.ok (VC (Uv bs)):=Pm.fn_eq Zpx bs h fun(a:List Int) e=>by (simp only[Zpx,List.cons.injEq,PV.lst.injEq,PV.int.injEq,PV.str.injEq,PV.bl.injEq,PV.tup.injEq,Z3,and_true] at e ⊢;first|(simp only[e];done)|(subst e;rfl)|(rw[e]))
noncomputable def ZjW(b:List Int):PV:=match VC (Uv b) with
 |.tup [x,y]=>.tup [.str "ring",x,y]
 |_=>.non
noncomputable def Zpu:Pm:=⟨List Int,fun b=>[.lst (b.map PV.int),.lst []],fun b=>JI b,fun b=>.ok (ZjW b)⟩
theorem Zv2(T:Txt w K mg){f:Addr}{fd:FuncData}(F:Fun K "tell_ring" "tell_ring" ZpX f fd):Jv P w K mg base (CX1 P w) 7 f fd ["board", "numbers"] (spF K 2 .F (W1 K) Zpu.fn):=by
 have ZvR:=Qq (P:=P) (w:=w) (base:=base) T.ZvC Zvq (fun F=>Zvg T F)
 refine F.okX Zue rfl rfl (fun cdv A outer s H E hr=>?_)
 have hu:=hr.units
 refine⟨_,_,⟨[],[],[],.F⟩,rfl,(Zh (ZA (i:=2) Zue.nd rfl (by first|exact Or.inl rfl|exact Or.inr rfl) (JJ ZvR (hr.mono (by decide)) rfl VB (Za (pv 0) Zg)))
   (Zi (Zu (VP (Za ZJ (Za (JD (ZL (K:=K)) (pv 2) Zk (fun _ _=>rfl)) (Za (JD (ZL (K:=K)) (pv 2) Zk (fun _ _=>rfl)) Zg))))))),
   (Zl (Γm:=[.S,.S,.O]) (ZQ (i:=2) (Zlm (Zf Zm) (Zb (Zc (i:=0) (m:=.S) rfl (by decide)) Ze)) (by decide))
   (ZD (ZbC (Jl (DE.PF ZI) (Zfz (i:=2) rfl))))), ?_⟩
 refine Pm.ref Zpu (g:=fun xs=>_) ?_
 rintro(b:List Int) (hb:JI b)
 simp only[Zpu]
 walk_at "pd"
 rw[ZqR hb]
 walk_at "pd"
 rfl
theorem Zrl{b:List Int}(h:JI b):Zpu.fn [.lst (b.map PV.int),.lst []]=.ok (ZjW b):=Pm.fn_eq Zpu b h fun(a:List Int) e=>by (simp only[Zpu,List.cons.injEq,PV.lst.injEq,PV.int.injEq,PV.str.injEq,PV.bl.injEq,PV.tup.injEq,Z3,and_true] at e ⊢;first|(simp only[e];done)|(subst e;rfl)|(rw[e]))
noncomputable def Vz(ns:List Int):Option Str:=if Qh ns then none else some "BadYard"
noncomputable def Zpz:Pm:=⟨List Int,fun ns=>[.lst (ns.map PV.int)],fun ns=>ns.length<=1000000,fun ns=>orX (Vz ns) .non⟩
theorem Zvh(T:Txt w K mg){f:Addr}{fd:FuncData}(F:Fun K "check_yard" "check_yard" Zp9 f fd):Jv P w K mg base (CX1 P w) 4 f fd ["yard"] (spF K 1 .P (W1 K) Zpz.fn):=by
 have Zqk:=VD (P:=P) (w:=w) (base:=base) T.ZqO ZqB (fun F=>ZqA T F)
 obtain⟨C_BadYard,hC_BadYard,hQ_BadYard⟩:=Ud T.x_exc (n := "BadYard") (by decide)
 refine F.okX Zvd rfl rfl (fun cdv A outer s H E hr=>?_)
 have hu:=hr.units
 refine⟨_,_,⟨[.S],[],[],.P⟩,rfl,(Zh (Jc (PW.pt (Zbi (UP (Vj (Zq Zqk (hr.mono (by decide)) rfl (Za (pv 0) Zg)))) (Zbi (Zx Us (Zn (Z4 (K:=K)) rfl T.z_len ZX (Za (pv 0) Zg)) (Ui T.c_MOST_YARD_PITS rfl) (Zz _)) (QX (Zx Us (Zn (Jo (K:=K) rfl) rfl T.z_sum Uz (Za (pv 0) Zg)) (Ui T.c_MOST_YARD_SEEDS rfl) (Zz _)))))) (Zi (Uh Qr hQ_BadYard rfl (T.x_mg _ _ hC_BadYard) rfl (Za ZJ Zg))) Z5)
   (Zi (Jc (PW.pt (ZaI (Zx Us (Zn (Z4 (K:=K)) rfl T.z_len ZX (Za (pv 0) Zg)) Zk (Zz _)) (Qm (Zx (ZS (K:=K) hu) (JD (ZL (K:=K)) (pv 0) (ZlS Zjg Zk) (fun _ _=>rfl)) Zk (Zz _))))) (Zi (Uh Qr hQ_BadYard rfl (T.x_mg _ _ hC_BadYard) rfl (Za ZJ Zg))) Z5))),
   (Zl (Γm:=[.S]) (Jd (Zb6 (Qb (ZcC (DE.toA (Zk4 (Zf Zm) (Pm.calm_fn VL) (Zb (Zc (i:=0) (m:=.S) rfl (by decide)) Ze))))) (Zb6 (Zw (DE.toA (Uu (DE.toA (Jb (Zb (Zc (i:=0) (m:=.S) rfl (by decide)) Ze))) (DE.toA Zj)))) (Zw (DE.toA (Uu (DE.toA (Ux (Zb (Zc (i:=0) (m:=.S) rfl (by decide)) Ze))) (DE.toA Zj))))))
   (Uq hC_BadYard (Zf Zm) (by decide) (Zb (DE.toA ZI) Ze))
   Z6)
   (Jd (ZaV (Zw (DE.toA (Uu (DE.toA (Jb (Zb (Zc (i:=0) (m:=.S) rfl (by decide)) Ze))) (DE.toA Zj)))) (Zw (DE.toA (ZM (g:=id) (Jf (te:=tC .non) (Zc (i:=0) (m:=.S) rfl (by decide)) (DE.toA (ZjD (DE.toA Zj)))) (DE.toA Zj)))))
   (Uq hC_BadYard (Zf Zm) (by decide) (Zb (DE.toA ZI) Ze))
   Z6)), ?_⟩
 refine Pm.ref Zpz (g:=fun xs=>_) ?_
 intro (ns:List Int) (hn:ns.length<=1000000)
 simp only[Zpz]
 walk_at "pd"
 rw[ZoR hn]
 walk_at "pd"
 by_cases h1:∀x∈ns,0<=x
 ·rw[decide_eq_true h1]
  walk_at "pd"
  by_cases h2:ns.length<=200
  ·rw[decide_eq_false (by lia)]
   walk_at "pd"
   by_cases h3:ns.sum<=10000
   ·rw[decide_eq_false (by lia)]
    walk_at "pd"
    by_cases h4:ns=[]
    ·subst h4
     walk_at "pd"
     rw[show Vz []=none from if_pos ⟨by simp,by simp,by simp,.inl rfl⟩]
     rfl
    ·have hl:0<ns.length:=Zyb.mpr h4
     rw[decide_eq_true (by lia)]
     walk_at "pd"
     rw[Ziy h4]
     walk_at "pd"
     by_cases h5:ns.getD (ns.length-1) 0=0
     ·rw[decide_eq_true h5,show Vz ns=(some "BadYard":Option Str) from if_neg (fun z=>by rcases z.2.2.2 with z|z<;>contradiction)]
      walk_at "pd" <;> rfl
     ·rw[decide_eq_false h5,show Vz ns=none from if_pos ⟨h1,h2,h3,.inr h5⟩]
      walk_at "pd" <;> rfl
   ·rw[decide_eq_true (by lia),show Vz ns=(some "BadYard":Option Str) from if_neg (fun z=>h3 z.2.2.1)];walk_at "pd" <;> rfl
  ·rw[decide_eq_true (by lia),show Vz ns=(some "BadYard":Option Str) from if_neg (fun z=>h2 z.2.1)];walk_at "pd" <;> rfl
 ·rw[decide_eq_false h1,show Vz ns=(some "BadYard":Option Str) from if_neg (fun z=>h1 z.1)];walk_at "pd" <;> rfl
theorem ZqS{ns:List Int}(h:ns.length<=1000000):Zpz.fn [.lst (ns.map PV.int)]=orX (Vz ns) .non:=Pm.fn_eq Zpz ns h fun(a:List Int) e=>by (simp only[Zpz,List.cons.injEq,PV.lst.injEq,PV.int.injEq,PV.str.injEq,PV.bl.injEq,PV.tup.injEq,Z3,and_true] at e ⊢;first|(simp only[e];done)|(subst e;rfl)|(rw[e]))
noncomputable def ZoP:Pm:=⟨Int×Int,fun a=>[.int a.1,.int a.2],fun a=>(0<=a.1/\a.1<=1000000)/\0<=a.2/\a.2<=10^60,fun a=>.ok (.int (QM a.1 a.2))⟩
theorem ZtP(T:Txt w K mg){f:Addr}{fd:FuncData}(F:Fun K "sowings_beyond" "sowings_beyond" ZoT f fd):Jv P w K mg base CX0 1 f fd ["pit", "sowings"] (spF K 2 .P W0 ZoP.fn):=by
 refine F.okP ZtG rfl rfl (fun cdv A outer s H E hr=>?_)
 have hu:=hr.units
 refine⟨_,_,⟨[],[],[],.P⟩,rfl,(Zi (Zu (Z8 Zeh (Z8 Qp (pv 0) (pv 1)) (Z8 J5 (pv 0) Zk)))),
   (Z7 (ZjE (DE.toA (ZaX (Zc (i:=0) (m:=.S) rfl (by decide)) (Zc (i:=1) (m:=.S) rfl (by decide)))) (DE.toA (J8 (Zc (i:=0) (m:=.S) rfl (by decide)) (DE.toA Zj))))), ?_⟩
 refine Pm.ref ZoP (g:=fun xs=>_) ?_
 rintro⟨p,s⟩ ⟨⟨h0,h1⟩,h2,h3⟩
 simp only at h0 h1 h2 h3
 simp only[ZoP,QM]
 walk_at "pd"
theorem ZpM{p s:Int}(h:(0<=p/\p<=1000000)/\0<=s/\s<=10^60):ZoP.fn [.int p,.int s]=.ok (.int (QM p s)):=Pm.fn_eq ZoP (p,s) h fun(a:Int×Int) e=>by (simp only[ZoP,List.cons.injEq,PV.lst.injEq,PV.int.injEq,PV.str.injEq,PV.bl.injEq,PV.tup.injEq,Z3,and_true] at e ⊢;first|(simp only[e];done)|(subst e;rfl)|(rw[e]))
noncomputable def Zq0:Pm:=⟨Int×Int,fun a=>[.int a.1,.int a.2],fun a=>(0<=a.1/\a.1<=1000000)/\0<=a.2/\a.2<=10^60,fun a=>.ok (.int (Js a.1 a.2))⟩
theorem Zwy(T:Txt w K mg){f:Addr}{fd:FuncData}(F:Fun K "held_in" "held_in" ZqM f fd):Jv P w K mg base CX0 1 f fd ["pit", "sowings"] (spF K 2 .P W0 Zq0.fn):=by
 refine F.okP Zwv rfl rfl (fun cdv A outer s H E hr=>?_)
 have hu:=hr.units
 refine⟨_,_,⟨[],[],[],.P⟩,rfl,(Zi (Zu (Z8 J4 (Z8 Qp (pv 0) (pv 1)) (Z8 J5 (pv 0) Zk)))),
   (Z7 (J7 (DE.toA (ZaX (Zc (i:=0) (m:=.S) rfl (by decide)) (Zc (i:=1) (m:=.S) rfl (by decide)))) (DE.toA (J8 (Zc (i:=0) (m:=.S) rfl (by decide)) (DE.toA Zj))))), ?_⟩
 refine Pm.ref Zq0 (g:=fun xs=>_) ?_
 rintro⟨p,s⟩ ⟨⟨h0,h1⟩,h2,h3⟩
 simp only at h0 h1 h2 h3
 simp only[Zq0,Js]
 walk_at "pd"
theorem ZsD{p s:Int}(h:(0<=p/\p<=1000000)/\0<=s/\s<=10^60):Zq0.fn [.int p,.int s]=.ok (.int (Js p s)):=Pm.fn_eq Zq0 (p,s) h fun(a:Int×Int) e=>by (simp only[Zq0,List.cons.injEq,PV.lst.injEq,PV.int.injEq,PV.str.injEq,PV.bl.injEq,PV.tup.injEq,Z3,and_true] at e ⊢;first|(simp only[e];done)|(subst e;rfl)|(rw[e]))
noncomputable def ZpO:Pm:=⟨Int,fun a=>[.int a],fun a=>0<=a/\a<=100000,fun a=>.ok (.lst ((Zy a).map PV.int))⟩
theorem ZuZ(T:Txt w K mg){f:Addr}{fd:FuncData}(F:Fun K "yard_of" "yard_of" ZqK f fd):Jv P w K mg base CX0 2 f fd ["seeds"] (spF K 1 .F W0 ZpO.fn):=by
 have Zuo:=VD (P:=P) (w:=w) (base:=base) T.Zum ZtW (fun F=>ZtP T F)
 have ZwL:=VD (P:=P) (w:=w) (base:=base) T.ZwH Zw6 (fun F=>Zwy T F)
 refine F.okP ZrA rfl rfl (fun cdv A outer s H E hr=>?_)
 have hu:=hr.units
 refine⟨_,_,⟨[],[],[],.F⟩,rfl,(Zh (ZA (i:=1) ZrA.nd rfl (by first|exact Or.inl rfl|exact Or.inr rfl) (VQ Zg))
   (Zh (ZA (i:=2) ZrA.nd rfl (by first|exact Or.inl rfl|exact Or.inr rfl) (pv 0))
   (Zh (Vu PassesOwn.never (Zx Us (pv 2) Zk (Zz _)) (Zh (ZA (i:=3) ZrA.nd rfl (by first|exact Or.inl rfl|exact Or.inr rfl) (Z8 J5 (Zn (Z4 (K:=K)) rfl T.z_len ZX (Za (pv 1) Zg)) Zk))
   (Zh (V8 (Zax PySem.F.plainAttrs_list PySem.F.slot_list_append PySem.F.type_list_append UT (pv 1) (Za (Zq ZwL (hr.mono (by decide)) rfl (Za (pv 3) (Za (pv 2) Zg))) Zg)))
   (Zi (ZA (i:=2) ZrA.nd rfl (by first|exact Or.inl rfl|exact Or.inr rfl) (Zq Zuo (hr.mono (by decide)) rfl (Za (pv 3) (Za (pv 2) Zg))))))))
   (Zi (Zu (pv 1)))))),
   (Zl (Γm:=[.S,.O,.U,.U]) (ZQ (i:=1) (VH JS) (by decide))
   (Zl (Γm:=[.S,.O,.P,.U]) (ZP (i:=2) (DE.grd (Zc (i:=0) (m:=.S) rfl (by decide))) (by decide))
   (Zl (Γm:=[.S,.O,.P,.U]) (Vx (Γ:=[.S,.O,.P,.U]) (Zw (DE.toA (Uu (DE.toA (Zp (i:=2) rfl)) (DE.toA Zj))))
   (DS.out (Y:=⟨[.S,.O,.P,.P],[.S,.O,.P,.U],[.S,.O,.P,.U],.F⟩) (Y':=⟨[.S,.O,.P,.U],[.S,.O,.P,.U],[.S,.O,.P,.U],.F⟩) (Zl (Γm:=[.S,.O,.P,.P]) (ZP (i:=3) (J8 (DE.toA (Jb (Zb (Zc (i:=1) (m:=.O) rfl (by decide)) Ze))) (DE.toA Zj)) (by decide))
   (Zl (Γm:=[.S,.O,.P,.P]) (Zb9 (i:=1) rfl rfl (DE.PF (Q1 (Zf (Zf Zm)) (Zb (DE.toA (Zp (i:=3) rfl)) (Zb (DE.toA (Zp (i:=2) rfl)) Ze)))))
   (ZP (i:=2) (Q1 (Zf (Zf Zm)) (Zb (DE.toA (Zp (i:=3) rfl)) (Zb (DE.toA (Zp (i:=2) rfl)) Ze))) (by decide)))) rfl rfl rfl rfl))
   (ZD (Qu (i:=1) rfl))))), ?_⟩
 refine Pm.ref ZpO (g:=fun xs=>_) ?_
 rintro(s:Int) ⟨h0,h1⟩
 simp only[ZpO]
 walk_at "pd"
 obtain⟨y1,y2,y3⟩:=Jw h0
 generalize hw:Vh _ _ _=W
 obtain⟨ρ',rfl,v,rfl⟩:=Jg hw (ZT s) (fun k ρ=>∃v,ρ=[.int s,.lst ((ZH s k).map PV.int),.int (ZO s k),v]) ⟨_,rfl⟩ (by
  rintro k ρ hk ⟨v,rfl⟩
  have:=y1 k hk
  have:=Zic h0 k
  have hl:(ZH s k).length=k:=J1 _ _
  constructor
  ·walk_at "pd"
   rw[decide_eq_true (by lia)]
  ·walk_at "pd"
   rw[hl,ZsD ⟨⟨by lia,by lia⟩,by lia,by lia⟩]
   walk_at "pd"
   rw[ZpM ⟨⟨by lia,by lia⟩,by lia,by lia⟩]
   walk_at "pd"
   exact UR ⟨_,by rw[Zal,Ju]⟩) (by
  rintro ρ ⟨v,rfl⟩
  walk_at "pd"
  rw[decide_eq_false (by lia)])
 walk_at "pd"
 all_goals rfl
theorem ZrB{s:Int}(h:0<=s/\s<=100000):ZpO.fn [.int s]=.ok (.lst ((Zy s).map PV.int)):=Pm.fn_eq ZpO s h fun(a:Int) e=>by (simp only[ZpO,List.cons.injEq,PV.lst.injEq,PV.int.injEq,PV.str.injEq,PV.bl.injEq,PV.tup.injEq,Z3,and_true] at e ⊢;first|(simp only[e];done)|(subst e;rfl)|(rw[e]))
theorem ZaL:ZpO.calm:=fun a q h=>by (simp only[ZpO] at h;cases h)
noncomputable def ZoN:Pm:=⟨List Int×List Int,fun a=>[.lst (a.1.map PV.int),.lst (a.2.map PV.int)],fun a=>a.1.length<=1000000/\ZC a.1 a.2<a.1.length/\ZC a.1 a.2<a.2.length,fun a=>.ok (.int (ZC a.1 a.2+1))⟩
theorem Zu2(T:Txt w K mg){f:Addr}{fd:FuncData}(F:Fun K "first_unlike" "first_unlike" Zpd f fd):Jv P w K mg base CX0 1 f fd ["yard", "other"] (spF K 2 .P W0 ZoN.fn):=by
 refine F.okP Zrf rfl rfl (fun cdv A outer s H E hr=>?_)
 have hu:=hr.units
 refine⟨_,_,⟨[],[],[],.P⟩,rfl,(Zh (ZA (i:=2) Zrf.nd rfl (by first|exact Or.inl rfl|exact Or.inr rfl) Zk)
   (Zh (Vu PassesOwn.never (Zx (ZS (K:=K) hu) (JD (ZL (K:=K)) (pv 0) (Z8 J3 (pv 2) Zk) (fun _ _=>rfl)) (JD (ZL (K:=K)) (pv 1) (Z8 J3 (pv 2) Zk) (fun _ _=>rfl)) (Zz _)) (Zi (ZdZ (i:=2) Zrf.nd rfl (by first|exact Or.inl rfl|exact Or.inr rfl) Zk Zj8)))
   (Zi (Zu (pv 2))))),
   (Zl (Γm:=[.S,.S,.P]) (ZP (i:=2) Zj (by decide))
   (Zl (Γm:=[.S,.S,.P]) (Vx (Γ:=[.S,.S,.P]) (Zw (DE.toA (ZM (g:=id) (Jf (te:=tC .non) (Zc (i:=0) (m:=.S) rfl (by decide)) (DE.toA (J6 (DE.toA (Zp (i:=2) rfl)) (DE.toA Zj)))) (Jf (te:=tC .non) (Zc (i:=1) (m:=.S) rfl (by decide)) (DE.toA (J6 (DE.toA (Zp (i:=2) rfl)) (DE.toA Zj)))))))
   (Zb8 (i:=2) rfl (DE.toA Zj)))
   (Z7 (Zp (i:=2) rfl)))), ?_⟩
 refine Pm.ref ZoN (g:=fun xs=>_) ?_
 rintro⟨ns,ms⟩ ⟨h0,h1,h2⟩
 simp only at h0 h1 h2
 simp only[ZoN]
 walk_at "pd"
 generalize hw:Vh _ _ _=W
 obtain⟨ρ',rfl,rfl⟩:=Jg hw (ZC ns ms) (fun k ρ=>ρ=[.lst (ns.map PV.int),.lst (ms.map PV.int),.int ((k:Int)+1)]) rfl (by
  rintro k ρ hk rfl
  constructor
  ·walk_at "pd"
   rw[show (k:Int)+1-1=k by lia,Zxt,U0 hk]
   walk_at "pd"
  ·walk_at "pd"
   exact UR (by rw[show ((k+1:Nat):Int)=(k:Int)+1 by lia])) (by
  rintro ρ rfl
  walk_at "pd"
  rw[show ((ZC ns ms:Nat):Int)+1-1=(ZC ns ms:Nat) by lia,Zxt]
  rw[decide_eq_false (QQ h1 h2)])
 walk_at "pd"
theorem Zqs{ns ms:List Int}(h:ns.length<=1000000/\ZC ns ms<ns.length/\ZC ns ms<ms.length):ZoN.fn [.lst (ns.map PV.int),.lst (ms.map PV.int)]=.ok (.int (ZC ns ms+1)):=Pm.fn_eq ZoN (ns,ms) h fun(a:List Int×List Int) e=>by (simp only[ZoN,List.cons.injEq,PV.lst.injEq,PV.int.injEq,PV.str.injEq,PV.bl.injEq,PV.tup.injEq,Z3,and_true] at e ⊢;first|(simp only[e];done)|(subst e;rfl)|(rw[e]))
theorem QZ:ZoN.calm:=fun a q h=>by (simp only[ZoN] at h;cases h)
noncomputable def ZoQ:Pm:=⟨List Int,fun ns=>[.lst (ns.map PV.int)],fun ns=>ns.length<=100000/\Ut ns<ns.length/\ns.getD (Ut ns) 0=(Ut ns:Int)+1/\∀j,j<Ut ns->ns.getD j 0≠(j:Int)+1,fun ns=>.ok (.int ((Ut ns:Int)+1))⟩
theorem ZtQ(T:Txt w K mg){f:Addr}{fd:FuncData}(F:Fun K "nearest_to_sow" "nearest_to_sow" ZoU f fd):Jv P w K mg base CX0 1 f fd ["yard"] (spF K 1 .P W0 ZoQ.fn):=by
 refine F.okP ZqC rfl rfl (fun cdv A outer s H E hr=>?_)
 have hu:=hr.units
 refine⟨_,_,⟨[],[],[],.P⟩,rfl,(Zh (ZA (i:=1) ZqC.nd rfl (by first|exact Or.inl rfl|exact Or.inr rfl) Zk)
   (Zh (Vu PassesOwn.never (Zx (Zeg (K:=K) hu) (JD (ZL (K:=K)) (pv 0) (Z8 J3 (pv 1) Zk) (fun _ _=>rfl)) (pv 1) (Zz _)) (Zi (ZdZ (i:=1) ZqC.nd rfl (by first|exact Or.inl rfl|exact Or.inr rfl) Zk Zj8)))
   (Zi (Zu (pv 1))))),
   (Zl (Γm:=[.S,.P]) (ZP (i:=1) Zj (by decide))
   (Zl (Γm:=[.S,.P]) (Vx (Γ:=[.S,.P]) (Zw (DE.toA (ZM (g:=(!·)) (Jf (te:=tC .non) (Zc (i:=0) (m:=.S) rfl (by decide)) (DE.toA (J6 (DE.toA (Zp (i:=1) rfl)) (DE.toA Zj)))) (DE.toA (Zp (i:=1) rfl)))))
   (Zb8 (i:=1) rfl (DE.toA Zj)))
   (Z7 (Zp (i:=1) rfl)))), ?_⟩
 refine Pm.ref ZoQ (g:=fun xs=>_) ?_
 rintro(ns:List Int) ⟨hn,h1,h2,h3⟩
 simp only[ZoQ]
 walk_at "pd"
 generalize hw:Vh _ _ _=W
 obtain⟨ρ',rfl,rfl⟩:=Jg hw (Ut ns) (fun k ρ=>ρ=[.lst (ns.map PV.int),.int ((k:Int)+1)]) rfl (by
  rintro k ρ hk rfl
  constructor
  ·walk_at "pd"
   rw[show (k:Int)+1-1=k by lia,Zxt,decide_eq_false (h3 k hk)]
   rfl
  ·walk_at "pd"
   exact UR (by rw[show ((k+1:Nat):Int)=(k:Int)+1 by lia])) (by
  rintro ρ rfl
  walk_at "pd"
  rw[show ((Ut ns:Nat):Int)+1-1=(Ut ns:Nat) by lia,Zxt,decide_eq_true h2]
  rfl)
 walk_at "pd"
theorem ZpN{ns:List Int}(h:ns.length<=100000/\Ut ns<ns.length/\ns.getD (Ut ns) 0=(Ut ns:Int)+1/\∀j,j<Ut ns->ns.getD j 0≠(j:Int)+1):ZoQ.fn [.lst (ns.map PV.int)]=.ok (.int ((Ut ns:Int)+1)):=Pm.fn_eq ZoQ ns h fun(a:List Int) e=>by (simp only[ZoQ,List.cons.injEq,PV.lst.injEq,PV.int.injEq,PV.str.injEq,PV.bl.injEq,PV.tup.injEq,Z3,and_true] at e ⊢;first|(simp only[e];done)|(subst e;rfl)|(rw[e]))
noncomputable def Zqf:Pm:=⟨List Int×Int,fun a=>[.lst (a.1.map PV.int),.int a.2],fun a=>a.1.length<=100000/\1<=a.2/\a.2<=a.1.length,fun a=>.ok (.lst ((Zjn a.1 a.2).map PV.int))⟩
theorem Zwa(T:Txt w K mg){f:Addr}{fd:FuncData}(F:Fun K "sow_home" "sow_home" Zqw f fd):Jv P w K mg base CX0 1 f fd ["yard", "pit"] (spF K 2 .F W0 Zqf.fn):=by
 refine F.okP Zuq rfl rfl (fun cdv A outer s H E hr=>?_)
 have hu:=hr.units
 refine⟨_,_,⟨[],[],[],.F⟩,rfl,(Zi (Zu (Z8 (U2 (K:=K)) (Z8 (U2 (K:=K)) (Jk (Jq (K:=K) (Jz (Jy (K:=K)) (pv 0) Vl (Vk (Z8 J3 (pv 1) Zk)))) (fun _ _ _ _=>(Z8 J5 (pv 2) Zk)) Zuq.nd rfl) (VQ (Za Zk Zg))) (Jz (Jy (K:=K)) (pv 0) (Vk (pv 1)) Vl)))),
   (ZD (UC (DE.toA (UC (DE.toA (ZN (DI.c (U9 (DE.FZ (VZ (Zc (i:=0) (m:=.S) rfl (by decide)) Vq (Vp (DE.toA (J6 (Zc (i:=1) (m:=.S) rfl (by decide)) (DE.toA Zj)))))))) (DE.PF (J8 (Zc (i:=2) (m:=.S) rfl (by decide)) (DE.toA Zj))))) (DE.toA (VH (Jl (DE.PF Zj) JS))))) (DE.toA (VZ (Zc (i:=0) (m:=.S) rfl (by decide)) (Vp (Zc (i:=1) (m:=.S) rfl (by decide))) Vq)))), ?_⟩
 refine Pm.ref Zqf (g:=fun xs=>_) ?_
 rintro⟨ns,p⟩ ⟨hn,h0,h1⟩
 simp only at hn h0 h1
 simp only[Zqf]
 walk_at "pd"
 rw[Zep (g:=(·+1)) (fun z _=>rfl)]
 walk_at "pd"
 all_goals rfl
theorem ZrC{ns:List Int}{p:Int}(h:ns.length<=100000/\1<=p/\p<=ns.length):Zqf.fn [.lst (ns.map PV.int),.int p]=.ok (.lst ((Zjn ns p).map PV.int)):=Pm.fn_eq Zqf (ns,p) h fun(a:List Int×Int) e=>by (simp only[Zqf,List.cons.injEq,PV.lst.injEq,PV.int.injEq,PV.str.injEq,PV.bl.injEq,PV.tup.injEq,Z3,and_true] at e ⊢;first|(simp only[e];done)|(subst e;rfl)|(rw[e]))
noncomputable def Zph:Pm:=⟨List Int,fun ns=>[.lst (ns.map PV.int)],fun ns=>ZcO ns,fun ns=>.ok (.lst ((Zaw ns.sum).map PV.int))⟩
theorem Zv4(T:Txt w K mg){f:Addr}{fd:FuncData}(F:Fun K "plan_home" "plan_home" ZpZ f fd):Jv P w K mg base CX0 2 f fd ["yard"] (spF K 1 .F W0 Zph.fn):=by
 have Zup:=VD (P:=P) (w:=w) (base:=base) T.Zun ZtX (fun F=>ZtQ T F)
 have Zw8:=VD (P:=P) (w:=w) (base:=base) T.Zw1 Zwl (fun F=>Zwa T F)
 refine F.okP ZpW rfl rfl (fun cdv A outer s H E hr=>?_)
 have hu:=hr.units
 refine⟨_,_,⟨[],[],[],.F⟩,rfl,(Zh (ZA (i:=1) ZpW.nd rfl (by first|exact Or.inl rfl|exact Or.inr rfl) (VQ Zg))
   (Zh (ZA (i:=2) ZpW.nd rfl (by first|exact Or.inl rfl|exact Or.inr rfl) (J0 (Qv (K:=K)) rfl T.z_list Ub (Za (pv 0) Zg)))
   (Zh (ZA (i:=3) ZpW.nd rfl (by first|exact Or.inl rfl|exact Or.inr rfl) (Zn (Jo (K:=K) rfl) rfl T.z_sum Uz (Za (pv 0) Zg)))
   (Zh (Vu PassesOwn.never (Zx Us (pv 3) Zk (Zz _)) (Zh (ZA (i:=4) ZpW.nd rfl (by first|exact Or.inl rfl|exact Or.inr rfl) (Zq Zup (hr.mono (by decide)) rfl (Za (pv 2) Zg)))
   (Zh (V8 (Zax PySem.F.plainAttrs_list PySem.F.slot_list_append PySem.F.type_list_append UT (pv 1) (Za (pv 4) Zg)))
   (Zh (ZA (i:=2) ZpW.nd rfl (by first|exact Or.inl rfl|exact Or.inr rfl) (Zq Zw8 (hr.mono (by decide)) rfl (Za (pv 2) (Za (pv 4) Zg))))
   (Zi (ZdZ (i:=3) ZpW.nd rfl (by first|exact Or.inl rfl|exact Or.inr rfl) Zk Zj7))))))
   (Zi (Zu (pv 1))))))),
   (Zl (Γm:=[.S,.O,.U,.U,.U]) (ZQ (i:=1) (VH JS) (by decide))
   (Zl (Γm:=[.S,.O,.O,.U,.U]) (ZQ (i:=2) (ZbE (Zb (Zc (i:=0) (m:=.S) rfl (by decide)) Ze)) (by decide))
   (Zl (Γm:=[.S,.O,.O,.P,.U]) (ZP (i:=3) (Ux (Zb (Zc (i:=0) (m:=.S) rfl (by decide)) Ze)) (by decide))
   (Zl (Γm:=[.S,.O,.O,.P,.U]) (Vx (Γ:=[.S,.O,.O,.P,.U]) (Zw (DE.toA (Uu (DE.toA (Zp (i:=3) rfl)) (DE.toA Zj))))
   (DS.out (Y:=⟨[.S,.O,.O,.P,.P],[.S,.O,.O,.P,.U],[.S,.O,.O,.P,.U],.F⟩) (Y':=⟨[.S,.O,.O,.P,.U],[.S,.O,.O,.P,.U],[.S,.O,.O,.P,.U],.F⟩) (Zl (Γm:=[.S,.O,.O,.P,.P]) (ZP (i:=4) (Q1 (Zf Zm) (Zb (Zc (i:=2) (m:=.O) rfl (by decide)) Ze)) (by decide))
   (Zl (Γm:=[.S,.O,.O,.P,.P]) (Zb9 (i:=1) rfl rfl (DE.PF (Zp (i:=4) rfl)))
   (Zl (Γm:=[.S,.O,.O,.P,.P]) (ZQ (i:=2) (Zhz (Zf (Zf Zm)) (Zb (Zc (i:=2) (m:=.O) rfl (by decide)) (Zb (DE.toA (Zp (i:=4) rfl)) Ze))) (by decide))
   (Zb8 (i:=3) rfl (DE.toA Zj))))) rfl rfl rfl rfl))
   (ZD (Qu (i:=1) rfl)))))), ?_⟩
 refine Pm.ref Zph (g:=fun xs=>_) ?_
 rintro(ns:List Int) (hh:ZcO ns)
 simp only[Zph]
 have h0:=Zbg hh.1.1
 have h1:=hh.1.2.2.1
 have hl:=hh.1.2.1
 have e:=hh.2
 generalize hs:ns.sum=s at h0 h1 e
 have hy:ZT s<=200:=Vt h0 h1
 walk_at "pd"
 rw[hs]
 generalize hw:Vh _ _ _=W
 obtain⟨ρ',rfl,v,rfl⟩:=Jg hw s.toNat (fun i ρ=>∃v,ρ=[.lst (ns.map PV.int),.lst ((Zdc s i).map PV.int),.lst ((ZH (s-i) (ZT s)).map PV.int),.int (s-i),v]) ⟨_,by
  rw[e,ZyC,ZyG];rfl⟩ (by
  rintro i ρ hi ⟨v,rfl⟩
  obtain⟨f1,f2,f3⟩:=Zfw (t:=s-i) (n:=ZT s) (by lia) (ZfG (by lia) (by lia))
  obtain⟨g1,g2,g3⟩:=JF (s:=s-i) (by lia)
  have hpl:(Zdc s i).length=i:=Zck _ _
  have hlen:(ZH (s-i) (ZT s)).length=ZT s:=Uw _ _
  constructor
  ·walk_at "pd"
   rw[decide_eq_true (by lia)]
  ·walk_at "pd"
   rw[ZpN ⟨by lia,by lia,by rw[f1,ZW (by lia)];exact g3,fun j hj=>by rw[f1] at hj;rw[ZW (by lia)];exact g2 j hj⟩,f1]
   walk_at "pd"
   rw[ZrC ⟨by lia,by lia,by lia⟩,f3]
   walk_at "pd"
   exact UR ⟨_,by rw[ZeW,show s-((i+1:Nat):Int)=s-i-1 by lia]⟩) (by
  rintro ρ ⟨v,rfl⟩
  walk_at "pd"
  rw[decide_eq_false (by lia)])
 walk_at "pd"
 rfl
theorem Zrn{ns:List Int}(h:ZcO ns):Zph.fn [.lst (ns.map PV.int)]=.ok (.lst ((Zaw ns.sum).map PV.int)):=Pm.fn_eq Zph ns h fun(a:List Int) e=>by (simp only[Zph,List.cons.injEq,PV.lst.injEq,PV.int.injEq,PV.str.injEq,PV.bl.injEq,PV.tup.injEq,Z3,and_true] at e ⊢;first|(simp only[e];done)|(subst e;rfl)|(rw[e]))
theorem Zcn:Zph.calm:=fun a q h=>by (simp only[Zph] at h;cases h)
noncomputable def Zoi(ns:List Int):PV:=.tup [.str "barred",.int (ZC ns (Zy ns.sum)+1),.int ((Zy ns.sum).getD (ZC ns (Zy ns.sum)) 0)]
noncomputable def Zb1(ns:List Int):PV:=if ns=Zy ns.sum then .tup [.str "home",.lst ((Zaw ns.sum).map PV.int)] else Zoi ns
noncomputable def ZoX:Pm:=⟨List Int,fun ns=>[.lst (ns.map PV.int)],fun ns=>ns.length<=1000000,fun ns=>orX (Vz ns) (Zb1 ns)⟩
theorem Zu3(T:Txt w K mg){f:Addr}{fd:FuncData}(F:Fun K "brought_home" "brought_home" Zpe f fd):Jv P w K mg base (CX1 P w) 5 f fd ["yard"] (spF K 1 .F (W1 K) ZoX.fn):=by
 have ZvS:=Qq (P:=P) (w:=w) (base:=base) T.ZvD Zvr (fun F=>Zvh T F)
 have ZuK:=VD (P:=P) (w:=w) (base:=base) T.Zv9 Zva (fun F=>ZuZ T F)
 have ZuW:=VD (P:=P) (w:=w) (base:=base) T.ZuQ ZuC (fun F=>Zu2 T F)
 have Zwr:=VD (P:=P) (w:=w) (base:=base) T.Zwg ZvK (fun F=>Zv4 T F)
 refine F.okX Zrg rfl rfl (fun cdv A outer s H E hr=>?_)
 have hu:=hr.units
 refine⟨_,_,⟨[],[],[],.F⟩,rfl,(Zh (V8 (JJ ZvS (hr.mono (by decide)) rfl VB (Za (pv 0) Zg)))
   (Zh (ZA (i:=1) Zrg.nd rfl (by first|exact Or.inl rfl|exact Or.inr rfl) (Zq ZuK (hr.mono (by decide)) rfl (Za (Zn (Jo (K:=K) rfl) rfl T.z_sum Uz (Za (pv 0) Zg)) Zg)))
   (Zh (Jc (Zx (ZS (K:=K) hu) (pv 0) (pv 1) (Zz _)) (Zi (Zu (VP (Za ZJ (Za (Zq Zwr (hr.mono (by decide)) rfl (Za (pv 0) Zg)) Zg))))) Z5)
   (Zh (ZA (i:=2) Zrg.nd rfl (by first|exact Or.inl rfl|exact Or.inr rfl) (Zq ZuW (hr.mono (by decide)) rfl (Za (pv 0) (Za (pv 1) Zg))))
   (Zi (Zu (VP (Za ZJ (Za (pv 2) (Za (JD (ZL (K:=K)) (pv 1) (Z8 J3 (pv 2) Zk) (fun _ _=>rfl)) Zg)))))))))),
   (Zl (Γm:=[.S,.U,.U]) (Zb7 (DE.toA (ZmT (Zf Zm) (Zb (Zc (i:=0) (m:=.S) rfl (by decide)) Ze))))
   (Zl (Γm:=[.S,.O,.U]) (ZQ (i:=1) (Zk5 (Zf Zm) (Pm.calm_fn ZaL) (Zb (DE.toA (Ux (Zb (Zc (i:=0) (m:=.S) rfl (by decide)) Ze))) Ze)) (by decide))
   (Zl (Γm:=[.S,.O,.U]) (Jd (Zw (DE.toA (ZM (g:=id) (Zc (i:=0) (m:=.S) rfl (by decide)) (Zc (i:=1) (m:=.O) rfl (by decide)))))
   (ZD (ZbC (Jl (DE.PF ZI) (Jl (Zk5 (Zf Zm) (Pm.calm_fn Zcn) (Zb (Zc (i:=0) (m:=.S) rfl (by decide)) Ze)) JS))))
   Z6)
   (Zl (Γm:=[.S,.O,.P]) (ZP (i:=2) (Zk4 (Zf (Zf Zm)) (Pm.calm_fn QZ) (Zb (Zc (i:=0) (m:=.S) rfl (by decide)) (Zb (Zc (i:=1) (m:=.O) rfl (by decide)) Ze))) (by decide))
   (ZD (DE.PF (DE.grd (UB (Zb (DE.toA ZI) (Zb (DE.toA (Zp (i:=2) rfl)) (Zb (Jf (te:=tC .non) (Zc (i:=1) (m:=.O) rfl (by decide)) (DE.toA (J6 (DE.toA (Zp (i:=2) rfl)) (DE.toA Zj)))) Ze))))))))))), ?_⟩
 refine Pm.ref ZoX (g:=fun xs=>_) ?_
 rintro(ns:List Int) (hn:ns.length<=1000000)
 simp only[ZoX]
 walk_at "pd"
 rw[ZqS hn]
 by_cases hy:Qh ns
 ·rw[show Vz ns=none from if_pos hy]
  simp only[orX]
  have h0:=Zbg hy.1
  have h1:=hy.2.2.1
  walk_at "pd"
  rw[ZrB ⟨h0,by lia⟩]
  walk_at "pd"
  unfold Zb1
  by_cases hu:ns=Zy ns.sum
  ·rw[decide_eq_true hu,if_pos hu]
   walk_at "pd"
   rw[Zrn ⟨hy,hu⟩]
   walk_at "pd"
  ·obtain⟨u1,u2⟩:=QO hy hu
   rw[decide_eq_false hu,if_neg hu]
   walk_at "pd"
   rw[Zqs ⟨by lia,u1,u2⟩]
   walk_at "pd"
   rw[show ((ZC ns (Zy ns.sum):Nat):Int)+1-1=(ZC ns (Zy ns.sum):Nat) by lia,Zxt]
   walk_at "pd"
   all_goals rfl
 ·rw[show Vz ns=(some "BadYard":Option Str) from if_neg hy]
  simp only[orX]
  walk_at "pd"
theorem Zqt{ns:List Int}(h:ns.length<=1000000):ZoX.fn [.lst (ns.map PV.int)]=orX (Vz ns) (Zb1 ns):=Pm.fn_eq ZoX ns h fun(a:List Int) e=>by (simp only[ZoX,List.cons.injEq,PV.lst.injEq,PV.int.injEq,PV.str.injEq,PV.bl.injEq,PV.tup.injEq,Z3,and_true] at e ⊢;first|(simp only[e];done)|(subst e;rfl)|(rw[e]))
noncomputable def ZoG:Pm:=⟨List Int,fun ns=>[.lst (ns.map PV.int)],fun ns=>ns.length<=1000000,fun ns=>.ok (.lst ((ZV ns).map PV.int))⟩
theorem ZrP(T:Txt w K mg){f:Addr}{fd:FuncData}(F:Fun K "without_last_noughts" "without_last_noughts" ZoJ f fd):Jv P w K mg base CX0 1 f fd ["numbers"] (spF K 1 .F W0 ZoG.fn):=by
 refine F.okP ZpI rfl rfl (fun cdv A outer s H E hr=>?_)
 have hu:=hr.units
 refine⟨_,_,⟨[],[],[],.F⟩,rfl,(Zh (ZA (i:=1) ZpI.nd rfl (by first|exact Or.inl rfl|exact Or.inr rfl) (Zn (Z4 (K:=K)) rfl T.z_len ZX (Za (pv 0) Zg)))
   (Zh (Vu PassesOwn.never (PW.pt (ZaI (Zx Us (pv 1) Zk (Zz _)) (Qm (Zx (ZS (K:=K) hu) (JD (ZL (K:=K)) (pv 0) (Z8 J3 (pv 1) Zk) (fun _ _=>rfl)) Zk (Zz _))))) (Zi (ZdZ (i:=1) ZpI.nd rfl (by first|exact Or.inl rfl|exact Or.inr rfl) Zk Zj7)))
   (Zi (Zu (Jz (Jy (K:=K)) (pv 0) Vl (Vk (pv 1))))))),
   (Zl (Γm:=[.S,.P]) (ZP (i:=1) (Jb (Zb (Zc (i:=0) (m:=.S) rfl (by decide)) Ze)) (by decide))
   (Zl (Γm:=[.S,.P]) (Vx (Γ:=[.S,.P]) (ZaV (Zw (DE.toA (Uu (DE.toA (Zp (i:=1) rfl)) (DE.toA Zj)))) (Zw (DE.toA (ZM (g:=id) (Jf (te:=tC .non) (Zc (i:=0) (m:=.S) rfl (by decide)) (DE.toA (J6 (DE.toA (Zp (i:=1) rfl)) (DE.toA Zj)))) (DE.toA Zj)))))
   (Zb8 (i:=1) rfl (DE.toA Zj)))
   (ZD (VZ (Zc (i:=0) (m:=.S) rfl (by decide)) Vq (Vp (DE.toA (Zp (i:=1) rfl))))))), ?_⟩
 refine Pm.ref ZoG (g:=fun xs=>_) ?_
 intro (ns:List Int) (hn:ns.length<=1000000)
 simp only[ZoG]
 walk_at "pd"
 have ht:=Uf ns ns.length
 generalize hw:Vh _ _ _=W
 obtain⟨ρ',rfl,rfl⟩:=Jg hw (ns.length-Jm ns ns.length) (fun k ρ=>ρ=[.lst (ns.map PV.int),.int (((ns.length-k:Nat):Int))]) rfl (by
  rintro k ρ hk rfl
  have hz:=Ue ns ns.length (ns.length-k-1) (by lia) (by lia)
  constructor
  ·walk_at "pd"
   rw[decide_eq_true (by lia)]
   walk_at "pd"
   rw[show ((ns.length-k:Nat):Int)-1=((ns.length-k-1:Nat):Int) by lia,Zxt,hz]
   walk_at "pd"
  ·walk_at "pd"
   exact UR (by rw[show ((ns.length-k:Nat):Int)-1=((ns.length-(k+1):Nat):Int) by lia])) (by
  rintro ρ rfl
  have hl:=Ug ns ns.length
  rw[show ns.length-(ns.length-Jm ns ns.length)=Jm ns ns.length by lia]
  walk_at "pd"
  by_cases h:0<Jm ns ns.length
  ·rw[decide_eq_true (by lia)]
   walk_at "pd"
   rw[show ((Jm ns ns.length:Nat):Int)-1=((Jm ns ns.length-1:Nat):Int) by lia,Zxt]
   rw[decide_eq_false (hl h)]
  ·rw[decide_eq_false (by lia)]
   walk_at "pd")
 walk_at "pd"
 rw[show ns.length-(ns.length-Jm ns ns.length)=Jm ns ns.length by lia]
 rfl
theorem ZoV{ns:List Int}(h:ns.length<=1000000):ZoG.fn [.lst (ns.map PV.int)]=.ok (.lst ((ZV ns).map PV.int)):=Pm.fn_eq ZoG ns h fun(a:List Int) e=>by (simp only[ZoG,List.cons.injEq,PV.lst.injEq,PV.int.injEq,PV.str.injEq,PV.bl.injEq,PV.tup.injEq,Z3,and_true] at e ⊢;first|(simp only[e];done)|(subst e;rfl)|(rw[e]))
theorem VA:ZoG.calm:=fun a q h=>by (simp only[ZoG] at h;cases h)
noncomputable def Zpv:Pm:=⟨List Int,fun b=>[.lst (b.map PV.int),.lst []],fun b=>b.length<=1000,fun b=>orX (Vz (ZV b)) (Zb1 (ZV b))⟩
theorem Zv3(T:Txt w K mg){f:Addr}{fd:FuncData}(F:Fun K "tell_home" "tell_home" ZpY f fd):Jv P w K mg base (CX1 P w) 6 f fd ["board", "numbers"] (spF K 2 .F (W1 K) Zpv.fn):=by
 have ZuX:=Qq (P:=P) (w:=w) (base:=base) T.ZuR ZuD (fun F=>Zu3 T F)
 have Zsd:=VD (P:=P) (w:=w) (base:=base) T.Zsc ZrU (fun F=>ZrP T F)
 refine F.okX Zvy rfl rfl (fun cdv A outer s H E hr=>?_)
 have hu:=hr.units
 refine⟨_,_,⟨[],[],[],.F⟩,rfl,(Zi (Zu (JJ ZuX (hr.mono (by decide)) rfl VB (Za (Zq Zsd (hr.mono (by decide)) rfl (Za (pv 0) Zg)) Zg)))),
   (ZD (Zlm (Zf Zm) (Zb (DE.toA (Zk5 (Zf Zm) (Pm.calm_fn VA) (Zb (Zc (i:=0) (m:=.S) rfl (by decide)) Ze))) Ze))), ?_⟩
 refine Pm.ref Zpv (g:=fun xs=>_) ?_
 rintro(b:List Int) (hb:b.length<=1000)
 simp only[Zpv]
 walk_at "pd"
 rw[ZoV (by lia)]
 walk_at "pd"
 rw[Zqt (by have:=VO b;have:=Uf b b.length;lia)]
 cases Vz (ZV b)<;>simp only[orX]<;>walk_at "pd"
theorem Zrm{b:List Int}(h:b.length<=1000):Zpv.fn [.lst (b.map PV.int),.lst []]=orX (Vz (ZV b)) (Zb1 (ZV b)):=Pm.fn_eq Zpv b h fun(a:List Int) e=>by (simp only[Zpv,List.cons.injEq,PV.lst.injEq,PV.int.injEq,PV.str.injEq,PV.bl.injEq,PV.tup.injEq,Z3,and_true] at e ⊢;first|(simp only[e];done)|(subst e;rfl)|(rw[e]))
noncomputable def ZbN(n l m:Int):Option Str:=if l<=n/\n<=m then none else some "BadCount"
noncomputable def Zpi:Pm:=⟨Int×Int×Int,fun a=>[.int a.1,.int a.2.1,.int a.2.2],fun _=>True,fun a=>orX (ZbN a.1 a.2.1 a.2.2) .non⟩
theorem ZuN(T:Txt w K mg){f:Addr}{fd:FuncData}(F:Fun K "check_count" "check_count" Zpq f fd):Jv P w K mg base (CX1 P w) 3 f fd ["number", "least", "most"] (spF K 3 .P (W1 K) Zpi.fn):=by
 have Zrs:=VD (P:=P) (w:=w) (base:=base) T.ZsB Zsb (fun F=>Zsa T F)
 obtain⟨C_BadCount,hC_BadCount,hQ_BadCount⟩:=Ud T.x_exc (n := "BadCount") (by decide)
 refine F.okX ZuL rfl rfl (fun cdv A outer s H E hr=>?_)
 have hu:=hr.units
 refine⟨_,_,⟨[.S,.S,.S],[],[],.P⟩,rfl,(Zi (Jc (PW.pt (Zbi (UP (Vj (Zq Zrs (hr.mono (by decide)) rfl (Za (pv 0) (Za (pv 1) Zg))))) (QX (Zx Us (pv 0) (pv 2) (Zz _))))) (Zi (Uh Qr hQ_BadCount rfl (T.x_mg _ _ hC_BadCount) rfl (Za ZJ Zg))) Z5)),
   (Jd (Zb6 (Qb (ZcC (DE.toA (Zk4 (Zf (Zf Zm)) (Pm.calm_fn QB) (Zb (Zc (i:=0) (m:=.S) rfl (by decide)) (Zb (Zc (i:=1) (m:=.S) rfl (by decide)) Ze)))))) (Zw (DE.toA (Uu (Zc (i:=0) (m:=.S) rfl (by decide)) (Zc (i:=2) (m:=.S) rfl (by decide))))))
   (Uq hC_BadCount (Zf Zm) (by decide) (Zb (DE.toA ZI) Ze))
   Z6), ?_⟩
 refine Pm.ref Zpi (g:=fun xs=>_) ?_
 rintro⟨n,l,m⟩ -
 simp only[Zpi]
 walk_at "pd"
 rw[Zp3]
 walk_at "pd"
 by_cases h0:l<=n
 ·rw[decide_eq_true h0]
  walk_at "pd"
  by_cases h1:n<=m
  ·rw[decide_eq_false (by lia),show ZbN n l m=none from if_pos ⟨h0,h1⟩];walk_at "pd" <;> rfl
  ·rw[decide_eq_true (by lia),show ZbN n l m=(some "BadCount":Option Str) from if_neg (fun z=>h1 z.2)];walk_at "pd" <;> rfl
 ·rw[decide_eq_false h0,show ZbN n l m=(some "BadCount":Option Str) from if_neg (fun z=>h0 z.1)];walk_at "pd" <;> rfl
theorem Zq6{n l m:Int}:Zpi.fn [.int n,.int l,.int m]=orX (ZbN n l m) .non:=Pm.fn_eq Zpi (n,l,m) trivial fun(a:Int×Int×Int) e=>by (simp only[Zpi,List.cons.injEq,PV.lst.injEq,PV.int.injEq,PV.str.injEq,PV.bl.injEq,PV.tup.injEq,Z3,and_true] at e ⊢;first|(simp only[e];done)|(subst e;rfl)|(rw[e]))
noncomputable def ZpE:Pm:=⟨Int,fun a=>[.int a],fun _=>True,fun a=>orX (ZbN a 0 10000) (.lst ((Zy a).map PV.int))⟩
theorem Zv6(T:Txt w K mg){f:Addr}{fd:FuncData}(F:Fun K "home_yard" "home_yard" Zqb f fd):Jv P w K mg base (CX1 P w) 4 f fd ["seeds"] (spF K 1 .F (W1 K) ZpE.fn):=by
 have Zvv:=Qq (P:=P) (w:=w) (base:=base) T.Zvl ZuT (fun F=>ZuN T F)
 have ZuK:=VD (P:=P) (w:=w) (base:=base) T.Zv9 Zva (fun F=>ZuZ T F)
 refine F.okX Zvz rfl rfl (fun cdv A outer s H E hr=>?_)
 have hu:=hr.units
 refine⟨_,_,⟨[],[],[],.F⟩,rfl,(Zh (V8 (JJ Zvv (hr.mono (by decide)) rfl VB (Za (pv 0) (Za Zk (Za (Ui T.c_MOST_YARD_SEEDS rfl) Zg)))))
   (Zi (Zu (Zq ZuK (hr.mono (by decide)) rfl (Za (pv 0) Zg))))),
   (Zl (Γm:=[.S]) (Zb7 (DE.toA (ZmT (Zf (Zf (Zf Zm))) (Zb (Zc (i:=0) (m:=.S) rfl (by decide)) (Zb (DE.toA Zj) (Zb (DE.toA Zj) Ze))))))
   (ZD (Zk5 (Zf Zm) (Pm.calm_fn ZaL) (Zb (Zc (i:=0) (m:=.S) rfl (by decide)) Ze)))), ?_⟩
 refine Pm.ref ZpE (g:=fun xs=>_) ?_
 rintro(s:Int) -
 simp only[ZpE]
 walk_at "pd"
 rw[Zq6]
 by_cases h:0<=s/\s<=10000
 ·simp only[ZbN,if_pos h,orX]
  walk_at "pd"
  rw[ZrB ⟨h.1,by lia⟩]
  rfl
 ·simp only[ZbN,if_neg h,orX]
  walk_at "pd"
theorem Zrp{s:Int}:ZpE.fn [.int s]=orX (ZbN s 0 10000) (.lst ((Zy s).map PV.int)):=Pm.fn_eq ZpE s trivial fun(a:Int) e=>by (simp only[ZpE,List.cons.injEq,PV.lst.injEq,PV.int.injEq,PV.str.injEq,PV.bl.injEq,PV.tup.injEq,Z3,and_true] at e ⊢;first|(simp only[e];done)|(subst e;rfl)|(rw[e]))
noncomputable def Zpa:Pm:=⟨List Int,fun b=>[.lst (b.map PV.int),.lst []],fun b=>b.length<=1000,fun b=>orX (ZbN b.sum 0 10000) (.tup [.str "homes",.lst ((Zy b.sum).map PV.int)])⟩
theorem Zve(T:Txt w K mg){f:Addr}{fd:FuncData}(F:Fun K "tell_homes" "tell_homes" Zp5 f fd):Jv P w K mg base (CX1 P w) 5 f fd ["board", "numbers"] (spF K 2 .F (W1 K) Zpa.fn):=by
 have Zwt:=Qq (P:=P) (w:=w) (base:=base) T.Zwi ZvM (fun F=>Zv6 T F)
 refine F.okX Zvb rfl rfl (fun cdv A outer s H E hr=>?_)
 have hu:=hr.units
 refine⟨_,_,⟨[],[],[],.F⟩,rfl,(Zi (Zu (VP (Za ZJ (Za (JJ Zwt (hr.mono (by decide)) rfl VB (Za (Zn (Jo (K:=K) rfl) rfl T.z_sum Uz (Za (pv 0) Zg)) Zg)) Zg))))),
   (ZD (ZbC (Jl (DE.PF ZI) (Jl (Zlm (Zf Zm) (Zb (DE.toA (Ux (Zb (Zc (i:=0) (m:=.S) rfl (by decide)) Ze))) Ze)) JS)))), ?_⟩
 refine Pm.ref Zpa (g:=fun xs=>_) ?_
 rintro(b:List Int) (hb:b.length<=1000)
 simp only[Zpa]
 walk_at "pd"
 rw[Zrp]
 cases ZbN b.sum 0 10000<;>simp only[orX]<;>walk_at "pd"
theorem ZqP{b:List Int}(h:b.length<=1000):Zpa.fn [.lst (b.map PV.int),.lst []]=orX (ZbN b.sum 0 10000) (.tup [.str "homes",.lst ((Zy b.sum).map PV.int)]):=Pm.fn_eq Zpa b h fun(a:List Int) e=>by (simp only[Zpa,List.cons.injEq,PV.lst.injEq,PV.int.injEq,PV.str.injEq,PV.bl.injEq,PV.tup.injEq,Z3,and_true] at e ⊢;first|(simp only[e];done)|(subst e;rfl)|(rw[e]))
theorem Zlz{w:Str}(h:w∈Q3){a b c:List PV->Rr PV}:List.lookup w [(("ring":Str),a),("home",b),("homes",c)]=some (if w = "home" then b else if w = "homes" then c else a):=by
 rcases V7 h with rfl|rfl|rfl
 ·rw[Zxw,show (("home":Str) == "ring")=false by decide +kernel,Zxw,show (("home":Str) == "home")=true by decide +kernel,if_pos rfl]
 ·rw[Zxw,show (("homes":Str) == "ring")=false by decide +kernel,Zxw,show (("homes":Str) == "home")=false by decide +kernel,Zxw,show (("homes":Str) == "homes")=true by decide +kernel,if_neg (by decide +kernel),if_pos rfl]
 ·rw[Zxw,show (("ring":Str) == "ring")=true by decide +kernel,if_neg (by decide +kernel),if_neg (by decide +kernel)]
noncomputable def Q5(b:List Int)(w:Str):Rr PV:=if w = "home" then orX (Vz (ZV b)) (Zb1 (ZV b)) else if w = "homes" then orX (ZbN b.sum 0 10000) (.tup [.str "homes",.lst ((Zy b.sum).map PV.int)]) else .ok (ZjW b)
noncomputable def Zsh:Pm:=⟨List Int×Str,fun a=>[.lst (a.1.map PV.int),.str a.2,.lst []],fun a=>JI a.1/\a.2∈Q3,fun a=>Q5 a.1 a.2⟩
theorem ZwP(T:Txt w K mg){f:Addr}{fd:FuncData}(F:Fun K "tell" "tell" Zug f fd):Jv P w K mg base (CX1 P w) 8 f fd ["board", "word", "texts"] (spF K 3 .F (W1 K) Zsh.fn):=by
 have ZwA:=VD (P:=P) (w:=w) (base:=base) T.Zw3 Zwn (fun F=>Zwc T F)
 have Zwp:=Qq (P:=P) (w:=w) (base:=base) T.Zwe ZvI (fun F=>Zv2 T F)
 have Zwq:=Qq (P:=P) (w:=w) (base:=base) T.Zwf ZvJ (fun F=>Zv3 T F)
 have ZvP:=Qq (P:=P) (w:=w) (base:=base) T.ZvA Zvo (fun F=>Zve T F)
 obtain⟨C_BadText,hC_BadText,hQ_BadText⟩:=Ud T.x_exc (n := "BadText") (by decide)
 refine F.okX ZwC rfl rfl (fun cdv A outer s H E hr=>?_)
 have hu:=hr.units
 refine⟨_,_,⟨[],[],[],.F⟩,rfl,(Zh (Jc (PW.pt (Zbi (Zjr (Zgm T.t_TELLERS rfl (pv 1))) (QX (UP (Vj (Zq ZwA (hr.mono (by decide)) rfl (Za (pv 0) (Za (pv 1) (Za (Zn (Z4 (K:=K)) rfl T.z_len ZX (Za (pv 2) Zg)) Zg))))))))) (Zi (Uh Qr hQ_BadText rfl (T.x_mg _ _ hC_BadText) rfl (Za ZJ Zg))) Z5)
   (Zh (JC (i:=3) ZwC.nd rfl (Vm rfl T.z_range (Za (Zn (Z4 (K:=K)) rfl T.z_len ZX (Za (pv 2) Zg)) Zg)) (fun _ _ _ _=>Zdd) rfl)
   (Zi (Zu (ZlT T.t_TELLERS (Zbf (x := "ring") (nf := "tell_ring") (by decide) Zwp (hr.mono (by decide)) (Zbf (x := "home") (nf := "tell_home") (by decide) Zwq (hr.mono (by decide)) (Zbf (x := "homes") (nf := "tell_homes") (by decide) ZvP (hr.mono (by decide)) ZjT))) rfl VB (pv 1) (fun _ _=>rfl) (Za (pv 0) (Za (pv 3) Zg))))))),
   (Zl (Γm:=[.S,.S,.S,.U]) (Jd (Zb6 (ZcC (DE.toA (ZiO (ws:=Vf) (g:=(!·)) (Zc (i:=1) (m:=.S) rfl (by decide))))) (Qb (ZcC (DE.toA (Zk4 (Zf (Zf (Zf Zm))) (Pm.calm_fn Zdf) (Zb (Zc (i:=0) (m:=.S) rfl (by decide)) (Zb (Zc (i:=1) (m:=.S) rfl (by decide)) (Zb (DE.toA (Jb (Zb (Zc (i:=2) (m:=.S) rfl (by decide)) Ze))) Ze))))))))
   (Uq hC_BadText (Zf Zm) (by decide) (Zb (DE.toA ZI) Ze))
   Z6)
   (Zl (Γm:=[.S,.S,.S,.O]) (JG (i:=3) (ZN (DI.c (U8 (Zb (DE.toA (Jb (Zb (Zc (i:=2) (m:=.S) rfl (by decide)) Ze))) Ze))) Zdz) (by decide))
   (ZD (Zk7 (M:=[("ring",Zpu.fn),("home",Zpv.fn),("homes",Zpa.fn)]) (Zf (Zf Zm)) (Zc (i:=1) (m:=.S) rfl (by decide)) (Zb (Zc (i:=0) (m:=.S) rfl (by decide)) (Zb (Zc (i:=3) (m:=.O) rfl (by decide)) Ze)))))), ?_⟩
 refine Pm.ref Zsh (g:=fun xs=>_) ?_
 rintro⟨b,w⟩ ⟨hb,h⟩
 simp only at hb h
 simp only[Zsh]
 obtain⟨h1,h2,h3,h4,h5⟩:=ZlL h
 have hl:b.length<=1000:=by have:=hb.hi;lia
 walk_at "pd"
 rw[show Zjs Vf (fun x=>!x) (.str w)=.ok (.bl (!(Vf.contains w))) from rfl,h5]
 walk_at "pd"
 rw[show ZfB [.lst []]=.ok (.int 0) from rfl]
 walk_at "pd"
 rw[ZrE h,decide_eq_true rfl]
 walk_at "pd"
 rw[show ZfB [.lst []]=.ok (.int 0) from rfl]
 walk_at "pd"
 rw[show Zay (fun x=>(.bad:Rr PV)) (ZeV 0 0)=.ok [] from rfl]
 walk_at "pd"
 rw[ZfR (Zlz h)]
 unfold Q5
 by_cases c1:w = "home"
 ·rw[if_pos c1,if_pos c1]
  walk_at "pd"
  rw[Zrm hl]
  cases Vz (ZV b)<;>simp only[orX]<;>walk_at "pd"
 ·rw[if_neg c1,if_neg c1]
  by_cases c2:w = "homes"
  ·rw[if_pos c2,if_pos c2]
   walk_at "pd"
   rw[ZqP hl]
   cases ZbN b.sum 0 10000<;>simp only[orX]<;>walk_at "pd"
  ·rw[if_neg c2,if_neg c2]
   walk_at "pd"
   rw[Zrl hb]
   walk_at "pd"
theorem ZvH{b:List Int}{w:Str}(h:JI b/\w∈Q3):Zsh.fn [.lst (b.map PV.int),.str w,.lst []]=Q5 b w:=Pm.fn_eq Zsh (b,w) h fun(a:List Int×Str) e=>by (simp only[Zsh,List.cons.injEq,PV.lst.injEq,PV.int.injEq,PV.str.injEq,PV.bl.injEq,PV.tup.injEq,Z3,and_true] at e ⊢;first|(simp only[e];done)|(subst e;rfl)|(rw[e]))
theorem Zig{w:Str}(h:w∈Q3):Zab w [.str (" ":Str)]=.ok (.lst [.str w]):=by
 have h1:Txt.split w ⟨#[32]⟩=[w]:=by
  have:=ZaE (c:=32) (ws:=[w]) (by simp) fun v hv=>by
   rw[Zx7.mp hv]
   rcases V7 h with rfl|rfl|rfl<;>decide +kernel
  exact this
 have h2:w.length<=100000:=by rcases V7 h with rfl|rfl|rfl<;>decide +kernel
 rw[show ((" ":Str))=spS from Zga,show spS=⟨#[32]⟩ from rfl,ZaM h2 (by rw[h1];exact ZxG rfl),h1]
 rfl
noncomputable def Ur(b:List Int)(w:Str):PV:=match Q5 b w with
 |.ok x=>x
 |.exc e=>.tup [.str "refused",.str e.1]
 |.bad=>.non
theorem ZcS(b:List Int)(w:Str):(∃x,Q5 b w=.ok x)\/Q5 b w=.exc ("BadYard",.non)\/Q5 b w=.exc ("BadCount",.non):=by
 unfold Q5
 split
 ·unfold Vz
  split
  ·exact .inl ⟨_,rfl⟩
  ·exact .inr (.inl rfl)
 ·split
  ·unfold ZbN
   split
   ·exact .inl ⟨_,rfl⟩
   ·exact .inr (.inr rfl)
  ·exact .inl ⟨_,rfl⟩
noncomputable def Zpk:Pm:=⟨List Int×Str,fun a=>[.lst (a.1.map PV.int),.str a.2],fun a=>JI a.1/\a.2∈Q3,fun a=>.ok (Ur a.1 a.2)⟩
theorem Zv7(T:Txt w K mg){f:Addr}{fd:FuncData}(F:Fun K "answer_to" "answer_to" Zqc f fd):Jv P w K mg base CX0 9 f fd ["board", "question"] (spF K 2 .F W0 Zpk.fn):=by
 have ZwX:=Qq (P:=P) (w:=w) (base:=base) T.ZwV ZwS (fun F=>ZwP T F)
 obtain⟨C_SowError,hC_SowError,hQ_SowError⟩:=Ud T.x_exc (n := "SowError") (by decide)
 refine F.okP Zsg rfl rfl (fun cdv A outer s H E hr=>?_)
 have hu:=hr.units
 refine⟨_,_,⟨[],[],[],.F⟩,rfl,(Zh (ZA (i:=2) Zsg.nd rfl (by first|exact Or.inl rfl|exact Or.inr rfl) (Zax PySem.F.plainAttrs_str PySem.F.slot_str_split PySem.F.type_str_split Zbu (pv 1) (Za ZJ Zg)))
   (Zi (ZlM (fun xe pn E hx=>(Zi (Zu (JJ ZwX (hr.mono (by decide)) rfl hx (Za (pv 0) (Za (JD (ZL (K:=K)) (pv 2) Zk (fun _ _=>rfl)) (Za (Jz (Jy (K:=K)) (pv 2) (Vk Zk) Vl) Zg))))))) (fun A=>(Zi (Zu (VP (Za ZJ (Za (ZeX (L:=XN) (Zmh T) hr.depth (pv 3)) Zg)))))) Zsg.nd rfl rfl rfl (T.x_mg _ _ hC_SowError) rfl rfl rfl))),
   (Zl (Γm:=[.S,.S,.O,.U]) (ZQ (i:=2) (ZbD (Zc (i:=1) (m:=.S) rfl (by decide)) (Zb (DE.toA ZI) Ze)) (by decide))
   (Zm1 (i:=3) (Γs:=[.S,.S,.S,.U]) (Y:=⟨[],[],[],.F⟩) (Yh:=⟨[],[],[],.F⟩) (L:=["SowError", "BadBoard", "BadPit", "BadPits", "BadCount", "NoSeeds", "Unlike", "TooLong", "TooMany", "BadLine", "BadYard", "BadText"]) (ZhU T.x_tab hC_SowError (by decide)) (fun E=>(ZD (Zlm (Zf (Zf (Zf Zm))) (Zb (Zc (i:=0) (m:=.S) rfl (by decide)) (Zb (Jf (te:=tC .non) (Zc (i:=2) (m:=.S) rfl (by decide)) (DE.toA Zj)) (Zb (DE.toA (VZ (Zc (i:=2) (m:=.S) rfl (by decide)) (Vp (DE.toA Zj)) Vq)) Ze)))))) (fun E D σ H h=>h) (show DS K _ [.S,.S,.S,.P] _ _ _ from (ZD (DE.PF (DE.grd (UB (Zb (DE.toA ZI) (Zb (DE.toA (Zhy (DE.toA (Zp (i:=3) rfl)))) Ze))))))) rfl rfl (by decide) rfl rfl rfl rfl)), ?_⟩
 refine Pm.ref Zpk (g:=fun xs=>_) ?_
 rintro⟨b,w⟩ ⟨hb,h⟩
 simp only at hb h
 simp only[Zpk]
 walk_at "pd"
 rw[Zig h]
 walk_at "pd"
 rw[show pIx (.lst [.str w]) (.int 0)=.ok (.str w) from rfl,show newF (ZhR [PV.str w] (some 1) none)=.ok (.lst []) from rfl]
 walk_at "pd"
 rw[ZvH ⟨hb,h⟩]
 unfold Ur
 rcases ZcS b w with ⟨x,e⟩|e|e
 ·rw[e]
  walk_at "pd"
 ·rw[e]
  walk_at "pd"
  rfl
 ·rw[e]
  walk_at "pd"
  rfl
theorem Zrq{b:List Int}{w:Str}(h:JI b/\w∈Q3):Zpk.fn [.lst (b.map PV.int),.str w]=.ok (Ur b w):=Pm.fn_eq Zpk (b,w) h fun(a:List Int×Str) e=>by (simp only[Zpk,List.cons.injEq,PV.lst.injEq,PV.int.injEq,PV.str.injEq,PV.bl.injEq,PV.tup.injEq,Z3,and_true] at e ⊢;first|(simp only[e];done)|(subst e;rfl)|(rw[e]))
theorem Zcp:Zpk.calm:=fun a q h=>by (simp only[Zpk] at h;cases h)
noncomputable def nlS:Str:=⟨#[10]⟩
noncomputable def Ja(e:Bool):List Str:=if e then [("":Str)] else []
noncomputable def ZiY(b:List Int)(ws:List Str)(e:Bool):Str:=Str.join nlS (Jn b::(ws++Ja e))
structure Za7(b:List Int)(ws:List Str):Prop where
 bd:JI b
 ne:ws≠[]
 len:ws.length<=10
 q:∀w∈ws,w∈Q3
theorem Zci{w:Str}(h:w∈Q3):10 ∉ w.cps.toList/\w.length<=100/\(w==("":Str))=false:=by rcases V7 h with rfl|rfl|rfl<;>decide +kernel
theorem UK{e:Bool}{w:Str}(h:w∈Ja e):w=("":Str):=by
 cases e
 ·cases h
 ·exact Zx7.mp h
theorem Qf{b:List Int}(h:JI b):∀x∈b,0<=x/\x<=10^60:=fun x hx=>⟨h.nn x hx,by
 have:∀(l:List Int),(∀y∈l,0<=y)->∀x∈l,x<=l.sum:=fun l=>by
  induction l with
  |nil=>intro _ x hx;cases hx
  |cons a l ih =>
   intro h x hx
   have ha:=h a (by simp)
   have hl:=sum_nn (l:=l) fun y hy=>h y (by simp[hy])
   rw[ZxB]
   rcases Zxd.mp hx with rfl|hx
   ·lia
   ·have:=ih (fun y hy=>h y (by simp[hy])) x hx
    lia
 exact ZyE (this b h.nn x hx) h.sm⟩
theorem Zd7{b:List Int}(h:JI b):Zlb (b.map JK):=⟨by
  intro z
  have:=congrArg List.length z
  rw[Zxc,Zx9] at this
  have:=h.lo;lia,by rw[Zxc];have:=h.hi;lia,fun w hw=>by
  obtain⟨x,hx,rfl⟩:=Zxr.mp hw
  exact Zkn (Qf h x hx).1 (Qf h x hx).2⟩
theorem Qg{b:List Int}{ws:List Str}(h:Za7 b ws)(e:Bool):Txt.split (ZiY b ws e) ⟨#[10]⟩=Jn b::(ws++Ja e):=by
 unfold ZiY nlS
 rw[UX]
 refine(Zd7 h.bd).lines fun w hw=>?_
 rcases Zxg.mp hw with hw|hw
 ·exact(Zci (h.q w hw)).1
 ·rw[UK hw];decide
theorem ZkT{b:List Int}{ws:List Str}(h:Za7 b ws)(e:Bool):(ZiY b ws e).length<=100000:=by
 have h1:=(Zd7 h.bd).jlen
 rw[<- UX] at h1
 have:=Zb0 10 (k:=6060) (ws:=Jn b::(ws++Ja e)) fun w hw=>by
  rcases Zxd.mp hw with rfl|hw
  ·exact h1
  ·rcases Zxg.mp hw with hw|hw
   ·have:=(Zci (h.q w hw)).2.1;lia
   ·rw[UK hw];decide
 have hl:(Jn b::(ws++Ja e)).length<=12:=by
  have:=h.len
  cases e<;>simp only[Zxp,Zxq,Ja,Zx9,if_true,if_false,Bool.false_eq_true]<;>lia
 have:(Jn b::(ws++Ja e)).length*(6060+1)<=12*6061:=Zyv _ hl
 exact Zx2 ‹(Str.join ⟨#[10]⟩ (Jn b::(ws++Ja e))).length<=_› (by lia)
theorem ZiT{b:List Int}(h:JI b):b.map ZfD=b:=by
 rw[List.map_congr_left (g:=id) (fun x hx=>by
  have:=Qf h x hx
  unfold ZfD
  rw[if_pos (Int.lt_of_le_of_lt this.2 (by decide))];rfl),List.map_id]
noncomputable def ZjH(b:List Int)(ks:List Str):PV:=.box none (.dk (ks.map Sum.inr)) (ks.map fun w=>V5 (Ur b w))
theorem ZdD{b:List Int}{w:Str}:∀{ks:List Str},atK (ks.map (Sum.inr:Str->Key)) (ks.map fun w=>V5 (Ur b w)) (Sum.inr w)=if w∈ks then some (V5 (Ur b w)) else none
 |[]=>by simp[atK]
 |k::ks=>by
  simp only[Zxf,atK,ZdD (ks:=ks),Zxd]
  by_cases c:k=w
  ·subst c;simp
  ·rw[if_neg (fun z=>c (Sum.inr.inj z))]
   have:¬w=k:=fun z=>c z.symm
   simp[this]
theorem ZkY{b:List Int}{w:Str}{ks:List Str}:ZmN (fun x=>!x) (.str w) (ZjH b ks)=.ok (.bl (!decide (w∈ks))):=by
 simp only[ZmN,ZjH,dAt,Zcy,Zyi,ZdD]
 by_cases c:w∈ks<;>simp[c]
theorem Zjd{b:List Int}{w:Str}{ks:List Str}(h:w∈ks):Zi0 (ZjH b ks) (.str w)=.ok (V5 (Ur b w)):=by
 simp only[Zi0,ZjH,dAt,Zcy,Zyi,ZdD,if_pos h]
theorem Zjc{b:List Int}{w:Str}{ks:List Str}(h:w ∉ ks)(hl:ks.length<1000):Ziz (ZjH b ks) (.str w) (V5 (Ur b w))=.ok (ZjH b (ks++[w])):=by
 have hm:(Sum.inr w:Key) ∉ ks.map (Sum.inr:Str->Key):=fun z=>by
  obtain⟨v,hv,e⟩:=Zxr.mp z
  cases e;exact h hv
 simp only[Ziz,ZjH,Zcy]
 rw[if_pos ⟨by rw[Zxc];lia,.inl (by unfold ZmQ;simpa using hm)⟩]
 unfold Zbj Q9
 rw[if_neg hm,if_neg hm,ZxF,ZxF]
 rfl
theorem Zaa{ns:List Int}(h:ns.length<=100000):QE (V5 (.lst (ns.map PV.int)))/\thw (V5 (.lst (ns.map PV.int)))=.lst (ns.map PV.int):=by
 rw[V5,ZaT]
 exact⟨.inl ⟨ns,h,rfl⟩,rfl⟩
theorem UQ(s:Str):QE (V5 (.str s))/\thw (V5 (.str s))=.str s:=by rw[V5];exact⟨.inr (.inl ⟨s,rfl⟩),rfl⟩
theorem Zbn(i:Int):QE (V5 (.int i))/\thw (V5 (.int i))=.int i:=by rw[V5];exact⟨.inr (.inr ⟨i,rfl⟩),rfl⟩
def ZmV(x:PV):Prop:=∃xs,x=.tup xs/\xs.length<=10/\∀y∈xs,QE (V5 y)/\thw (V5 y)=y
theorem Zc6:∀xs:List PV,frzPs xs=xs.map V5
 |[]=>rfl
 |x::xs=>by rw[frzPs,Zc6 xs];rfl
theorem ZmV.copy{x:PV}(h:ZmV x):ZpQ.fn [V5 x]=.ok x/\(V5 x).flat=true:=by
 obtain⟨xs,rfl,hl,hp⟩:=h
 have e:V5 (.tup xs)=.tup (xs.map V5):=by rw[V5,Zc6]
 rw[e]
 have hq:∀y∈xs.map V5,QE y:=fun y hy=>by
  obtain⟨z,hz,rfl⟩:=Zxr.mp hy
  exact(hp z hz).1
 refine⟨?_,PV.flats_all.mpr fun y hy=>(hq y hy).flat⟩
 rw[ZsE ⟨by rw[Zxc];lia,hq⟩,ZxD,List.map_congr_left (f:=thw∘V5) (g:=id) fun y hy=>(hp y hy).2,List.map_id]
theorem Zfq{b:List Int}(h:JI b):(Uv b).1.length=b.length:=by
 obtain⟨h1,_⟩:=Zah (bs:=b) (by have:=h.lo;lia)
 unfold ZbU at h1
 obtain⟨k,_,e⟩:=Zxr.mp h1
 rw[<- e]
 simp[Jx,tab]
theorem ZdC{b:List Int}{w:Str}(h:JI b)(hw:w∈Q3):ZmV (Ur b w):=by
 have ref:∀n:Str,ZmV (.tup [.str "refused",.str n]):=fun n=>⟨_,rfl,ZxG rfl,fun y hy=>by
  simp only[Zxd,Zxx,or_false] at hy
  rcases hy with rfl|rfl<;>exact UQ _⟩
 unfold Ur Q5
 by_cases c1:w = "home"
 ·rw[if_pos c1]
  unfold Vz
  by_cases hy:Qh (ZV b)
  ·rw[if_pos hy]
   simp only[orX]
   have hs:(ZV b).sum<=10000:=by have:=hy.2.2.1;lia
   have h0:=Zbg hy.1
   unfold Zb1
   split
   ·refine⟨_,rfl,ZxG rfl,fun y hy=>?_⟩
    simp only[Zxd,Zxx,or_false] at hy
    rcases hy with rfl|rfl
    ·exact UQ _
    ·exact Zaa (by rw[Qx];lia)
   ·refine⟨_,rfl,ZxG rfl,fun y hy=>?_⟩
    simp only[Zxd,Zxx,or_false] at hy
    rcases hy with rfl|rfl|rfl
    ·exact UQ _
    ·exact Zbn _
    ·exact Zbn _
  ·rw[if_neg hy]
   simp only[orX]
   exact ref _
 ·rw[if_neg c1]
  by_cases c2:w = "homes"
  ·rw[if_pos c2]
   unfold ZbN
   by_cases hc:0<=b.sum/\b.sum<=10000
   ·rw[if_pos hc]
    simp only[orX]
    refine⟨_,rfl,ZxG rfl,fun y hy=>?_⟩
    simp only[Zxd,Zxx,or_false] at hy
    rcases hy with rfl|rfl
    ·exact UQ _
    ·exact Zaa (by rw[JM];have:=Vt hc.1 hc.2;lia)
   ·rw[if_neg hc]
    simp only[orX]
    exact ref _
  ·rw[if_neg c2]
   refine⟨_,rfl,ZxG rfl,fun y hy=>?_⟩
   simp only[Zxd,Zxx,or_false] at hy
   rcases hy with rfl|rfl|rfl
   ·exact UQ _
   ·exact Zaa (by rw[Zfq h];have:=h.hi;lia)
   ·exact Zbn _
theorem Zed{x:PV}{xs:List PV}:pIx (.lst (x::xs)) (.int 0)=.ok x:=by
 have:atI (x::xs) 0=some x:=by
  unfold atI ixN
  rw[if_pos (by decide),if_pos (by rw[Zxp];lia)];rfl
 simp only[pIx,this]
theorem ZkL{x:PV}{xs:List PV}:ZhR (x::xs) (some 1) none=xs:=by
 unfold ZhR HT.sIx
 have h1:min (1:Int).toNat (x::xs).length=1:=by rw[Zxp];show min 1 (xs.length+1)=1;lia
 simp only[show ¬((1:Int)<0) by decide,if_false,h1,List.drop_succ_cons,List.drop_zero]
 rw[Zyl (by rw[Zxp];lia)]
theorem Zg1{x:PV}{xs:List PV}:pIx (.lst (xs++[x])) (.int (-1))=.ok x:=by
 have:atI (xs++[x]) (-1)=some x:=by
  unfold atI ixN
  rw[if_neg (by decide),if_pos (by rw[Zxq,ZxC];lia)]
  show (xs++[x])[(-1+((xs++[x]).length:Int)).toNat]?=_
  rw[show (-1+((xs++[x]).length:Int)).toNat=xs.length by rw[Zxq,ZxC];lia,Zxn (Zxi _),Nat.sub_self]
  rfl
 simp only[pIx,this]
theorem Zct{L:List Str}(h:L.length<=1000):newF (L.map PV.str)=.ok (.lst (L.map PV.str)):=by
 unfold newF
 rw[VX,Zxc,decide_eq_true (by lia)];rfl
theorem ZgW:PyData.canLay0 (.str ("":Str))=true:=by rw[PyData.canLay0];decide +kernel
theorem ZiX{b:List Int}{ws:List Str}(h:Za7 b ws)(e:Bool):∃z,pIx (.lst ((ws++Ja e).map PV.str)) (.int (-1))=.ok (.str z)/\PyData.canLay0 (.str z)=true/\(z==("":Str))=e:=by
 cases e with
 |true=>exact⟨"",by rw[show Ja true=[("":Str)] from rfl,ZxF];exact Zg1,ZgW,by decide⟩
 |false =>
  obtain⟨w,hw⟩:∃w,ws.getLast?=some w:=by
   cases hg:ws.getLast? with
   |none=>exact absurd (List.getLast?_eq_none_iff.mp hg) h.ne
   |some w=>exact⟨w,rfl⟩
  obtain⟨l,rfl⟩:=List.getLast?_eq_some_iff.mp hw
  have hq:=h.q w (by simp)
  exact⟨w,by rw[show Ja false=[] from rfl,ZxA,ZxF];exact Zg1,ZaH hq,(Zci hq).2.2⟩
noncomputable def ZnF:Type:={a:List Int×List Str×Bool // Za7 a.1 a.2.1}
noncomputable def Zpb:Pm:=⟨ZnF,fun a=>[.str (ZiY a.1.1 a.1.2.1 a.1.2.2)],fun _=>True,fun a=>.ok (.lst (a.1.2.1.map (Ur a.1.1)))⟩
theorem Zvi(T:Txt w K mg){f:Addr}{fd:FuncData}(F:Fun K "answers_to" "answers_to" ZpA f fd):Jv P w K mg base (CX1 P w) 10 f fd ["text"] (spF K 1 .F (W1 K) Zpb.fn):=by
 have ZvQ:=Qq (P:=P) (w:=w) (base:=base) T.ZvB Zvp (fun F=>Zvf T F)
 have ZwM:=VD (P:=P) (w:=w) (base:=base) T.ZuA ZtY (fun F=>Zwz T F)
 have Zwu:=VD (P:=P) (w:=w) (base:=base) T.Zwj ZvN (fun F=>Zv7 T F)
 refine F.okX Zpp rfl rfl (fun cdv A outer s H E hr=>?_)
 have hu:=hr.units
 refine⟨_,_,⟨[],[],[],.F⟩,rfl,(Zh (ZA (i:=1) Zpp.nd rfl (by first|exact Or.inl rfl|exact Or.inr rfl) (Zax PySem.F.plainAttrs_str PySem.F.slot_str_split PySem.F.type_str_split Zbu (pv 0) (Za ZJ Zg)))
   (Zh (ZA (i:=2) Zpp.nd rfl (by first|exact Or.inl rfl|exact Or.inr rfl) (JJ ZvQ (hr.mono (by decide)) rfl VB (Za (JD (ZL (K:=K)) (pv 1) Zk (fun _ _=>rfl)) Zg)))
   (Zh (ZA (i:=3) Zpp.nd rfl (by first|exact Or.inl rfl|exact Or.inr rfl) (Jz (Jy (K:=K)) (pv 1) (Vk Zk) Vl))
   (Zh (Jc (PW.pt (ZaI (Zx Us (Zn (Z4 (K:=K)) rfl T.z_len ZX (Za (pv 3) Zg)) Zk (Zz _)) (Qm (Zx (ZS (K:=K) hu) (JD (ZL (K:=K)) (pv 3) (ZlS Zjg Zk) (fun _ _=>rfl)) ZJ (Zz _))))) (Zi (V8 (ZlV PySem.F.plainAttrs_list PySem.F.slot_list_pop PySem.F.type_list_pop Zmg (pv 3)))) Z5)
   (Zh (ZA (i:=4) Zpp.nd rfl (by first|exact Or.inl rfl|exact Or.inr rfl) Zik)
   (Zh (PS.nox (ZdY PassesOwn.never rfl (Jq (K:=K) (pv 3)) (Qn (i:=5) Zpp.nd rfl (by first|exact Or.inl rfl|exact Or.inr rfl)) (Zi (Jc (Zjr (Zgn (hu1 hu) (pv 5) (pv 4))) (Zi (ZjY (hu1 hu) (pv 4) (pv 5) (Zkb (Zq Zwu (hr.mono (by decide)) rfl (Za (pv 2) (Za (pv 5) Zg)))) rfl)) Z5))))
   (Zi (Zu (Zbm (Jq (K:=K) (pv 3)) (Zdh Zpp.nd) (fun _ _ _ _=>Zec) (fun _ _ _ _=>(Zq ZwM (hr.mono (by decide)) rfl (Za (Zkc (hu1 hu) (pv 4) (pv 6) (fun _ _=>rfl)) Zg))) hv1 Zpp.nd rfl))))))))),
   (Zl (Γm:=[.S,.O,.U,.U,.U,.U]) (ZQ (i:=1) (ZbD (Zc (i:=0) (m:=.S) rfl (by decide)) (Zb (DE.toA ZI) Ze)) (by decide))
   (Zl (Γm:=[.S,.O,.O,.U,.U,.U]) (ZQ (i:=2) (Zlm (Zf Zm) (Zb (Jf (te:=tC .non) (Zc (i:=1) (m:=.O) rfl (by decide)) (DE.toA Zj)) Ze)) (by decide))
   (Zl (Γm:=[.S,.O,.O,.O,.U,.U]) (ZQ (i:=3) (VZ (Zc (i:=1) (m:=.O) rfl (by decide)) (Vp (DE.toA Zj)) Vq) (by decide))
   (Zl (Γm:=[.S,.O,.O,.O,.U,.U]) (Jd (ZaV (Zw (DE.toA (Uu (DE.toA (Jb (Zb (Zc (i:=3) (m:=.O) rfl (by decide)) Ze))) (DE.toA Zj)))) (Zw (DE.toA (ZM (g:=id) (Jf (te:=tC .non) (Zc (i:=3) (m:=.O) rfl (by decide)) (DE.toA (ZjD (DE.toA Zj)))) (DE.toA ZI)))))
   (Zk6 (i:=3) rfl)
   Z6)
   (Zl (Γm:=[.S,.O,.O,.O,.O,.U]) (ZQ (i:=4) ZiR (by decide))
   (Zl (Γm:=[.S,.O,.O,.S,.O,.U]) (Ze5 (Γl:=[.S,.O,.O,.S,.O,.U]) (U9 (ZbB (i:=3) (m:=.O) rfl (by decide))) rfl (ZmU (i:=5) (by decide))
   (DS.out (Y:=⟨[.S,.O,.O,.S,.O,.P],[.S,.O,.O,.S,.O,.U],[.S,.O,.O,.S,.O,.U],.F⟩) (Y':=⟨[.S,.O,.O,.S,.O,.U],[.S,.O,.O,.S,.O,.U],[.S,.O,.O,.S,.O,.U],.F⟩) (Jd (ZcC (DE.toA (Zhx (DE.toA (Zp (i:=5) rfl)) (Zc (i:=4) (m:=.O) rfl (by decide)))))
   (ZiJ (i:=4) rfl (DE.PF (ZkG (Zk5 (Zf (Zf Zm)) (Pm.calm_fn Zcp) (Zb (Zc (i:=2) (m:=.S) rfl (by decide)) (Zb (DE.toA (Zp (i:=5) rfl)) Ze))))) (DE.toA (Zp (i:=5) rfl)))
   Z6) rfl rfl rfl rfl))
   (ZD (ZbF (k:=1) (DI.c (U9 (Zao (i:=3) rfl))) Zoh Zhs (Zk5 (Zf Zm) (Pm.calm_fn ZeZ) (Zb (ZkH (Zc (i:=4) (m:=.O) rfl (by decide)) (Zc (i:=6) (m:=.S) rfl (by decide))) Ze)))))))))), ?_⟩
 refine Pm.ref Zpb (g:=fun xs=>_) ?_
 rintro⟨⟨b,ws,e⟩,(h:Za7 b ws)⟩ -
 simp only[Zpb]
 have hl:=h.len
 walk_at "pd"
 rw[show Zab (ZiY b ws e) [.str ("\n":Str)]=.ok (.lst ((Jn b::(ws++Ja e)).map PV.str)) by
  rw[show ("\n":Str)=⟨#[10]⟩ by decide,ZaM (ZkT h e) (by rw[Qg h];cases e<;>simp only[Zxp,Zxq,Ja,Zx9,if_true,if_false,Bool.false_eq_true]<;>lia),Qg h]]
 walk_at "pd"
 rw[Zed]
 walk_at "pd"
 rw[ZqQ ⟨⟨by have:=h.bd.lo;intro z;rw[z] at this;simp at this,fun x hx=>⟨(Qf h.bd x hx).1,Zy8 (Qf h.bd x hx).2 (by decide)⟩⟩,by have:=h.bd.hi;lia⟩,ZiT h.bd,if_pos (Qw.mpr h.bd)]
 walk_at "pd"
 rw[ZkL]
 walk_at "pd"
 have hT:(ws++Ja e).length<=11:=by cases e<;>simp only[Zxq,Ja,Zx9,ZxC,if_true,if_false,Bool.false_eq_true]<;>lia
 rw[Zct (by lia)]
 walk_at "pd"
 generalize hTAIL:(fun(ρ:List PV)=>(((asL (gv 3 (ρ.set 4 (PV.box none (Sh.dk []) []))))).thenS _).seq _)=TAIL
 obtain⟨z,hz,lz,hz2⟩:=ZiX h e
 have hL0:0<(ws++Ja e).length:=by
  have:=Zyb.mpr h.ne
  rw[Zxq];lia
 have hpop:e=true->pPop (.lst ((ws++Ja e).map PV.str))=.ok (.lst (ws.map PV.str)):=fun he=>by
  subst he
  rw[show Ja true=[("":Str)] from rfl,ZxF]
  show (if (ws.map PV.str++[PV.str ""]).length=0 then _ else _)=_
  rw[if_neg (by rw[Zxq,ZxC];lia)]
  show Rr.ok (PV.lst (ws.map PV.str++[PV.str ""]).dropLast)=_
  rw[List.dropLast_concat]
 rw[show ZfB [.lst ((ws++Ja e).map PV.str)]=.ok (.int ((ws++Ja e).map PV.str).length) from rfl]
 walk_at "pd"
 rw[decide_eq_true (show (0:Int)<(((ws++Ja e).map PV.str).length:Int) by rw[Zxc];lia)]
 walk_at "pd"
 rw[hz]
 walk_at "pd"
 rw[VT lz ZgW,hz2]
 walk_at "pd"
 have hgo:(TAIL [.str (ZiY b ws e),.lst (.str (Jn b)::(ws++Ja e).map PV.str),.lst (b.map PV.int),.lst (ws.map PV.str),.non,.non]).out=.ok (.lst (ws.map (Ur b))):=by
  subst hTAIL
  walk_at "pd"
  generalize hw:Zfv _ _ _=W
  obtain⟨ρ',rfl,ks,v,hk,hkl,rfl⟩:=Qa hw (fun i ρ=>∃ks v,(∀w,w∈ks ↔ w∈ws.take i)/\ks.length<=i/\ρ=[.str (ZiY b ws e),.lst (.str (Jn b)::(ws++Ja e).map PV.str),.lst (b.map PV.int),.lst (ws.map PV.str),ZjH b ks,v]) ⟨[],_,fun w=>by simp,Zxi _,rfl⟩ (by
   rintro i x ρ hx ⟨ks,v,hk,hkl,rfl⟩
   rw[Zxm] at hx
   have hi:i<ws.length:=by
    by_cases c:i<ws.length
    ·exact c
    ·rw[Zxl (by lia)] at hx;cases hx
   rw[Zxa hi] at hx
   cases hx
   have hq:ws[i]∈Q3:=h.q _ (ZyB hi)
   have ht:ws.take (i+1)=ws.take i++[ws[i]]:=by rw[List.take_succ,Zxa hi];rfl
   obtain⟨_,fl⟩:=(ZdC h.bd hq).copy
   walk_at "pd"
   rw[ZkY]
   by_cases c:ws[i]∈ks
   ·rw[decide_eq_true c]
    walk_at "pd"
    refine UR ⟨ks,_,fun w=>?_,by lia,rfl⟩
    rw[ht,Zxg,Zx7,hk]
    exact⟨fun z=>.inl z,fun z=>z.elim id fun z=>by rw[z];exact(hk _).mp c⟩
   ·rw[decide_eq_false c]
    walk_at "pd"
    rw[Zrq ⟨h.bd,hq⟩]
    walk_at "pd"
    rw[show grd (V5 (Ur b ws[i]))=.ok (V5 (Ur b ws[i])) from if_pos fl]
    walk_at "pd"
    rw[Zjc c (by lia)]
    walk_at "pd"
    refine UR ⟨ks++[ws[i]],_,fun w=>?_,by rw[Zxq,ZxC];lia,rfl⟩
    rw[ht,Zxg,Zxg,hk])
  walk_at "pd"
  rw[Zxc,List.take_length] at hk
  rw[ZjA (p:=fun _=>true) (g:=Ur b) (fun w hw=>by
   rw[Zjd ((hk w).mpr hw)]
   simp only[Rr.bind_ok]
   rw[(ZdC h.bd (h.q w hw)).copy.1]
   rfl),Zy3.mpr fun _ _=>rfl]
  walk_at "pd"
 cases e with
 |true =>
  rw[hpop rfl]
  walk_at "pd"
  exact hgo
 |false =>
  walk_at "pd"
  rw[show List.map PV.str (ws++Ja false)=List.map PV.str ws by rw[show Ja false=[] from rfl,ZxA]] at hgo ⊢
  exact hgo
theorem ZjF{b:List Int}{ws:List Str}(h:Za7 b ws)(e:Bool):(ws++Ja e).filter (fun w=>!(w==("":Str)))=ws:=by
 rw[List.filter_append,Zy3.mpr fun w hw=>by rw[(Zci (h.q w hw)).2.2];rfl,List.filter_eq_nil_iff.mpr fun w hw=>by rw[UK hw];decide,ZxA]
theorem ZqT{b:List Int}{ws:List Str}{e:Bool}(h:Za7 b ws):Zpb.fn [.str (ZiY b ws e)]=.ok (.lst (ws.map (Ur b))):=Pm.fn_eq Zpb (⟨(b,ws,e),h⟩:ZnF) trivial fun(a:ZnF) q=>by
 obtain⟨⟨b',ws',e'⟩,(h':Za7 b' ws')⟩:=a
 simp only[Zpb,List.cons.injEq,PV.str.injEq,and_true] at q ⊢
 have q2:=congrArg (fun s=>Txt.split s ⟨#[10]⟩) q
 rw[Qg h',Qg h] at q2
 obtain⟨q3,q4⟩:=List.cons.inj q2
 have q5:=congrArg (List.filter fun w=>!(w==("":Str))) q4
 rw[ZjF h',ZjF h] at q5
 have bn:∀{b:List Int},JI b->b≠[]/\∀x∈b,0<=x/\x<10^110:=fun {b} hb=>⟨by have:=hb.lo;intro z;rw[z] at this;simp at this,fun x hx=>⟨(Qf hb x hx).1,Zy8 (Qf hb x hx).2 (by decide)⟩⟩
 have q6:=Zc1 (bn h'.bd) (bn h.bd) q3
 rw[q5,q6]
noncomputable def ZpG:Pm:=⟨List Int×Int,fun a=>[.lst (a.1.map PV.int),.int a.2],fun a=>1<=a.2,fun a=>.ok (.int (a.1.getD (a.2-1).toNat 0))⟩
theorem Zv8(T:Txt w K mg){f:Addr}{fd:FuncData}(F:Fun K "_law_held" "_law_held" Zqe f fd):Jv P w K mg base CX0 1 f fd ["yard", "pit"] (spF K 2 .P W0 ZpG.fn):=by
 refine F.okP Zv0 rfl rfl (fun cdv A outer s H E hr=>?_)
 have hu:=hr.units
 refine⟨_,_,⟨[],[],[],.P⟩,rfl,(Zh (Jc (Zx Zkm (pv 1) (Zn (Z4 (K:=K)) rfl T.z_len ZX (Za (pv 0) Zg)) (Zz _)) (Zi (Zu (JD (ZL (K:=K)) (pv 0) (Z8 J3 (pv 1) Zk) (fun _ _=>rfl)))) Z5)
   (Zi (Zu Zk))),
   (Zl (Γm:=[.S,.S]) (Jd (Zw (DE.toA (ZkE (Zc (i:=1) (m:=.S) rfl (by decide)) (DE.toA (Jb (Zb (Zc (i:=0) (m:=.S) rfl (by decide)) Ze))))))
   (Z7 (DE.grd (Jf (te:=tC .non) (Zc (i:=0) (m:=.S) rfl (by decide)) (DE.toA (J6 (Zc (i:=1) (m:=.S) rfl (by decide)) (DE.toA Zj))))))
   Z6)
   (Z7 Zj)), ?_⟩
 refine Pm.ref ZpG (g:=fun xs=>_) ?_
 rintro⟨ns,k⟩ (hk:1<=k)
 simp only[ZpG]
 walk_at "pd"
 by_cases h:k<=ns.length
 ·rw[decide_eq_true h]
  walk_at "pd"
 ·rw[decide_eq_false h]
  walk_at "pd"
  rw[Vw (by lia)]
theorem ZpL{ns:List Int}{k:Int}(h:1<=k):ZpG.fn [.lst (ns.map PV.int),.int k]=.ok (.int (ns.getD (k-1).toNat 0)):=Pm.fn_eq ZpG (ns,k) h fun(a:List Int×Int) e=>by (simp only[ZpG,List.cons.injEq,PV.lst.injEq,PV.int.injEq,PV.str.injEq,PV.bl.injEq,PV.tup.injEq,Z3,and_true] at e ⊢;first|(simp only[e];done)|(subst e;rfl)|(rw[e]))
noncomputable def ZoY:Pm:=⟨List Int,fun ns=>[.lst (ns.map PV.int)],fun ns=>ns.length<=1000000,fun ns=>.ok (.lst ((ZV ns).map PV.int))⟩
theorem Zs1(T:Txt w K mg){f:Addr}{fd:FuncData}(F:Fun K "_law_trimmed" "_law_trimmed" Zpf f fd):Jv P w K mg base CX0 1 f fd ["yard"] (spF K 1 .F W0 ZoY.fn):=by
 refine F.okP Zrh rfl rfl (fun cdv A outer s H E hr=>?_)
 have hu:=hr.units
 refine⟨_,_,⟨[],[],[],.F⟩,rfl,(Zh (ZA (i:=1) Zrh.nd rfl (by first|exact Or.inl rfl|exact Or.inr rfl) (Zn (Z4 (K:=K)) rfl T.z_len ZX (Za (pv 0) Zg)))
   (Zh (Vu PassesOwn.never (PW.pt (ZaI (Zx Us (pv 1) Zk (Zz _)) (Qm (Zx (ZS (K:=K) hu) (JD (ZL (K:=K)) (pv 0) (Z8 J3 (pv 1) Zk) (fun _ _=>rfl)) Zk (Zz _))))) (Zi (ZA (i:=1) Zrh.nd rfl (by first|exact Or.inl rfl|exact Or.inr rfl) (Z8 J3 (pv 1) Zk))))
   (Zi (Zu (J0 (Qv (K:=K)) rfl T.z_list Ub (Za (Jz (Jy (K:=K)) (pv 0) Vl (Vk (pv 1))) Zg)))))),
   (Zl (Γm:=[.S,.P]) (ZP (i:=1) (Jb (Zb (Zc (i:=0) (m:=.S) rfl (by decide)) Ze)) (by decide))
   (Zl (Γm:=[.S,.P]) (Vx (Γ:=[.S,.P]) (ZaV (Zw (DE.toA (Uu (DE.toA (Zp (i:=1) rfl)) (DE.toA Zj)))) (Zw (DE.toA (ZM (g:=id) (Jf (te:=tC .non) (Zc (i:=0) (m:=.S) rfl (by decide)) (DE.toA (J6 (DE.toA (Zp (i:=1) rfl)) (DE.toA Zj)))) (DE.toA Zj)))))
   (ZP (i:=1) (J6 (DE.toA (Zp (i:=1) rfl)) (DE.toA Zj)) (by decide)))
   (ZD (ZbE (Zb (DE.toA (VZ (Zc (i:=0) (m:=.S) rfl (by decide)) Vq (Vp (DE.toA (Zp (i:=1) rfl))))) Ze))))), ?_⟩
 refine Pm.ref ZoY (g:=fun xs=>_) ?_
 intro (ns:List Int) (hn:ns.length<=1000000)
 simp only[ZoY]
 walk_at "pd"
 have ht:=Uf ns ns.length
 generalize hw:Vh _ _ _=W
 obtain⟨ρ',rfl,rfl⟩:=Jg hw (ns.length-Jm ns ns.length) (fun k ρ=>ρ=[.lst (ns.map PV.int),.int (((ns.length-k:Nat):Int))]) rfl (by
  rintro k ρ hk rfl
  have hz:=Ue ns ns.length (ns.length-k-1) (by lia) (by lia)
  constructor
  ·walk_at "pd"
   rw[decide_eq_true (by lia)]
   walk_at "pd"
   rw[show ((ns.length-k:Nat):Int)-1=((ns.length-k-1:Nat):Int) by lia,Zxt,hz]
   walk_at "pd"
  ·walk_at "pd"
   exact UR (by rw[show ((ns.length-k:Nat):Int)-1=((ns.length-(k+1):Nat):Int) by lia])) (by
  rintro ρ rfl
  have hl:=Ug ns ns.length
  rw[show ns.length-(ns.length-Jm ns ns.length)=Jm ns ns.length by lia]
  walk_at "pd"
  by_cases h:0<Jm ns ns.length
  ·rw[decide_eq_true (by lia)]
   walk_at "pd"
   rw[show ((Jm ns ns.length:Nat):Int)-1=((Jm ns ns.length-1:Nat):Int) by lia,Zxt]
   rw[decide_eq_false (hl h)]
  ·rw[decide_eq_false (by lia)]
   walk_at "pd")
 walk_at "pd"
 rw[show ns.length-(ns.length-Jm ns ns.length)=Jm ns ns.length by lia]
 rfl
theorem ZpR{ns:List Int}(h:ns.length<=1000000):ZoY.fn [.lst (ns.map PV.int)]=.ok (.lst ((ZV ns).map PV.int)):=Pm.fn_eq ZoY ns h fun(a:List Int) e=>by (simp only[ZoY,List.cons.injEq,PV.lst.injEq,PV.int.injEq,PV.str.injEq,PV.bl.injEq,PV.tup.injEq,Z3,and_true] at e ⊢;first|(simp only[e];done)|(subst e;rfl)|(rw[e]))
noncomputable def Zpm:Pm:=⟨List Int×Int,fun a=>[.lst (a.1.map PV.int),.int a.2],fun a=>a.1.length<=100000/\1<=a.2/\a.2<=a.1.length,fun a=>.ok (.lst ((ZV (Zjn a.1 a.2)).map PV.int))⟩
theorem ZuP(T:Txt w K mg){f:Addr}{fd:FuncData}(F:Fun K "_law_behind" "_law_behind" Zpt f fd):Jv P w K mg base CX0 2 f fd ["yard", "pit"] (spF K 2 .F W0 Zpm.fn):=by
 have Zr9:=VD (P:=P) (w:=w) (base:=base) T.ZsV ZsG (fun F=>Zs1 T F)
 refine F.okP ZsT rfl rfl (fun cdv A outer s H E hr=>?_)
 have hu:=hr.units
 refine⟨_,_,⟨[],[],[],.F⟩,rfl,(Zh (JC (i:=2) ZsT.nd rfl (Jq (K:=K) (Jz (Jy (K:=K)) (pv 0) Vl (Vk (Z8 J3 (pv 1) Zk)))) (fun _ _ _ _=>(Z8 J5 (pv 3) Zk)) rfl)
   (Zi (Zu (Zq Zr9 (hr.mono (by decide)) rfl (Za (Z8 (U2 (K:=K)) (Z8 (U2 (K:=K)) (pv 2) (VQ (Za Zk Zg))) (Jz (Jy (K:=K)) (pv 0) (Vk (pv 1)) Vl)) Zg))))),
   (Zl (Γm:=[.S,.S,.O]) (JG (i:=2) (ZN (DI.c (U9 (DE.FZ (VZ (Zc (i:=0) (m:=.S) rfl (by decide)) Vq (Vp (DE.toA (J6 (Zc (i:=1) (m:=.S) rfl (by decide)) (DE.toA Zj)))))))) (DE.PF (J8 (Zc (i:=3) (m:=.S) rfl (by decide)) (DE.toA Zj)))) (by decide))
   (ZD (Zhz (Zf Zm) (Zb (DE.toA (UC (DE.toA (UC (Zc (i:=2) (m:=.O) rfl (by decide)) (DE.toA (VH (Jl (DE.PF Zj) JS))))) (DE.toA (VZ (Zc (i:=0) (m:=.S) rfl (by decide)) (Vp (Zc (i:=1) (m:=.S) rfl (by decide))) Vq)))) Ze)))), ?_⟩
 refine Pm.ref Zpm (g:=fun xs=>_) ?_
 rintro⟨ns,p⟩ ⟨hn,h0,h1⟩
 simp only at hn h0 h1
 simp only[Zpm]
 walk_at "pd"
 rw[Zep (g:=(·+1)) (fun z _=>rfl)]
 walk_at "pd"
 rw[ZpR (by simp;lia)]
 rfl
theorem Zq8{ns:List Int}{p:Int}(h:ns.length<=100000/\1<=p/\p<=ns.length):Zpm.fn [.lst (ns.map PV.int),.int p]=.ok (.lst ((ZV (Zjn ns p)).map PV.int)):=Pm.fn_eq Zpm (ns,p) h fun(a:List Int×Int) e=>by (simp only[Zpm,List.cons.injEq,PV.lst.injEq,PV.int.injEq,PV.str.injEq,PV.bl.injEq,PV.tup.injEq,Z3,and_true] at e ⊢;first|(simp only[e];done)|(subst e;rfl)|(rw[e]))
noncomputable def Zpo:Pm:=⟨Int,fun s=>[.lst ((Zy s).map PV.int),.lst ((Zaw s).map PV.int)],fun s=>0<=s/\s<=10000,fun _=>.ok (.bl true)⟩
theorem Zu4(T:Txt w K mg){f:Addr}{fd:FuncData}(F:Fun K "_law_planned" "_law_planned" Zpg f fd):Jv P w K mg base CX0 3 f fd ["yard", "plan"] (spF K 2 .P W0 Zpo.fn):=by
 have Zvx:=VD (P:=P) (w:=w) (base:=base) T.Zvn ZuV (fun F=>ZuP T F)
 refine F.okP Zq3 rfl rfl (fun cdv A outer s H E hr=>?_)
 have hu:=hr.units
 refine⟨_,_,⟨[],[],[],.P⟩,rfl,(Zh (ZA (i:=2) Zq3.nd rfl (by first|exact Or.inl rfl|exact Or.inr rfl) (J0 (Qv (K:=K)) rfl T.z_list Ub (Za (pv 0) Zg)))
   (Zh (ZdY PassesOwn.never rfl (Jq (K:=K) (pv 1)) (Qn (i:=3) Zq3.nd rfl (by first|exact Or.inl rfl|exact Or.inr rfl)) (Zh (Jc (PW.pt (Zbi (Zx Zi3 (pv 3) Zk (Zz _)) (Zbi (Zx Us (pv 3) (Zn (Z4 (K:=K)) rfl T.z_len ZX (Za (pv 2) Zg)) (Zz _)) (QX (Zx (Zeg (K:=K) hu) (JD (ZL (K:=K)) (pv 2) (Z8 J3 (pv 3) Zk) (fun _ _=>rfl)) (pv 3) (Zz _)))))) (Zi (Zu Zde)) Z5)
   (Zi (ZA (i:=2) Zq3.nd rfl (by first|exact Or.inl rfl|exact Or.inr rfl) (Zq Zvx (hr.mono (by decide)) rfl (Za (pv 2) (Za (pv 3) Zg)))))))
   (Zi (Zu (ZaK (Jh (ZS (K:=K) hu) (pv 2) (VQ Zg) (Zz _)) (ZaJ (Jh (ZS (K:=K) hu) (Zn (Z4 (K:=K)) rfl T.z_len ZX (Za (pv 1) Zg)) (Zn (Jo (K:=K) rfl) rfl T.z_sum Uz (Za (pv 0) Zg)) (Zz _)))))))),
   (Zl (Γm:=[.S,.S,.O,.U]) (ZQ (i:=2) (ZbE (Zb (Zc (i:=0) (m:=.S) rfl (by decide)) Ze)) (by decide))
   (Zl (Γm:=[.S,.S,.O,.U]) (Ze5 (Γl:=[.S,.S,.O,.U]) (U9 (Zao (i:=1) rfl)) rfl (ZmU (i:=3) (by decide))
   (DS.out (Y:=⟨[.S,.S,.O,.P],[.S,.S,.O,.U],[.S,.S,.O,.U],.P⟩) (Y':=⟨[.S,.S,.O,.U],[.S,.S,.O,.U],[.S,.S,.O,.U],.P⟩) (Zl (Γm:=[.S,.S,.O,.P]) (Jd (Zb6 (Zw (DE.toA (ZiQ (DE.toA (Zp (i:=3) rfl)) (DE.toA Zj)))) (Zb6 (Zw (DE.toA (Uu (DE.toA (Zp (i:=3) rfl)) (DE.toA (Jb (Zb (Zc (i:=2) (m:=.O) rfl (by decide)) Ze)))))) (Zw (DE.toA (ZM (g:=(!·)) (Jf (te:=tC .non) (Zc (i:=2) (m:=.O) rfl (by decide)) (DE.toA (J6 (DE.toA (Zp (i:=3) rfl)) (DE.toA Zj)))) (DE.toA (Zp (i:=3) rfl)))))))
   (Z7 Zd1)
   Z6)
   (ZQ (i:=2) (Zhz (Zf (Zf Zm)) (Zb (Zc (i:=2) (m:=.O) rfl (by decide)) (Zb (DE.toA (Zp (i:=3) rfl)) Ze))) (by decide))) rfl rfl rfl rfl))
   (Z7 (ZaY (DE.toA (ZM (g:=id) (Zc (i:=2) (m:=.O) rfl (by decide)) (DE.toA (VH JS)))) (ZM (g:=id) (DE.toA (Jb (Zb (Zc (i:=1) (m:=.S) rfl (by decide)) Ze))) (DE.toA (Ux (Zb (Zc (i:=0) (m:=.S) rfl (by decide)) Ze)))))))), ?_⟩
 refine Pm.ref Zpo (g:=fun xs=>_) ?_
 rintro(s:Int) ⟨h0,h1⟩
 simp only[Zpo]
 have hy:ZT s<=200:=Vt h0 h1
 have hl:=Vg s
 walk_at "pd"
 generalize hw:Zfv _ _ _=W
 obtain⟨ρ',rfl,v,rfl⟩:=Qa hw (fun i ρ=>∃v,ρ=[.lst ((Zy s).map PV.int),.lst ((Zaw s).map PV.int),.lst ((Zy (s-i)).map PV.int),v]) ⟨_,by rw[ZyC,ZyG]⟩ (by
  rintro i x ρ hx ⟨v,rfl⟩
  have hi:i<s.toNat:=by
   have:=(Zx0.mp hx).1
   simpa using this
  have hx2:x=.int (((ZB (s-i):Nat):Int)+1):=by
   rw[Zxm,Zgl hi] at hx
   simpa using hx.symm
  subst hx2
  obtain⟨g1,g2,g3⟩:=JF (s:=s-i) (by lia)
  have hsow:=ZfI (s:=s-i) (by lia)
  have hl2:=Vg (s-i)
  have hy2:ZT (s-i)<=200:=Vt (by lia) (by lia)
  walk_at "pd"
  rw[decide_eq_false (by lia)]
  walk_at "pd"
  rw[decide_eq_false (by lia)]
  walk_at "pd"
  rw[show (((ZB (s-i):Nat):Int)+1-1).toNat=ZB (s-i) by lia,UH g1,g3]
  walk_at "pd"
  rw[Zq8 ⟨by lia,by lia,by lia⟩,hsow]
  walk_at "pd"
  exact UR ⟨_,by rw[show s-((i+1:Nat):Int)=s-i-1 by lia]⟩)
 walk_at "pd"
 rw[Zxc,Qx,show s-((s.toNat:Nat):Int)=0 by lia,Za9,UG h0,decide_eq_true rfl,decide_eq_true (show ((s.toNat:Nat):Int)=s by lia)]
 rfl
theorem Zqu{s:Int}(h:0<=s/\s<=10000):Zpo.fn [.lst ((Zy s).map PV.int),.lst ((Zaw s).map PV.int)]=.ok (.bl true):=Pm.fn_eq Zpo s h fun _ _=>rfl
noncomputable def Zhr(b:List Int):List Int:=if b.sum<=10000 then Zy b.sum else []
theorem VU{g:Bool->Bool}{n:Nat}{x:PV}(h:Dat n x)(hn:n<=64:=by decide):ZbM g x x=.ok (.bl (g true)):=by
 unfold ZbM
 rw[h.ok hn,Bool.and_self,if_pos rfl,PySem.SeqAt.eqv_refl _ h.can]
theorem Znv:(["refused", "BadYard", "BadCount", "home", "homes", "barred", "ring"]:List Str).all (fun w=>PyData.canLay0 (.str w))=true:=by
 simp only[Zyg,ZyF,PyData.canLay0];decide +kernel
theorem Qz{w:Str}(h:w∈(["refused", "BadYard", "BadCount", "home", "homes", "barred", "ring"]:List Str)):PyData.canLay0 (.str w)=true:=Zxz.mp Znv w h
theorem Zh0{n:Str}(h:n∈(["refused", "BadYard", "BadCount", "home", "homes", "barred", "ring"]:List Str)):Dat 1 (.tup [.str "refused",.str n]):=ZbI fun x hx=>by
 simp only[Zxd,Zxx,or_false] at hx
 rcases hx with rfl|rfl
 ·exact Zar (Qz (by simp))
 ·exact Zar (Qz h)
theorem Zjb{b:List Int}(hb:JI b):Ur b "home"=if b.sum<=10000 then Zb1 (ZV b) else .tup [.str "refused",.str "BadYard"]:=by
 unfold Ur Q5
 rw[if_pos rfl]
 by_cases c:b.sum<=10000
 ·rw[show Vz (ZV b)=none from if_pos (ZbV hb c),if_pos c];rfl
 ·rw[show Vz (ZV b)=(some "BadYard":Option Str) from if_neg (fun z=>c (by have:=z.2.2.1;rw[QR] at this;exact this)),if_neg c];rfl
noncomputable def ZoS:Pm:=⟨List Int,fun b=>[.lst ((ZV b).map PV.int),.lst ((Zhr b).map PV.int),Ur b "home"],fun b=>JI b,fun _=>.ok (.bl true)⟩
theorem ZtA(T:Txt w K mg){f:Addr}{fd:FuncData}(F:Fun K "_law_home_right" "_law_home_right" ZoO f fd):Jv P w K mg base CX0 4 f fd ["yard", "due", "answer"] (spF K 3 .P W0 ZoS.fn):=by
 have Zt4:=VD (P:=P) (w:=w) (base:=base) T.Zwk ZvO (fun F=>Zv8 T F)
 have ZuY:=VD (P:=P) (w:=w) (base:=base) T.ZuS ZuE (fun F=>Zu4 T F)
 refine F.okP Zq4 rfl rfl (fun cdv A outer s H E hr=>?_)
 have hu:=hr.units
 refine⟨_,_,⟨[],[],[],.P⟩,rfl,(Zh (Jc (Zx Us (Zn (Jo (K:=K) rfl) rfl T.z_sum Uz (Za (pv 0) Zg)) Zk (Zz _)) (Zi (Zu (Jh (ZS (K:=K) hu) (pv 2) (VP (Za ZJ (Za ZJ Zg))) (Zz _)))) Z5)
   (Zh (Jc (Zx (ZS (K:=K) hu) (pv 0) (pv 1) (Zz _)) (Zi (Zu (ZaK (Jh (ZS (K:=K) hu) (Zn (Z4 (K:=K)) rfl T.z_len ZX (Za (pv 2) Zg)) Zk (Zz _)) (ZaK (Jh (ZS (K:=K) hu) (JD (ZL (K:=K)) (pv 2) Zk (fun _ _=>rfl)) ZJ (Zz _)) (ZaJ (Zq ZuY (hr.mono (by decide)) rfl (Za (pv 0) (Za (JD (ZL (K:=K)) (pv 2) Zk (fun _ _=>rfl)) Zg)))))))) Z5)
   (Zh (ZA (i:=3) Zq4.nd rfl (by first|exact Or.inl rfl|exact Or.inr rfl) Zk)
   (Zh (Vu PassesOwn.never (Zx (ZS (K:=K) hu) (Zq Zt4 (hr.mono (by decide)) rfl (Za (pv 0) (Za (pv 3) Zg))) (Zq Zt4 (hr.mono (by decide)) rfl (Za (pv 1) (Za (pv 3) Zg))) (Zz _)) (Zi (ZA (i:=3) Zq4.nd rfl (by first|exact Or.inl rfl|exact Or.inr rfl) (Z8 J5 (pv 3) Zk))))
   (Zi (Zu (Jh (ZS (K:=K) hu) (pv 2) (VP (Za ZJ (Za (pv 3) (Za (Zq Zt4 (hr.mono (by decide)) rfl (Za (pv 1) (Za (pv 3) Zg))) Zg)))) (Zz _)))))))),
   (Zl (Γm:=[.S,.S,.S,.U]) (Jd (Zw (DE.toA (Uu (DE.toA (Ux (Zb (Zc (i:=0) (m:=.S) rfl (by decide)) Ze))) (DE.toA Zj))))
   (Z7 (ZM (g:=id) (Zc (i:=2) (m:=.S) rfl (by decide)) (UB (Zb (DE.toA ZI) (Zb (DE.toA ZI) Ze)))))
   Z6)
   (Zl (Γm:=[.S,.S,.S,.U]) (Jd (Zw (DE.toA (ZM (g:=id) (Zc (i:=0) (m:=.S) rfl (by decide)) (Zc (i:=1) (m:=.S) rfl (by decide)))))
   (Z7 (ZaY (DE.toA (ZM (g:=id) (DE.toA (Jb (Zb (Zc (i:=2) (m:=.S) rfl (by decide)) Ze))) (DE.toA Zj))) (ZaY (DE.toA (ZM (g:=id) (Jf (te:=tC .non) (Zc (i:=2) (m:=.S) rfl (by decide)) (DE.toA Zj)) (DE.toA ZI))) (Q1 (Zf (Zf Zm)) (Zb (Zc (i:=0) (m:=.S) rfl (by decide)) (Zb (Jf (te:=tC .non) (Zc (i:=2) (m:=.S) rfl (by decide)) (DE.toA Zj)) Ze))))))
   Z6)
   (Zl (Γm:=[.S,.S,.S,.P]) (ZP (i:=3) Zj (by decide))
   (Zl (Γm:=[.S,.S,.S,.P]) (Vx (Γ:=[.S,.S,.S,.P]) (Zw (DE.toA (ZM (g:=id) (DE.toA (Q1 (Zf (Zf Zm)) (Zb (Zc (i:=0) (m:=.S) rfl (by decide)) (Zb (DE.toA (Zp (i:=3) rfl)) Ze)))) (DE.toA (Q1 (Zf (Zf Zm)) (Zb (Zc (i:=1) (m:=.S) rfl (by decide)) (Zb (DE.toA (Zp (i:=3) rfl)) Ze)))))))
   (ZP (i:=3) (J8 (DE.toA (Zp (i:=3) rfl)) (DE.toA Zj)) (by decide)))
   (Z7 (ZM (g:=id) (Zc (i:=2) (m:=.S) rfl (by decide)) (UB (Zb (DE.toA ZI) (Zb (DE.toA (Zp (i:=3) rfl)) (Zb (DE.toA (Q1 (Zf (Zf Zm)) (Zb (Zc (i:=1) (m:=.S) rfl (by decide)) (Zb (DE.toA (Zp (i:=3) rfl)) Ze)))) Ze)))))))))), ?_⟩
 refine Pm.ref ZoS (g:=fun xs=>_) ?_
 rintro(b:List Int) (hb:JI b)
 simp only[ZoS]
 have hs:=QR b
 have h0:=Zbg hb.nn
 walk_at "pd"
 rw[hs,Zjb hb]
 unfold Zhr
 by_cases c:b.sum<=10000
 ·rw[decide_eq_false (by lia),if_pos c,if_pos c]
  have hy:=ZbV hb c
  have hyl:=Vt h0 c
  walk_at "pd"
  unfold Zb1
  rw[hs]
  by_cases hu:ZV b=Zy b.sum
  ·rw[if_pos hu,hu]
   walk_at "pd"
   rw[Zqu ⟨h0,c⟩]
   walk_at "pd"
  ·obtain⟨u1,u2⟩:=QO hy (by rw[hs];exact hu)
   rw[hs] at u1 u2
   rw[if_neg hu]
   unfold Zoi
   rw[hs]
   walk_at "pd"
   rw[decide_eq_false hu]
   walk_at "pd"
   generalize hK:ZC (ZV b) (Zy b.sum)=k at u1 u2
   generalize hW:Vh _ _ _=W
   obtain⟨ρ',rfl,rfl⟩:=Jg hW k (fun m ρ=>ρ=[.lst ((ZV b).map PV.int),.lst ((Zy b.sum).map PV.int),.tup [.str "barred",.int ((k:Int)+1),.int ((Zy b.sum).getD k 0)],.int ((m:Int)+1)]) rfl (by
    rintro m ρ hm rfl
    refine⟨?_, ?_⟩
    ·walk_at "pd"
     rw[ZpL (by lia),ZpL (by lia),show ((m:Int)+1-1).toNat=m by lia]
     walk_at "pd"
     rw[decide_eq_true (U0 (by lia))]
    ·walk_at "pd"
     exact UR (by rw[show (m:Int)+1+1=((m+1:Nat):Int)+1 by lia])) (by
    rintro ρ rfl
    walk_at "pd"
    rw[ZpL (by lia),ZpL (by lia),show ((k:Int)+1-1).toNat=k by lia]
    walk_at "pd"
    rw[decide_eq_false (by have:=QQ (ns:=ZV b) (ms:=Zy b.sum) (by lia) (by lia);rw[hK] at this;exact this)])
   walk_at "pd"
   rw[ZpL (by lia),show ((k:Int)+1-1).toNat=k by lia]
   walk_at "pd"
   rw[VU (n:=1) (ZbI fun x hx=>by
    simp only[Zxd,Zxx,or_false] at hx
    rcases hx with rfl|rfl|rfl
    ·exact Zar (Qz (by simp))
    ·exact ZbJ _
    ·exact ZbJ _)]
   walk_at "pd"
 ·rw[decide_eq_true (by lia),if_neg c]
  walk_at "pd"
  rw[VU (Zh0 (by simp))]
  walk_at "pd"
theorem Zp4{b:List Int}(h:JI b):ZoS.fn [.lst ((ZV b).map PV.int),.lst ((Zhr b).map PV.int),Ur b "home"]=.ok (.bl true):=Pm.fn_eq ZoS b h fun _ _=>rfl
theorem ZhL{b:List Int}(hb:JI b):Ur b "homes"=if b.sum<=10000 then .tup [.str "homes",.lst ((Zy b.sum).map PV.int)] else .tup [.str "refused",.str "BadCount"]:=by
 have h0:=Zbg hb.nn
 unfold Ur Q5
 rw[if_neg (by decide +kernel),if_pos rfl]
 by_cases c:b.sum<=10000
 ·rw[show ZbN b.sum 0 10000=none from if_pos ⟨h0,c⟩,if_pos c];rfl
 ·rw[show ZbN b.sum 0 10000=(some "BadCount":Option Str) from if_neg (fun z=>c z.2),if_neg c];rfl
theorem Zja(b:List Int):Ur b "ring"=.tup [.str "ring",.lst ((Uv b).1.map PV.int),.int (Uv b).2]:=by
 unfold Ur Q5
 rw[if_neg (by decide +kernel),if_neg (by decide +kernel)]
 rfl
noncomputable def ZpK:Pm:=⟨List Int×Str,fun a=>[.str a.2,.lst (a.1.map PV.int),.lst ((Zhr a.1).map PV.int),Ur a.1 a.2],fun a=>JI a.1/\a.2∈Q3,fun _=>.ok (.bl true)⟩
theorem Zvj(T:Txt w K mg){f:Addr}{fd:FuncData}(F:Fun K "_law_right" "_law_right" ZpB f fd):Jv P w K mg base CX0 5 f fd ["word", "board", "due", "answer"] (spF K 4 .P W0 ZpK.fn):=by
 have Zud:=VD (P:=P) (w:=w) (base:=base) T.ZtV ZtE (fun F=>ZtA T F)
 have Zr9:=VD (P:=P) (w:=w) (base:=base) T.ZsV ZsG (fun F=>Zs1 T F)
 refine F.okP Zt6 rfl rfl (fun cdv A outer s H E hr=>?_)
 have hu:=hr.units
 refine⟨_,_,⟨[],[],[],.P⟩,rfl,(Zh (Jc (UP (Vj (Zn (Jj (K:=K) (n := "tuple") rfl) rfl T.z_isinstance ZF (Za (pv 3) (Za (Vn (v:=.ty "tuple") rfl T.z_tuple QL rfl) Zg))))) (Zi (Zu Zde)) Z5)
   (Zh (Jc (Zx (ZS (K:=K) hu) (pv 0) ZJ (Zz _)) (Zi (Zu (Zq Zud (hr.mono (by decide)) rfl (Za (Zq Zr9 (hr.mono (by decide)) rfl (Za (pv 1) Zg)) (Za (pv 2) (Za (pv 3) Zg)))))) Z5)
   (Zh (Jc (Zx (ZS (K:=K) hu) (pv 0) ZJ (Zz _)) (Zi (Zu (Jh (ZS (K:=K) hu) (pv 3) (JD (ZL (K:=K)) (VQ (Za (VP (Za ZJ (Za (pv 2) Zg))) (Za (VP (Za ZJ (Za ZJ Zg))) Zg))) (J0 ZhB rfl T.z_int ZhC (Za (Jh Us (Zn (Jo (K:=K) rfl) rfl T.z_sum Uz (Za (pv 1) Zg)) Zk (Zz _)) Zg)) (fun _ _=>rfl)) (Zz _)))) Z5)
   (Zh (JC (i:=4) Zt6.nd rfl (Vm rfl T.z_range (Za (Zn (Z4 (K:=K)) rfl T.z_len ZX (Za (pv 1) Zg)) Zg)) (fun _ _ _ _=>(Z8 (U2 (K:=K)) (Jz (Jy (K:=K)) (pv 1) (Vk (Z8 J3 (Zn (Z4 (K:=K)) rfl T.z_len ZX (Za (pv 1) Zg)) (pv 5))) Vl) (Jz (Jy (K:=K)) (pv 1) Vl (Vk (Z8 J3 (Zn (Z4 (K:=K)) rfl T.z_len ZX (Za (pv 1) Zg)) (pv 5)))))) rfl)
   (Zi (Zu (Jh (ZS (K:=K) hu) (pv 3) (VP (Za ZJ (Za (Zn (ZaZ (K:=K) hu rfl) rfl T.z_min ZhI (Za (pv 4) Zg)) (Za (Zax PySem.F.plainAttrs_list PySem.F.slot_list_index PySem.F.type_list_index (ZgL (K:=K) hu) (pv 4) (Za (Zn (ZaZ (K:=K) hu rfl) rfl T.z_min ZhI (Za (pv 4) Zg)) Zg)) Zg)))) (Zz _)))))))),
   (Zl (Γm:=[.S,.S,.S,.S,.U]) (Jd (Qb (ZcC (DE.toA (Ua (Zc (i:=3) (m:=.S) rfl (by decide))))))
   (Z7 Zd1)
   Z6)
   (Zl (Γm:=[.S,.S,.S,.S,.U]) (Jd (Zw (DE.toA (ZM (g:=id) (Zc (i:=0) (m:=.S) rfl (by decide)) (DE.toA ZI))))
   (Z7 (Q1 (Zf (Zf (Zf Zm))) (Zb (DE.toA (Zhz (Zf Zm) (Zb (Zc (i:=1) (m:=.S) rfl (by decide)) Ze))) (Zb (Zc (i:=2) (m:=.S) rfl (by decide)) (Zb (Zc (i:=3) (m:=.S) rfl (by decide)) Ze)))))
   Z6)
   (Zl (Γm:=[.S,.S,.S,.S,.U]) (Jd (Zw (DE.toA (ZM (g:=id) (Zc (i:=0) (m:=.S) rfl (by decide)) (DE.toA ZI))))
   (Z7 (ZM (g:=id) (Zc (i:=3) (m:=.S) rfl (by decide)) (Jf (te:=tC .non) (ZkC (Zb (UB (Zb (DE.toA ZI) (Zb (Zc (i:=2) (m:=.S) rfl (by decide)) Ze))) (Zb (UB (Zb (DE.toA ZI) (Zb (DE.toA ZI) Ze))) Ze))) (DE.toA (ZiN (Zb (DE.toA (Uu (DE.toA (Ux (Zb (Zc (i:=1) (m:=.S) rfl (by decide)) Ze))) (DE.toA Zj))) Ze))))))
   Z6)
   (Zl (Γm:=[.S,.S,.S,.S,.O]) (JG (i:=4) (ZN (DI.c (U8 (Zb (DE.toA (Jb (Zb (Zc (i:=1) (m:=.S) rfl (by decide)) Ze))) Ze))) (UC (DE.toA (VZ (Zc (i:=1) (m:=.S) rfl (by decide)) (Vp (DE.toA (J6 (DE.toA (Jb (Zb (Zc (i:=1) (m:=.S) rfl (by decide)) Ze))) (Zc (i:=5) (m:=.S) rfl (by decide))))) Vq)) (DE.toA (VZ (Zc (i:=1) (m:=.S) rfl (by decide)) Vq (Vp (DE.toA (J6 (DE.toA (Jb (Zb (Zc (i:=1) (m:=.S) rfl (by decide)) Ze))) (Zc (i:=5) (m:=.S) rfl (by decide))))))))) (by decide))
   (Z7 (ZM (g:=id) (Zc (i:=3) (m:=.S) rfl (by decide)) (UB (Zb (DE.toA ZI) (Zb (DE.toA (Ze9 (ZbB (i:=4) (m:=.O) rfl (by decide)))) (Zb (DE.toA (Zhv (Zc (i:=4) (m:=.S) rfl (by decide)) (Zb (DE.toA (Ze9 (Zao (i:=4) rfl))) Ze))) Ze)))))))))), ?_⟩
 refine Pm.ref ZpK (g:=fun xs=>_) ?_
 rintro⟨b,w⟩ ⟨hb,h⟩
 simp only at hb h
 simp only[ZpK]
 have hl:b.length<=1000:=by have:=hb.hi;lia
 have ht:Zfd "tuple" (Ur b w)=.ok (.bl true):=by
  obtain⟨xs,hx,_⟩:=ZdC hb h
  rw[hx];rfl
 walk_at "pd"
 rw[ht]
 walk_at "pd"
 rw[VT (ZaH h) (Qz (by simp))]
 rcases V7 h with rfl|rfl|rfl
 ·rw[show (("home":Str) == "home")=true by decide +kernel]
  walk_at "pd"
  rw[ZpR (by lia)]
  walk_at "pd"
  rw[Zp4 hb]
  walk_at "pd"
 ·rw[show (("homes":Str) == "home")=false by decide +kernel]
  walk_at "pd"
  rw[ZhL hb]
  unfold Zhr
  by_cases c:b.sum<=10000
  ·rw[decide_eq_false (show ¬(10000:Int)<b.sum by lia),if_pos c,if_pos c,show ZlZ [.bl false]=.ok (.int 0) from rfl]
   walk_at "pd"
   rw[Zed]
   walk_at "pd"
   rw[VU (n:=2) (ZbI fun x hx=>by
    simp only[Zxd,Zxx,or_false] at hx
    rcases hx with rfl|rfl
    ·exact(Zar (Qz (by simp))).up (by decide)
    ·exact QK _)]
   walk_at "pd"
  ·rw[decide_eq_true (show (10000:Int)<b.sum by lia),if_neg c,if_neg c,show ZlZ [.bl true]=.ok (.int 1) from rfl]
   walk_at "pd"
   rw[show ∀x y:PV,pIx (.lst [x,y]) (.int 1)=.ok y from fun _ _=>rfl]
   walk_at "pd"
   rw[VU (Zh0 (by simp))]
   walk_at "pd"
 ·rw[show (("ring":Str) == "home")=false by decide +kernel]
  walk_at "pd"
  rw[Zja,VT (Qz (by simp)) (Qz (by simp)),show (("ring":Str) == "homes")=false by decide +kernel]
  walk_at "pd"
  have h0:0<b.length:=by have:=hb.lo;lia
  obtain⟨m1,m2⟩:=ZeN (Zah (bs:=b) h0)
  rw[Zbw (g:=fun k=>Zcu (Jx b k)) (fun i hi=>by
   rw[Zy7]
   walk_at "pd"
   rw[show ((b.length:Int)-i).toNat=b.length-i by lia,ZfO h0 hi]
   rfl),Zxt,show (List.range b.length).map (fun(k:Nat)=>Zcu (Jx b k))=(Jt b).map Zcu by unfold Jt;rw[ZxD];rfl]
  walk_at "pd"
  rw[Zis m1]
  walk_at "pd"
  rw[show Zac ((Jt b).map Zcu) [Zcu (Uv b).1]=.ok (.int (Uv b).2) by
   rw[<- m2]
   exact Zbo (by unfold Jt;rw[Zxc,ZxI];lia) m1.1]
  walk_at "pd"
  unfold Zcu
  rw[VU (n:=2) (ZbI fun x hx=>by
   simp only[Zxd,Zxx,or_false] at hx
   rcases hx with rfl|rfl|rfl
   ·exact(Zar (Qz (by simp))).up (by decide)
   ·exact QK _
   ·exact(ZbJ _).up (by decide))]
  walk_at "pd"
theorem ZqU{b:List Int}{w:Str}(h:JI b/\w∈Q3):ZpK.fn [.str w,.lst (b.map PV.int),.lst ((Zhr b).map PV.int),Ur b w]=.ok (.bl true):=Pm.fn_eq ZpK (b,w) h fun _ _=>rfl
noncomputable def ZcQ(n:Int)(k:Nat):Str:=(["home", "homes", "ring"]:List Str).getD (Vr n (20+k)%3).toNat ""
noncomputable def VN(n:Int):List Str:=(List.range (1+n%7).toNat).map (ZcQ n)
theorem ZjO(n:Int)(k:Nat):ZcQ n k∈Q3:=by
 unfold ZcQ
 have h1:=Zxu (Vr n (20+k)) (show (3:Int)≠0 by decide)
 have h2:=Zxo (Vr n (20+k)) (show (0:Int)<3 by decide)
 generalize hj:(Vr n (20+k)%3).toNat=j
 have:j=0\/j=1\/j=2:=by lia
 rcases this with rfl|rfl|rfl
 ·exact ZxH ..
 ·exact Zxs _ (ZxH ..)
 ·exact Zxs _ (Zxs _ (ZxH ..))
theorem ZkU{n:Int}(ns:List Int)(m:Int)(h0:0<=n):Za7 (ZhE ns m) (VN n):=by
 have h1:=Zxu n (show (7:Int)≠0 by decide)
 have h2:=Zxo n (show (0:Int)<7 by decide)
 have hl:(VN n).length=(1+n%7).toNat:=by unfold VN;rw[Zxc,ZxI]
 refine⟨ZhD ns m,fun z=>?_,by lia,fun w hw=>?_⟩
 ·rw[z] at hl;simp only[Zx9] at hl;lia
 ·unfold VN at hw
  obtain⟨k,_,rfl⟩:=Zxr.mp hw
  exact ZjO n k
theorem Zoz{a b c:PV}{j:Int}(h0:0<=j)(h1:j<3):pIx (.lst [a,b,c]) (.int j)=.ok ([a,b,c].getD j.toNat .non):=by
 have:j=0\/j=1\/j=2:=by lia
 rcases this with rfl|rfl|rfl<;>rfl
theorem ZhV(n:Int)(k:Nat):[PV.str ("home":Str),.str "homes",.str "ring"].getD (Vr n (20+k)%3).toNat .non=.str (ZcQ n k):=by
 unfold ZcQ
 have h1:=Zxu (Vr n (20+k)) (show (3:Int)≠0 by decide)
 have h2:=Zxo (Vr n (20+k)) (show (0:Int)<3 by decide)
 generalize hj:(Vr n (20+k)%3).toNat=j
 have:j=0\/j=1\/j=2:=by lia
 rcases this with rfl|rfl|rfl<;>rfl
theorem Zib{L:List Str}{k:Nat}(h:∀w∈L,w.length<=k):(L.map (·.length)).sum<=L.length*k:=by
 induction L with
 |nil=>simp
 |cons a l ih =>
  have:=ih fun w hw=>h w (by simp[hw])
  have ha:=h a (by simp)
  rw[Zxf,ZxB,Zxp,Nat.add_mul,Nat.one_mul]
  lia
theorem Ziw{b:List Int}{ws:List Str}(h:Za7 b ws)(e:Bool):Zdi ("\n":Str) [.lst ((Jn b::(ws++Ja e)).map PV.str)]=.ok (.str (ZiY b ws e)):=by
 have h1:=(Zd7 h.bd).jlen
 rw[<- UX] at h1
 have hl:(Jn b::(ws++Ja e)).length<=12:=by
  have:=h.len
  cases e<;>simp only[Zxp,Zxq,Ja,Zx9,if_true,if_false,Bool.false_eq_true]<;>lia
 have hk:=Zib (L:=Jn b::(ws++Ja e)) (k:=6060) fun w hw=>by
  rcases Zxd.mp hw with rfl|hw
  ·exact h1
  ·rcases Zxg.mp hw with hw|hw
   ·have:=(Zci (h.q w hw)).2.1;lia
   ·rw[UK hw];decide
 have hm:(Jn b::(ws++Ja e)).length*6060<=12*6060:=Zyv _ hl
 unfold Zdi
 simp only[ZaD]
 rw[show ("\n":Str)=nlS by decide,if_pos (by rw[show nlS.length=1 from rfl];lia),show Txt.join nlS (Jn b::(ws++Ja e))=Str.join nlS (Jn b::(ws++Ja e)) from StrLaws.glued_eq_join nlS _]
 rfl
noncomputable def Zur:Pm:=⟨List Int,fun ns=>[.lst (ns.map PV.int)],fun ns=>ns.length<=63,fun _=>.ok (.bl true)⟩
theorem ZwU(T:Txt w K mg){f:Addr}{fd:FuncData}(F:Fun K "law" "law" Zv1 f fd):Jv P w K mg base CX0 11 f fd ["script"] (spF K 1 .P W0 Zur.fn):=by
 have Zvw:=VD (P:=P) (w:=w) (base:=base) T.Zvm ZuU (fun F=>ZuO T F)
 have ZvV:=VD (P:=P) (w:=w) (base:=base) T.ZvG Zvu (fun F=>Zvk T F)
 have ZvT:=Qq (P:=P) (w:=w) (base:=base) T.ZvE Zvs (fun F=>Zvi T F)
 have Zt3:=VD (P:=P) (w:=w) (base:=base) T.ZuB Zuk (fun F=>Zuh T F)
 have Zpn:=VD (P:=P) (w:=w) (base:=base) T.Zuj ZtD (fun F=>Zt9 T F)
 have ZvU:=VD (P:=P) (w:=w) (base:=base) T.ZvF Zvt (fun F=>Zvj T F)
 refine F.okP Zsf rfl rfl (fun cdv A outer s H E hr=>?_)
 have hu:=hr.units
 refine⟨_,_,⟨[],[],[],.P⟩,rfl,(Zh (ZA (i:=1) Zsf.nd rfl (by first|exact Or.inl rfl|exact Or.inr rfl) (Zq Zvw (hr.mono (by decide)) rfl (Za (pv 0) Zg)))
   (Zh (ZA (i:=2) Zsf.nd rfl (by first|exact Or.inl rfl|exact Or.inr rfl) (Zq ZvV (hr.mono (by decide)) rfl (Za (pv 0) (Za (pv 1) Zg))))
   (Zh (ZA (i:=3) Zsf.nd rfl (by first|exact Or.inl rfl|exact Or.inr rfl) (VQ Zg))
   (Zh (Jc (Zx Zkm (Zn (Jo (K:=K) rfl) rfl T.z_sum Uz (Za (pv 2) Zg)) Zk (Zz _)) (Zi (ZA (i:=3) Zsf.nd rfl (by first|exact Or.inl rfl|exact Or.inr rfl) (Zq Zt3 (hr.mono (by decide)) rfl (Za (Zn (Jo (K:=K) rfl) rfl T.z_sum Uz (Za (pv 2) Zg)) Zg)))) Z5)
   (Zh (JC (i:=4) Zsf.nd rfl (Vm rfl T.z_range (Za (Z8 J5 Zk (Z8 J4 (pv 1) Zk)) Zg)) (fun _ _ _ _=>(JD (ZL (K:=K)) (VQ (Za ZJ (Za ZJ (Za ZJ Zg)))) (Z8 J4 (Zq Zpn (hr.mono (by decide)) rfl (Za (pv 1) (Za (Z8 J5 Zk (pv 7)) Zg))) Zk) (fun _ _=>rfl))) rfl)
   (Zh (ZA (i:=5) Zsf.nd rfl (by first|exact Or.inl rfl|exact Or.inr rfl) (Z8 (U2 (K:=K)) (VQ (Za (Zax PySem.F.plainAttrs_str PySem.F.slot_str_join PySem.F.type_str_join (ZgK (K:=K)) ZJ (Za (Jk (Jq (K:=K) (pv 2)) (fun _ _ _ _=>(J0 ZcF rfl T.z_str ZmA (Za (pv 7) Zg))) Zsf.nd rfl) Zg)) Zg)) (pv 4)))
   (Zh (Jc (Zx (ZS (K:=K) hu) (Z8 J4 (Zq Zpn (hr.mono (by decide)) rfl (Za (pv 1) (Za Zk Zg))) Zk) Zk (Zz _)) (Zi (V8 (Zax PySem.F.plainAttrs_list PySem.F.slot_list_append PySem.F.type_list_append UT (pv 5) (Za ZJ Zg)))) Z5)
   (Zh (ZA (i:=6) Zsf.nd rfl (by first|exact Or.inl rfl|exact Or.inr rfl) (JJ ZvT (hr.mono (by decide)) rfl Zkf (Za (Zax PySem.F.plainAttrs_str PySem.F.slot_str_join PySem.F.type_str_join (ZgK (K:=K)) ZJ (Za (pv 5) Zg)) Zg)))
   (Zh (Jc (PW.pt (Zbi (UP (Vj (Zn (Jj (K:=K) (n := "list") rfl) rfl T.z_isinstance ZF (Za (pv 6) (Za (Vn (v:=.ty "list") rfl T.z_list Ub rfl) Zg))))) (QX (Zx (Zeg (K:=K) hu) (Zn (Z4 (K:=K)) rfl T.z_len ZX (Za (pv 6) Zg)) (Zn (Z4 (K:=K)) rfl T.z_len ZX (Za (pv 4) Zg)) (Zz _))))) (Zi (Zu Zde)) Z5)
   (Zi (Zu (Zn (Qe (K:=K) rfl) rfl T.z_all ZeG (Za (Zbm (ZlN (K:=K) rfl T.z_zip (Za (pv 4) (Za (pv 6) Zg))) (Zim (K:=K) Zsf.nd rfl) (fun _ _ _ _=>Zec) (fun _ _ _ _=>(Zq ZvU (hr.mono (by decide)) rfl (Za (pv 7) (Za (pv 2) (Za (pv 3) (Za (pv 8) Zg)))))) hv2 Zsf.nd rfl) Zg))))))))))))),
   (Zl (Γm:=[.S,.P,.U,.U,.U,.U,.U]) (ZP (i:=1) (Q1 (Zf Zm) (Zb (Zc (i:=0) (m:=.S) rfl (by decide)) Ze)) (by decide))
   (Zl (Γm:=[.S,.P,.O,.U,.U,.U,.U]) (ZQ (i:=2) (Zhz (Zf (Zf Zm)) (Zb (Zc (i:=0) (m:=.S) rfl (by decide)) (Zb (DE.toA (Zp (i:=1) rfl)) Ze))) (by decide))
   (Zl (Γm:=[.S,.P,.O,.O,.U,.U,.U]) (ZQ (i:=3) (VH JS) (by decide))
   (Zl (Γm:=[.S,.P,.O,.O,.U,.U,.U]) (Jd (Zw (DE.toA (ZkE (DE.toA (Ux (Zb (Zc (i:=2) (m:=.O) rfl (by decide)) Ze))) (DE.toA Zj))))
   (ZQ (i:=3) (Zhz (Zf Zm) (Zb (DE.toA (Ux (Zb (Zc (i:=2) (m:=.O) rfl (by decide)) Ze))) Ze)) (by decide))
   Z6)
   (Zl (Γm:=[.S,.P,.O,.O,.O,.U,.U]) (JG (i:=4) (ZN (DI.c (U8 (Zb (DE.toA (J8 (DE.toA Zj) (DE.toA (J7 (DE.toA (Zp (i:=1) rfl)) (DE.toA Zj))))) Ze))) (DE.PF (DE.grd (Jf (te:=tC .non) (DE.toA (VH (Jl (DE.PF ZI) (Jl (DE.PF ZI) (Jl (DE.PF ZI) JS))))) (DE.toA (J7 (DE.toA (Q1 (Zf (Zf Zm)) (Zb (DE.toA (Zp (i:=1) rfl)) (Zb (DE.toA (J8 (DE.toA Zj) (Zc (i:=7) (m:=.S) rfl (by decide)))) Ze)))) (DE.toA Zj))))))) (by decide))
   (Zl (Γm:=[.S,.P,.O,.O,.O,.O,.U]) (ZQ (i:=5) (UC (DE.toA (VH (Jl (DE.PF (Zhu (DE.toA ZI) (Zb (DE.toA (ZN (Qd (Zc (i:=2) (m:=.O) rfl (by decide))) (DE.PF (Zk8 (Zb (Zc (i:=7) (m:=.S) rfl (by decide)) Ze))))) Ze))) JS))) (Zc (i:=4) (m:=.O) rfl (by decide))) (by decide))
   (Zl (Γm:=[.S,.P,.O,.O,.O,.O,.U]) (Jd (Zw (DE.toA (ZM (g:=id) (DE.toA (J7 (DE.toA (Q1 (Zf (Zf Zm)) (Zb (DE.toA (Zp (i:=1) rfl)) (Zb (DE.toA Zj) Ze)))) (DE.toA Zj))) (DE.toA Zj))))
   (Zb9 (i:=5) rfl rfl (DE.PF ZI))
   Z6)
   (Zl (Γm:=[.S,.P,.O,.O,.O,.O,.O]) (ZQ (i:=6) (Zo3 (Zf Zm) (Zb (DE.toA (Zhu (DE.toA ZI) (Zb (Zc (i:=5) (m:=.O) rfl (by decide)) Ze))) Ze)) (by decide))
   (Zl (Γm:=[.S,.P,.O,.O,.O,.O,.O]) (Jd (Zb6 (Qb (ZcC (DE.toA (Ua (Zc (i:=6) (m:=.O) rfl (by decide)))))) (Zw (DE.toA (ZM (g:=(!·)) (DE.toA (Jb (Zb (Zc (i:=6) (m:=.O) rfl (by decide)) Ze))) (DE.toA (Jb (Zb (Zc (i:=4) (m:=.O) rfl (by decide)) Ze)))))))
   (Z7 Zd1)
   Z6)
   (Z7 (ZeB (Zb (DE.toA (ZbF (k:=2) (DI.c (Zm3 (ZeC (ZbB (i:=4) (m:=.O) rfl (by decide)) (ZeC (ZbB (i:=6) (m:=.O) rfl (by decide)) ZkI)))) Zo4 Zhs (DE.PF (Q1 (Zf (Zf (Zf (Zf Zm)))) (Zb (Zc (i:=7) (m:=.S) rfl (by decide)) (Zb (Zc (i:=2) (m:=.O) rfl (by decide)) (Zb (Zc (i:=3) (m:=.O) rfl (by decide)) (Zb (Zc (i:=8) (m:=.S) rfl (by decide)) Ze)))))))) Ze)))))))))))), ?_⟩
 refine Pm.ref Zur (g:=fun xs=>_) ?_
 rintro(ns:List Int) (hn:ns.length<=63)
 simp only[Zur]
 walk_at "pd"
 obtain⟨g0,g1⟩:=ZgH ns
 rw[Zq7 hn]
 generalize Zi4 ns=n at g0 g1
 walk_at "pd"
 rw[ZqV hn]
 have hb:=ZhD ns n
 have hA:=ZkU ns n g0
 generalize ZhE ns n=b at hb hA
 have h0:=Zbg hb.nn
 have hl:=hb.hi
 walk_at "pd"
 generalize hTAIL:(fun(ρ:List PV)=>((((((Znp (gv 1 ρ) (PV.int 7)).bind _).bind _).bind Zgt).bind _).thenS _).seq _)=TAIL
 have fin:(TAIL [.lst (ns.map PV.int),.int n,.lst (b.map PV.int),.lst ((Zhr b).map PV.int),.non,.non,.non]).out=.ok (.bl true):=by
  subst hTAIL
  walk_at "pd"
  have w0:=Zxu n (show (7:Int)≠0 by decide)
  have w1:=Zxo n (show (0:Int)<7 by decide)
  have hwl:(VN n).length<=10:=hA.len
  rw[Zbw (g:=fun k=>.str (ZcQ n k)) (fun i hi=>by
   rw[Zy7]
   walk_at "pd"
   rw[ZpH ⟨by lia,by lia⟩]
   walk_at "pd"
   rw[Zoz (Zxu _ (by decide)) (Zxo _ (by decide)),ZhV]
   rfl),show (List.range (1+n%7).toNat).map (fun(k:Nat)=>PV.str (ZcQ n k))=(VN n).map PV.str by unfold VN;rw[ZxD];rfl]
  walk_at "pd"
  have hbd:∀x∈b,0<=x/\x<10^110:=fun x hx=>⟨(Qf hb x hx).1,Zy8 (Qf hb x hx).2 (by decide)⟩
  rw[show Zay (fun x=>Zgq [x]) (b.map PV.int)=.ok ((b.map JK).map PV.str) by
   clear hA hb h0 hl
   induction b with
   |nil=>rfl
   |cons a l ih =>
    have:=hbd a (by simp)
    rw[Zxf,Zxf,Zay,Zin this.1 this.2,ih fun x hx=>hbd x (by simp[hx])]
    rfl]
  walk_at "pd"
  rw[Zgz hbd (by lia)]
  walk_at "pd"
  rw[show newF (PV.str (Jn b)::(VN n).map PV.str)=.ok (.lst (PV.str (Jn b)::(VN n).map PV.str)) from Zct (L:=Jn b::VN n) (by rw[Zxp];lia)]
  walk_at "pd"
  rw[ZpH (by decide)]
  walk_at "pd"
  generalize VN n=ws at hA hwl
  generalize hTAIL2:(fun(ρ:List PV)=>((((Zdi (Str.ofString "\n") [gv 5 ρ]).bind _).bind Zpb.fn).thenS _).seq _)=TAIL2
  have fin2:∀e:Bool,(TAIL2 [.lst (ns.map PV.int),.int n,.lst (b.map PV.int),.lst ((Zhr b).map PV.int),.lst (ws.map PV.str),.lst ((Jn b::(ws++Ja e)).map PV.str),.non]).out=.ok (.bl true):=fun e=>by
   subst hTAIL2
   have hj:=Ziw hA e
   generalize (Jn b::(ws++Ja e)).map PV.str=L at hj
   walk_at "pd"
   rw[hj]
   walk_at "pd"
   rw[ZqT hA]
   walk_at "pd"
   rw[show ZfB [.lst (ws.map (Ur b))]=.ok (.int (ws.map (Ur b)).length) from rfl,show ZfB [.lst (ws.map PV.str)]=.ok (.int (ws.map PV.str).length) from rfl,Zxc,Zxc]
   walk_at "pd"
   rw[show Znl [.lst (ws.map PV.str),.lst (ws.map (Ur b))]=.ok (ws.map fun w=>.tup [.str w,Ur b w]) by
    show Rr.ok (Zlj (ws.map PV.str) (ws.map (Ur b)))=_
    unfold Zlj
    rw[List.zip_map',ZxD]
    rfl]
   walk_at "pd"
   rw[ZjA (p:=fun _=>true) (g:=fun _=>.bl true) (fun w hw=>by
    rw[show asT 2 (.tup [.str w,Ur b w])=.ok [.str w,Ur b w] from rfl]
    walk_at "pd"
    rw[ZqU ⟨hb,hA.q w hw⟩]
    walk_at "pd"),Zy3.mpr fun _ _=>rfl]
   walk_at "pd"
   rw[show ws.map (fun _=>PV.bl true)=(ws.map fun _=>true).map PV.bl by rw[ZxD];rfl,Zef]
   walk_at "pd"
   rw[show (ws.map fun _=>true).all id=true by rw[List.all_map];simp]
  by_cases c15:Vr n 15%2=1
  ·rw[decide_eq_true c15]
   walk_at "pd"
   rw[show pApp (.lst (PV.str (Jn b)::ws.map PV.str)) (.str ("":Str))=.ok (.lst ((Jn b::(ws++Ja true)).map PV.str)) by
    simp only[pApp,Zxp,Zxc]
    rw[if_pos (by lia),show Ja true=[("":Str)] from rfl]
    simp only[Zxf,ZxF,ZxT,Zys]]
   walk_at "pd"
   have:=fin2 true
   simp only[Zxf] at this
   first|exact this|(simp only[Zxf];exact this)
  ·rw[decide_eq_false c15]
   walk_at "pd"
   have:=fin2 false
   rw[show Ja false=[] from rfl,ZxA] at this
   exact this
 by_cases c:b.sum<=10000
 ·rw[decide_eq_true c]
  walk_at "pd"
  rw[ZqG ⟨h0,c⟩]
  walk_at "pd"
  rw[show Zy b.sum=Zhr b from (if_pos c).symm]
  exact fin
 ·rw[decide_eq_false c]
  walk_at "pd"
  rw[show (Zhr b).map PV.int=[] by unfold Zhr;rw[if_neg c];rfl] at fin
  exact fin
noncomputable def ZfZ(K:W.Frag):Sp:=spF K 1 .P W0 Zur.fn
theorem Zmm{l:PySem.W.OpenLaw}(T:Txt w K mg){fa:Addr}(hmg:mg "law"=some (.ref fa)):∃fd:FuncData,(∀(s:Shared) (u:Value),BindsTo s fd ⟨[u],[]⟩ [("script",u)]) /\
  ∀base:Heap,K.In base->base.Ns mainGlobals mg->Jv l.prog w K mg base CX0 11 fa fd ["script"] (ZfZ K):=by
 obtain⟨f,fd,F,hm⟩:=T.ZwY
 rw[hmg] at hm
 cases hm
 refine⟨fd,fun s u=>?_,fun base _ _=>ZwU T F⟩
 obtain⟨oc,od,kV,doc,pm,an,cdv,ct,osl,rfl,lk,hcd⟩:=F.ex
 exact .of_eq (ZwW kV doc pm an cdv ct [u] rfl)
theorem ZgX{H:Hp}{a:Addr}{ns:List Int}(hl:ns.length<=63)(hO:ZmC H)(hS:SqL K H a (ns.map V.int)):ZfZ K [.ref a] H (fun v _=>v=.bl true) fun _ _ _=>False:=
 Zfs (Pm.fn_eq Zur ns hl fun _ _=>rfl) hS
end
theorem Zlu{w:World}{K:W.Frag}{h:Heap}{mg:Str->Option Value}{ZrS Zs9 Ztt Zu9 ZsA ZtS Zrk Zqi Zs4 ZtU ZrR Zqp Ztq Zs3 Zu8 ZtT Zu6 Zs5 Ztn Zs6 Zra Zu7 Zu5 Zr1 Zrb ZtR Ztp Zr2 ZpU Zto ZrQ Ztr Zs2 ZwF Zts Zs7 Ztu Zr3 ZrT Zr4 ZqF Zs8 ZwQ:Addr}(X:K.In h)(G:h.Ns mainGlobals mg){od__law_number an__law_number:Option Addr}{sl__law_number:Array (Option Value)}{oc__law_number kV__law_number dc__law_number Zpl cd__law_number ct__law_number:Value}{od__law_mixed an__law_mixed:Option Addr}{sl__law_mixed:Array (Option Value)}{oc__law_mixed kV__law_mixed dc__law_mixed Zpc cd__law_mixed ct__law_mixed:Value}{od__law_home an__law_home:Option Addr}{sl__law_home:Array (Option Value)}{oc__law_home kV__law_home dc__law_home ZpF cd__law_home ct__law_home:Value}{od__law_at an__law_at:Option Addr}{sl__law_at:Array (Option Value)}{oc__law_at kV__law_at dc__law_at Zq1 cd__law_at ct__law_at:Value}{od__law_board an__law_board:Option Addr}{sl__law_board:Array (Option Value)}{oc__law_board kV__law_board dc__law_board Zp0 cd__law_board ct__law_board:Value}{od_is_whole an_is_whole:Option Addr}{sl_is_whole:Array (Option Value)}{oc_is_whole kV_is_whole dc_is_whole Zqv cd_is_whole ct_is_whole:Value}{od_is_whole_from an_is_whole_from:Option Addr}{sl_is_whole_from:Array (Option Value)}{oc_is_whole_from kV_is_whole_from dc_is_whole_from ZoM cd_is_whole_from ct_is_whole_from:Value}{od_is_list_from_nought an_is_list_from_nought:Option Addr}{sl_is_list_from_nought:Array (Option Value)}{oc_is_list_from_nought kV_is_list_from_nought dc_is_list_from_nought ZoI cd_is_list_from_nought ct_is_list_from_nought:Value}{od_most_seeds an_most_seeds:Option Addr}{sl_most_seeds:Array (Option Value)}{oc_most_seeds kV_most_seeds dc_most_seeds ZpJ cd_most_seeds ct_most_seeds:Value}{od_is_board an_is_board:Option Addr}{sl_is_board:Array (Option Value)}{oc_is_board kV_is_board dc_is_board Zp2 cd_is_board ct_is_board:Value}{od_check_board an_check_board:Option Addr}{sl_check_board:Array (Option Value)}{oc_check_board kV_check_board dc_check_board Zpj cd_check_board ct_check_board:Value}{od_number_or_too_many an_number_or_too_many:Option Addr}{sl_number_or_too_many:Array (Option Value)}{oc_number_or_too_many kV_number_or_too_many dc_number_or_too_many ZoH cd_number_or_too_many ct_number_or_too_many:Value}{od_is_number an_is_number:Option Addr}{sl_is_number:Array (Option Value)}{oc_is_number kV_is_number dc_is_number Zpy cd_is_number ct_is_number:Value}{od_read_board an_read_board:Option Addr}{sl_read_board:Array (Option Value)}{oc_read_board kV_read_board dc_read_board Zpw cd_read_board ct_read_board:Value}{od_copy_of an_copy_of:Option Addr}{sl_copy_of:Array (Option Value)}{oc_copy_of kV_copy_of dc_copy_of ZpQ cd_copy_of ct_copy_of:Value}{od_is_count an_is_count:Option Addr}{sl_is_count:Array (Option Value)}{oc_is_count kV_is_count dc_is_count Zp1 cd_is_count ct_is_count:Value}{od_turn_by an_turn_by:Option Addr}{sl_turn_by:Array (Option Value)}{oc_turn_by kV_turn_by dc_turn_by ZpP cd_turn_by ct_turn_by:Value}{od_least_turn an_least_turn:Option Addr}{sl_least_turn:Array (Option Value)}{oc_least_turn kV_least_turn dc_least_turn Zpx cd_least_turn ct_least_turn:Value}{od_tell_ring an_tell_ring:Option Addr}{sl_tell_ring:Array (Option Value)}{oc_tell_ring kV_tell_ring dc_tell_ring Zpu cd_tell_ring ct_tell_ring:Value}{od_check_yard an_check_yard:Option Addr}{sl_check_yard:Array (Option Value)}{oc_check_yard kV_check_yard dc_check_yard Zpz cd_check_yard ct_check_yard:Value}{od_sowings_beyond an_sowings_beyond:Option Addr}{sl_sowings_beyond:Array (Option Value)}{oc_sowings_beyond kV_sowings_beyond dc_sowings_beyond ZoP cd_sowings_beyond ct_sowings_beyond:Value}{od_held_in an_held_in:Option Addr}{sl_held_in:Array (Option Value)}{oc_held_in kV_held_in dc_held_in Zq0 cd_held_in ct_held_in:Value}{od_yard_of an_yard_of:Option Addr}{sl_yard_of:Array (Option Value)}{oc_yard_of kV_yard_of dc_yard_of ZpO cd_yard_of ct_yard_of:Value}{od_first_unlike an_first_unlike:Option Addr}{sl_first_unlike:Array (Option Value)}{oc_first_unlike kV_first_unlike dc_first_unlike ZoN cd_first_unlike ct_first_unlike:Value}{od_nearest_to_sow an_nearest_to_sow:Option Addr}{sl_nearest_to_sow:Array (Option Value)}{oc_nearest_to_sow kV_nearest_to_sow dc_nearest_to_sow ZoQ cd_nearest_to_sow ct_nearest_to_sow:Value}{od_sow_home an_sow_home:Option Addr}{sl_sow_home:Array (Option Value)}{oc_sow_home kV_sow_home dc_sow_home Zqf cd_sow_home ct_sow_home:Value}{od_plan_home an_plan_home:Option Addr}{sl_plan_home:Array (Option Value)}{oc_plan_home kV_plan_home dc_plan_home Zph cd_plan_home ct_plan_home:Value}{od_brought_home an_brought_home:Option Addr}{sl_brought_home:Array (Option Value)}{oc_brought_home kV_brought_home dc_brought_home ZoX cd_brought_home ct_brought_home:Value}{od_without_last_noughts an_without_last_noughts:Option Addr}{sl_without_last_noughts:Array (Option Value)}{oc_without_last_noughts kV_without_last_noughts dc_without_last_noughts ZoG cd_without_last_noughts ct_without_last_noughts:Value}{od_tell_home an_tell_home:Option Addr}{sl_tell_home:Array (Option Value)}{oc_tell_home kV_tell_home dc_tell_home Zpv cd_tell_home ct_tell_home:Value}{od_check_count an_check_count:Option Addr}{sl_check_count:Array (Option Value)}{oc_check_count kV_check_count dc_check_count Zpi cd_check_count ct_check_count:Value}{od_home_yard an_home_yard:Option Addr}{sl_home_yard:Array (Option Value)}{oc_home_yard kV_home_yard dc_home_yard ZpE cd_home_yard ct_home_yard:Value}{od_tell_homes an_tell_homes:Option Addr}{sl_tell_homes:Array (Option Value)}{oc_tell_homes kV_tell_homes dc_tell_homes Zpa cd_tell_homes ct_tell_homes:Value}{od_tell an_tell:Option Addr}{sl_tell:Array (Option Value)}{oc_tell kV_tell dc_tell Zsh cd_tell ct_tell:Value}{od_answer_to an_answer_to:Option Addr}{sl_answer_to:Array (Option Value)}{oc_answer_to kV_answer_to dc_answer_to Zpk cd_answer_to ct_answer_to:Value}{od_answers_to an_answers_to:Option Addr}{sl_answers_to:Array (Option Value)}{oc_answers_to kV_answers_to dc_answers_to Zpb cd_answers_to ct_answers_to:Value}{od__law_held an__law_held:Option Addr}{sl__law_held:Array (Option Value)}{oc__law_held kV__law_held dc__law_held ZpG cd__law_held ct__law_held:Value}{od__law_trimmed an__law_trimmed:Option Addr}{sl__law_trimmed:Array (Option Value)}{oc__law_trimmed kV__law_trimmed dc__law_trimmed ZoY cd__law_trimmed ct__law_trimmed:Value}{od__law_behind an__law_behind:Option Addr}{sl__law_behind:Array (Option Value)}{oc__law_behind kV__law_behind dc__law_behind Zpm cd__law_behind ct__law_behind:Value}{od__law_planned an__law_planned:Option Addr}{sl__law_planned:Array (Option Value)}{oc__law_planned kV__law_planned dc__law_planned Zpo cd__law_planned ct__law_planned:Value}{od__law_home_right an__law_home_right:Option Addr}{sl__law_home_right:Array (Option Value)}{oc__law_home_right kV__law_home_right dc__law_home_right ZoS cd__law_home_right ct__law_home_right:Value}{od__law_right an__law_right:Option Addr}{sl__law_right:Array (Option Value)}{oc__law_right kV__law_right dc__law_right ZpK cd__law_right ct__law_right:Value}{od_law an_law:Option Addr}{sl_law:Array (Option Value)}{oc_law kV_law dc_law Zur cd_law ct_law:Value}(ZrX:PySem.W.nsIn K mainGlobals "_law_number"=some (some (.ref ZrS)))(ZrJ:K.lookup ZrS=some ⟨oc__law_number,od__law_number,.func (PySem.W.fnOf "_law_number" "_law_number" (Zs Zps) (Zo Zps) (Zd Zps) .none kV__law_number dc__law_number Zpl an__law_number cd__law_number ct__law_number),sl__law_number⟩)(Zq7:PySem.W.codeIn K cd__law_number "_law_number"=true)(ZrN:PySem.W.keepIn K (.ref ZrS)=true)(ZsO:PySem.W.nsIn K mainGlobals "_law_mixed"=some (some (.ref Zs9)))(Zsp:K.lookup Zs9=some ⟨oc__law_mixed,od__law_mixed,.func (PySem.W.fnOf "_law_mixed" "_law_mixed" (Zs ZpC) (Zo ZpC) (Zd ZpC) .none kV__law_mixed dc__law_mixed Zpc an__law_mixed cd__law_mixed ct__law_mixed),sl__law_mixed⟩)(ZpH:PySem.W.codeIn K cd__law_mixed "_law_mixed"=true)(Zsy:PySem.W.keepIn K (.ref Zs9)=true)(Zt1:PySem.W.nsIn K mainGlobals "_law_home"=some (some (.ref Ztt)))(Ztd:K.lookup Ztt=some ⟨oc__law_home,od__law_home,.func (PySem.W.fnOf "_law_home" "_law_home" (Zs Zqd) (Zo Zqd) (Zd Zqd) .none kV__law_home dc__law_home ZpF an__law_home cd__law_home ct__law_home),sl__law_home⟩)(ZqG:PySem.W.codeIn K cd__law_home "_law_home"=true)(Ztl:PySem.W.keepIn K (.ref Ztt)=true)(ZuJ:PySem.W.nsIn K mainGlobals "_law_at"=some (some (.ref Zu9)))(Zuw:K.lookup Zu9=some ⟨oc__law_at,od__law_at,.func (PySem.W.fnOf "_law_at" "_law_at" (Zs ZqN) (Zo ZqN) (Zd ZqN) .none kV__law_at dc__law_at Zq1 an__law_at cd__law_at ct__law_at),sl__law_at⟩)(ZrG:PySem.W.codeIn K cd__law_at "_law_at"=true)(Zu1:PySem.W.keepIn K (.ref Zu9)=true)(ZsP:PySem.W.nsIn K mainGlobals "_law_board"=some (some (.ref ZsA)))(Zsq:K.lookup ZsA=some ⟨oc__law_board,od__law_board,.func (PySem.W.fnOf "_law_board" "_law_board" (Zs ZpD) (Zo ZpD) (Zd ZpD) .none kV__law_board dc__law_board Zp0 an__law_board cd__law_board ct__law_board),sl__law_board⟩)(ZqV:PySem.W.codeIn K cd__law_board "_law_board"=true)(Zsz:PySem.W.keepIn K (.ref ZsA)=true)(Zua:PySem.W.nsIn K mainGlobals "is_whole"=some (some (.ref ZtS)))(ZtI:K.lookup ZtS=some ⟨oc_is_whole,od_is_whole,.func (PySem.W.fnOf "is_whole" "is_whole" (Zs Zqx) (Zo Zqx) (Zd Zqx) .none kV_is_whole dc_is_whole Zqv an_is_whole cd_is_whole ct_is_whole),sl_is_whole⟩)(ZrD:PySem.W.codeIn K cd_is_whole "is_whole"=true)(ZtM:PySem.W.keepIn K (.ref ZtS)=true)(Zrr:PySem.W.nsIn K mainGlobals "is_whole_from"=some (some (.ref Zrk)))(Zri:K.lookup Zrk=some ⟨oc_is_whole_from,od_is_whole_from,.func (PySem.W.fnOf "is_whole_from" "is_whole_from" (Zs ZoW) (Zo ZoW) (Zd ZoW) .none kV_is_whole_from dc_is_whole_from ZoM an_is_whole_from cd_is_whole_from ct_is_whole_from),sl_is_whole_from⟩)(Zp3:PySem.W.codeIn K cd_is_whole_from "is_whole_from"=true)(Zrj:PySem.W.keepIn K (.ref Zrk)=true)(Zqj:PySem.W.nsIn K mainGlobals "is_list_from_nought"=some (some (.ref Zqi)))(Zqg:K.lookup Zqi=some ⟨oc_is_list_from_nought,od_is_list_from_nought,.func (PySem.W.fnOf "is_list_from_nought" "is_list_from_nought" (Zs ZoK) (Zo ZoK) (Zd ZoK) .none kV_is_list_from_nought dc_is_list_from_nought ZoI an_is_list_from_nought cd_is_list_from_nought ct_is_list_from_nought),sl_is_list_from_nought⟩)(ZoR:PySem.W.codeIn K cd_is_list_from_nought "is_list_from_nought"=true)(Zqh:PySem.W.keepIn K (.ref Zqi)=true)(ZsJ:PySem.W.nsIn K mainGlobals "most_seeds"=some (some (.ref Zs4)))(Zsk:K.lookup Zs4=some ⟨oc_most_seeds,od_most_seeds,.func (PySem.W.fnOf "most_seeds" "most_seeds" (Zs Zp7) (Zo Zp7) (Zd Zp7) .none kV_most_seeds dc_most_seeds ZpJ an_most_seeds cd_most_seeds ct_most_seeds),sl_most_seeds⟩)(Zq2:PySem.W.codeIn K cd_most_seeds "most_seeds"=true)(Zst:PySem.W.keepIn K (.ref Zs4)=true)(Zuc:PySem.W.nsIn K mainGlobals "is_board"=some (some (.ref ZtU)))(ZtK:K.lookup ZtU=some ⟨oc_is_board,od_is_board,.func (PySem.W.fnOf "is_board" "is_board" (Zs Zqz) (Zo Zqz) (Zd Zqz) .none kV_is_board dc_is_board Zp2 an_is_board cd_is_board ct_is_board),sl_is_board⟩)(ZrF:PySem.W.codeIn K cd_is_board "is_board"=true)(ZtO:PySem.W.keepIn K (.ref ZtU)=true)(ZrW:PySem.W.nsIn K mainGlobals "check_board"=some (some (.ref ZrR)))(ZrI:K.lookup ZrR=some ⟨oc_check_board,od_check_board,.func (PySem.W.fnOf "check_board" "check_board" (Zs Zpr) (Zo Zpr) (Zd Zpr) .none kV_check_board dc_check_board Zpj an_check_board cd_check_board ct_check_board),sl_check_board⟩)(Zqm:PySem.W.codeIn K cd_check_board "check_board"=true)(ZrM:PySem.W.keepIn K (.ref ZrR)=true)(Zqq:PySem.W.nsIn K mainGlobals "number_or_too_many"=some (some (.ref Zqp)))(Zqn:K.lookup Zqp=some ⟨oc_number_or_too_many,od_number_or_too_many,.func (PySem.W.fnOf "number_or_too_many" "number_or_too_many" (Zs ZoL) (Zo ZoL) (Zd ZoL) .none kV_number_or_too_many dc_number_or_too_many ZoH an_number_or_too_many cd_number_or_too_many ct_number_or_too_many),sl_number_or_too_many⟩)(ZoZ:PySem.W.codeIn K cd_number_or_too_many "number_or_too_many"=true)(Zqo:PySem.W.keepIn K (.ref Zqp)=true)(Zty:PySem.W.nsIn K mainGlobals "is_number"=some (some (.ref Ztq)))(Zta:K.lookup Ztq=some ⟨oc_is_number,od_is_number,.func (PySem.W.fnOf "is_number" "is_number" (Zs Zqa) (Zo Zqa) (Zd Zqa) .none kV_is_number dc_is_number Zpy an_is_number cd_is_number ct_is_number),sl_is_number⟩)(Zro:PySem.W.codeIn K cd_is_number "is_number"=true)(Zti:PySem.W.keepIn K (.ref Ztq)=true)(ZsI:PySem.W.nsIn K mainGlobals "read_board"=some (some (.ref Zs3)))(Zsj:K.lookup Zs3=some ⟨oc_read_board,od_read_board,.func (PySem.W.fnOf "read_board" "read_board" (Zs Zp6) (Zo Zp6) (Zd Zp6) .none kV_read_board dc_read_board Zpw an_read_board cd_read_board ct_read_board),sl_read_board⟩)(ZqQ:PySem.W.codeIn K cd_read_board "read_board"=true)(Zss:PySem.W.keepIn K (.ref Zs3)=true)(ZuI:PySem.W.nsIn K mainGlobals "copy_of"=some (some (.ref Zu8)))(Zuv:K.lookup Zu8=some ⟨oc_copy_of,od_copy_of,.func (PySem.W.fnOf "copy_of" "copy_of" (Zs Zqr) (Zo Zqr) (Zd Zqr) .none kV_copy_of dc_copy_of ZpQ an_copy_of cd_copy_of ct_copy_of),sl_copy_of⟩)(ZsE:PySem.W.codeIn K cd_copy_of "copy_of"=true)(Zu0:PySem.W.keepIn K (.ref Zu8)=true)(Zub:PySem.W.nsIn K mainGlobals "is_count"=some (some (.ref ZtT)))(ZtJ:K.lookup ZtT=some ⟨oc_is_count,od_is_count,.func (PySem.W.fnOf "is_count" "is_count" (Zs Zqy) (Zo Zqy) (Zd Zqy) .none kV_is_count dc_is_count Zp1 an_is_count cd_is_count ct_is_count),sl_is_count⟩)(ZrE:PySem.W.codeIn K cd_is_count "is_count"=true)(ZtN:PySem.W.keepIn K (.ref ZtT)=true)(ZuG:PySem.W.nsIn K mainGlobals "turn_by"=some (some (.ref Zu6)))(Zut:K.lookup Zu6=some ⟨oc_turn_by,od_turn_by,.func (PySem.W.fnOf "turn_by" "turn_by" (Zs ZqL) (Zo ZqL) (Zd ZqL) .none kV_turn_by dc_turn_by ZpP an_turn_by cd_turn_by ct_turn_by),sl_turn_by⟩)(ZsC:PySem.W.codeIn K cd_turn_by "turn_by"=true)(Zuy:PySem.W.keepIn K (.ref Zu6)=true)(ZsK:PySem.W.nsIn K mainGlobals "least_turn"=some (some (.ref Zs5)))(Zsl:K.lookup Zs5=some ⟨oc_least_turn,od_least_turn,.func (PySem.W.fnOf "least_turn" "least_turn" (Zs Zp8) (Zo Zp8) (Zd Zp8) .none kV_least_turn dc_least_turn Zpx an_least_turn cd_least_turn ct_least_turn),sl_least_turn⟩)(ZqR:PySem.W.codeIn K cd_least_turn "least_turn"=true)(Zsu:PySem.W.keepIn K (.ref Zs5)=true)(Ztv:PySem.W.nsIn K mainGlobals "tell_ring"=some (some (.ref Ztn)))(ZsX:K.lookup Ztn=some ⟨oc_tell_ring,od_tell_ring,.func (PySem.W.fnOf "tell_ring" "tell_ring" (Zs ZpX) (Zo ZpX) (Zd ZpX) .none kV_tell_ring dc_tell_ring Zpu an_tell_ring cd_tell_ring ct_tell_ring),sl_tell_ring⟩)(Zrl:PySem.W.codeIn K cd_tell_ring "tell_ring"=true)(Ztf:PySem.W.keepIn K (.ref Ztn)=true)(ZsL:PySem.W.nsIn K mainGlobals "check_yard"=some (some (.ref Zs6)))(Zsm:K.lookup Zs6=some ⟨oc_check_yard,od_check_yard,.func (PySem.W.fnOf "check_yard" "check_yard" (Zs Zp9) (Zo Zp9) (Zd Zp9) .none kV_check_yard dc_check_yard Zpz an_check_yard cd_check_yard ct_check_yard),sl_check_yard⟩)(ZqS:PySem.W.codeIn K cd_check_yard "check_yard"=true)(Zsv:PySem.W.keepIn K (.ref Zs6)=true)(Zrc:PySem.W.nsIn K mainGlobals "sowings_beyond"=some (some (.ref Zra)))(ZqW:K.lookup Zra=some ⟨oc_sowings_beyond,od_sowings_beyond,.func (PySem.W.fnOf "sowings_beyond" "sowings_beyond" (Zs ZoT) (Zo ZoT) (Zd ZoT) .none kV_sowings_beyond dc_sowings_beyond ZoP an_sowings_beyond cd_sowings_beyond ct_sowings_beyond),sl_sowings_beyond⟩)(ZpM:PySem.W.codeIn K cd_sowings_beyond "sowings_beyond"=true)(ZqY:PySem.W.keepIn K (.ref Zra)=true)(ZuH:PySem.W.nsIn K mainGlobals "held_in"=some (some (.ref Zu7)))(Zuu:K.lookup Zu7=some ⟨oc_held_in,od_held_in,.func (PySem.W.fnOf "held_in" "held_in" (Zs ZqM) (Zo ZqM) (Zd ZqM) .none kV_held_in dc_held_in Zq0 an_held_in cd_held_in ct_held_in),sl_held_in⟩)(ZsD:PySem.W.codeIn K cd_held_in "held_in"=true)(Zuz:PySem.W.keepIn K (.ref Zu7)=true)(ZuF:PySem.W.nsIn K mainGlobals "yard_of"=some (some (.ref Zu5)))(Zus:K.lookup Zu5=some ⟨oc_yard_of,od_yard_of,.func (PySem.W.fnOf "yard_of" "yard_of" (Zs ZqK) (Zo ZqK) (Zd ZqK) .none kV_yard_of dc_yard_of ZpO an_yard_of cd_yard_of ct_yard_of),sl_yard_of⟩)(ZrB:PySem.W.codeIn K cd_yard_of "yard_of"=true)(Zux:PySem.W.keepIn K (.ref Zu5)=true)(Zr5:PySem.W.nsIn K mainGlobals "first_unlike"=some (some (.ref Zr1)))(Zrt:K.lookup Zr1=some ⟨oc_first_unlike,od_first_unlike,.func (PySem.W.fnOf "first_unlike" "first_unlike" (Zs Zpd) (Zo Zpd) (Zd Zpd) .none kV_first_unlike dc_first_unlike ZoN an_first_unlike cd_first_unlike ct_first_unlike),sl_first_unlike⟩)(Zqs:PySem.W.codeIn K cd_first_unlike "first_unlike"=true)(Zrx:PySem.W.keepIn K (.ref Zr1)=true)(Zrd:PySem.W.nsIn K mainGlobals "nearest_to_sow"=some (some (.ref Zrb)))(ZqX:K.lookup Zrb=some ⟨oc_nearest_to_sow,od_nearest_to_sow,.func (PySem.W.fnOf "nearest_to_sow" "nearest_to_sow" (Zs ZoU) (Zo ZoU) (Zd ZoU) .none kV_nearest_to_sow dc_nearest_to_sow ZoQ an_nearest_to_sow cd_nearest_to_sow ct_nearest_to_sow),sl_nearest_to_sow⟩)(ZpN:PySem.W.codeIn K cd_nearest_to_sow "nearest_to_sow"=true)(ZqZ:PySem.W.keepIn K (.ref Zrb)=true)(ZtZ:PySem.W.nsIn K mainGlobals "sow_home"=some (some (.ref ZtR)))(ZtH:K.lookup ZtR=some ⟨oc_sow_home,od_sow_home,.func (PySem.W.fnOf "sow_home" "sow_home" (Zs Zqw) (Zo Zqw) (Zd Zqw) .none kV_sow_home dc_sow_home Zqf an_sow_home cd_sow_home ct_sow_home),sl_sow_home⟩)(ZrC:PySem.W.codeIn K cd_sow_home "sow_home"=true)(ZtL:PySem.W.keepIn K (.ref ZtR)=true)(Ztx:PySem.W.nsIn K mainGlobals "plan_home"=some (some (.ref Ztp)))(ZsZ:K.lookup Ztp=some ⟨oc_plan_home,od_plan_home,.func (PySem.W.fnOf "plan_home" "plan_home" (Zs ZpZ) (Zo ZpZ) (Zd ZpZ) .none kV_plan_home dc_plan_home Zph an_plan_home cd_plan_home ct_plan_home),sl_plan_home⟩)(Zrn:PySem.W.codeIn K cd_plan_home "plan_home"=true)(Zth:PySem.W.keepIn K (.ref Ztp)=true)(Zr6:PySem.W.nsIn K mainGlobals "brought_home"=some (some (.ref Zr2)))(Zru:K.lookup Zr2=some ⟨oc_brought_home,od_brought_home,.func (PySem.W.fnOf "brought_home" "brought_home" (Zs Zpe) (Zo Zpe) (Zd Zpe) .none kV_brought_home dc_brought_home ZoX an_brought_home cd_brought_home ct_brought_home),sl_brought_home⟩)(Zqt:PySem.W.codeIn K cd_brought_home "brought_home"=true)(Zry:PySem.W.keepIn K (.ref Zr2)=true)(ZpV:PySem.W.nsIn K mainGlobals "without_last_noughts"=some (some (.ref ZpU)))(ZpS:K.lookup ZpU=some ⟨oc_without_last_noughts,od_without_last_noughts,.func (PySem.W.fnOf "without_last_noughts" "without_last_noughts" (Zs ZoJ) (Zo ZoJ) (Zd ZoJ) .none kV_without_last_noughts dc_without_last_noughts ZoG an_without_last_noughts cd_without_last_noughts ct_without_last_noughts),sl_without_last_noughts⟩)(ZoV:PySem.W.codeIn K cd_without_last_noughts "without_last_noughts"=true)(ZpT:PySem.W.keepIn K (.ref ZpU)=true)(Ztw:PySem.W.nsIn K mainGlobals "tell_home"=some (some (.ref Zto)))(ZsY:K.lookup Zto=some ⟨oc_tell_home,od_tell_home,.func (PySem.W.fnOf "tell_home" "tell_home" (Zs ZpY) (Zo ZpY) (Zd ZpY) .none kV_tell_home dc_tell_home Zpv an_tell_home cd_tell_home ct_tell_home),sl_tell_home⟩)(Zrm:PySem.W.codeIn K cd_tell_home "tell_home"=true)(Ztg:PySem.W.keepIn K (.ref Zto)=true)(ZrV:PySem.W.nsIn K mainGlobals "check_count"=some (some (.ref ZrQ)))(ZrH:K.lookup ZrQ=some ⟨oc_check_count,od_check_count,.func (PySem.W.fnOf "check_count" "check_count" (Zs Zpq) (Zo Zpq) (Zd Zpq) .none kV_check_count dc_check_count Zpi an_check_count cd_check_count ct_check_count),sl_check_count⟩)(Zq6:PySem.W.codeIn K cd_check_count "check_count"=true)(ZrL:PySem.W.keepIn K (.ref ZrQ)=true)(Ztz:PySem.W.nsIn K mainGlobals "home_yard"=some (some (.ref Ztr)))(Ztb:K.lookup Ztr=some ⟨oc_home_yard,od_home_yard,.func (PySem.W.fnOf "home_yard" "home_yard" (Zs Zqb) (Zo Zqb) (Zd Zqb) .none kV_home_yard dc_home_yard ZpE an_home_yard cd_home_yard ct_home_yard),sl_home_yard⟩)(Zrp:PySem.W.codeIn K cd_home_yard "home_yard"=true)(Ztj:PySem.W.keepIn K (.ref Ztr)=true)(ZsH:PySem.W.nsIn K mainGlobals "tell_homes"=some (some (.ref Zs2)))(Zsi:K.lookup Zs2=some ⟨oc_tell_homes,od_tell_homes,.func (PySem.W.fnOf "tell_homes" "tell_homes" (Zs Zp5) (Zo Zp5) (Zd Zp5) .none kV_tell_homes dc_tell_homes Zpa an_tell_homes cd_tell_homes ct_tell_homes),sl_tell_homes⟩)(ZqP:PySem.W.codeIn K cd_tell_homes "tell_homes"=true)(Zsr:PySem.W.keepIn K (.ref Zs2)=true)(ZwJ:PySem.W.nsIn K mainGlobals "tell"=some (some (.ref ZwF)))(ZwD:K.lookup ZwF=some ⟨oc_tell,od_tell,.func (PySem.W.fnOf "tell" "tell" (Zs Zug) (Zo Zug) (Zd Zug) .none kV_tell dc_tell Zsh an_tell cd_tell ct_tell),sl_tell⟩)(ZvH:PySem.W.codeIn K cd_tell "tell"=true)(ZwE:PySem.W.keepIn K (.ref ZwF)=true)(Zt0:PySem.W.nsIn K mainGlobals "answer_to"=some (some (.ref Zts)))(Ztc:K.lookup Zts=some ⟨oc_answer_to,od_answer_to,.func (PySem.W.fnOf "answer_to" "answer_to" (Zs Zqc) (Zo Zqc) (Zd Zqc) .none kV_answer_to dc_answer_to Zpk an_answer_to cd_answer_to ct_answer_to),sl_answer_to⟩)(Zrq:PySem.W.codeIn K cd_answer_to "answer_to"=true)(Ztk:PySem.W.keepIn K (.ref Zts)=true)(ZsM:PySem.W.nsIn K mainGlobals "answers_to"=some (some (.ref Zs7)))(Zsn:K.lookup Zs7=some ⟨oc_answers_to,od_answers_to,.func (PySem.W.fnOf "answers_to" "answers_to" (Zs ZpA) (Zo ZpA) (Zd ZpA) .none kV_answers_to dc_answers_to Zpb an_answers_to cd_answers_to ct_answers_to),sl_answers_to⟩)(ZqT:PySem.W.codeIn K cd_answers_to "answers_to"=true)(Zsw:PySem.W.keepIn K (.ref Zs7)=true)(Zt2:PySem.W.nsIn K mainGlobals "_law_held"=some (some (.ref Ztu)))(Zte:K.lookup Ztu=some ⟨oc__law_held,od__law_held,.func (PySem.W.fnOf "_law_held" "_law_held" (Zs Zqe) (Zo Zqe) (Zd Zqe) .none kV__law_held dc__law_held ZpG an__law_held cd__law_held ct__law_held),sl__law_held⟩)(ZpL:PySem.W.codeIn K cd__law_held "_law_held"=true)(Ztm:PySem.W.keepIn K (.ref Ztu)=true)(Zr7:PySem.W.nsIn K mainGlobals "_law_trimmed"=some (some (.ref Zr3)))(Zrv:K.lookup Zr3=some ⟨oc__law_trimmed,od__law_trimmed,.func (PySem.W.fnOf "_law_trimmed" "_law_trimmed" (Zs Zpf) (Zo Zpf) (Zd Zpf) .none kV__law_trimmed dc__law_trimmed ZoY an__law_trimmed cd__law_trimmed ct__law_trimmed),sl__law_trimmed⟩)(ZpR:PySem.W.codeIn K cd__law_trimmed "_law_trimmed"=true)(Zrz:PySem.W.keepIn K (.ref Zr3)=true)(ZrY:PySem.W.nsIn K mainGlobals "_law_behind"=some (some (.ref ZrT)))(ZrK:K.lookup ZrT=some ⟨oc__law_behind,od__law_behind,.func (PySem.W.fnOf "_law_behind" "_law_behind" (Zs Zpt) (Zo Zpt) (Zd Zpt) .none kV__law_behind dc__law_behind Zpm an__law_behind cd__law_behind ct__law_behind),sl__law_behind⟩)(Zq8:PySem.W.codeIn K cd__law_behind "_law_behind"=true)(ZrO:PySem.W.keepIn K (.ref ZrT)=true)(Zr8:PySem.W.nsIn K mainGlobals "_law_planned"=some (some (.ref Zr4)))(Zrw:K.lookup Zr4=some ⟨oc__law_planned,od__law_planned,.func (PySem.W.fnOf "_law_planned" "_law_planned" (Zs Zpg) (Zo Zpg) (Zd Zpg) .none kV__law_planned dc__law_planned Zpo an__law_planned cd__law_planned ct__law_planned),sl__law_planned⟩)(Zqu:PySem.W.codeIn K cd__law_planned "_law_planned"=true)(Zr0:PySem.W.keepIn K (.ref Zr4)=true)(ZqH:PySem.W.nsIn K mainGlobals "_law_home_right"=some (some (.ref ZqF)))(ZqD:K.lookup ZqF=some ⟨oc__law_home_right,od__law_home_right,.func (PySem.W.fnOf "_law_home_right" "_law_home_right" (Zs ZoO) (Zo ZoO) (Zd ZoO) .none kV__law_home_right dc__law_home_right ZoS an__law_home_right cd__law_home_right ct__law_home_right),sl__law_home_right⟩)(Zp4:PySem.W.codeIn K cd__law_home_right "_law_home_right"=true)(ZqE:PySem.W.keepIn K (.ref ZqF)=true)(ZsN:PySem.W.nsIn K mainGlobals "_law_right"=some (some (.ref Zs8)))(Zso:K.lookup Zs8=some ⟨oc__law_right,od__law_right,.func (PySem.W.fnOf "_law_right" "_law_right" (Zs ZpB) (Zo ZpB) (Zd ZpB) .none kV__law_right dc__law_right ZpK an__law_right cd__law_right ct__law_right),sl__law_right⟩)(ZqU:PySem.W.codeIn K cd__law_right "_law_right"=true)(Zsx:PySem.W.keepIn K (.ref Zs8)=true)(ZwT:PySem.W.nsIn K mainGlobals "law"=some (some (.ref ZwQ)))(ZwN:K.lookup ZwQ=some ⟨oc_law,od_law,.func (PySem.W.fnOf "law" "law" (Zs Zv1) (Zo Zv1) (Zd Zv1) .none kV_law dc_law Zur an_law cd_law ct_law),sl_law⟩)(ZwR:PySem.W.codeIn K cd_law "law"=true)(ZwO:PySem.W.keepIn K (.ref ZwQ)=true){t_FEWEST_PITS:Tok}(a_FEWEST_PITS:PySem.W.nsIn K mainGlobals "FEWEST_PITS"=some (some (.int 2 t_FEWEST_PITS))){t_FIGURES:Tok}(a_FIGURES:PySem.W.nsIn K mainGlobals "FIGURES"=some (some (.str "0123456789" t_FIGURES))){t_MOST_FIGURES:Tok}(a_MOST_FIGURES:PySem.W.nsIn K mainGlobals "MOST_FIGURES"=some (some (.int 61 t_MOST_FIGURES))){t_MOST_PITS:Tok}(a_MOST_PITS:PySem.W.nsIn K mainGlobals "MOST_PITS"=some (some (.int 24 t_MOST_PITS))){t_MOST_YARD_PITS:Tok}(a_MOST_YARD_PITS:PySem.W.nsIn K mainGlobals "MOST_YARD_PITS"=some (some (.int 200 t_MOST_YARD_PITS))){t_MOST_YARD_SEEDS:Tok}(a_MOST_YARD_SEEDS:PySem.W.nsIn K mainGlobals "MOST_YARD_SEEDS"=some (some (.int 10000 t_MOST_YARD_SEEDS)))(z_all:PySem.W.nsIn K mainGlobals "all"=some none)(z_bool:PySem.W.nsIn K mainGlobals "bool"=some none)(z_int:PySem.W.nsIn K mainGlobals "int"=some none)(z_isinstance:PySem.W.nsIn K mainGlobals "isinstance"=some none)(z_len:PySem.W.nsIn K mainGlobals "len"=some none)(z_list:PySem.W.nsIn K mainGlobals "list"=some none)(z_min:PySem.W.nsIn K mainGlobals "min"=some none)(z_range:PySem.W.nsIn K mainGlobals "range"=some none)(z_str:PySem.W.nsIn K mainGlobals "str"=some none)(z_sum:PySem.W.nsIn K mainGlobals "sum"=some none)(z_tuple:PySem.W.nsIn K mainGlobals "tuple"=some none)(z_zip:PySem.W.nsIn K mainGlobals "zip"=some none)(kb_ANY_NUMBERS:Zlv K "ANY_NUMBERS" JL=true)(kb_BOARD_NUMBERS:Zlv K "BOARD_NUMBERS" Jr=true)(kb_ONE_NUMBER:Zlv K "ONE_NUMBER" JV=true)(tb_TELLERS:Zna K "TELLERS" Vf Zba=true)(th_TELLERS:ZmZ K "TELLERS"=ZmY w.params K "TELLERS")(x_tab:ZjM K XN XS=true)(x_exc:ZjN K XR=true){C_SowError fm_SowError:Addr}{odm_SowError anm_SowError:Option Addr}{slm_SowError:Array (Option Value)}{ocm_SowError kVm_SowError dcm_SowError pmm_SowError cdm_SowError ctm_SowError:Value}(am_SowError:PySem.W.nsIn K mainGlobals "SowError"=some (some (.ref C_SowError)))(fm1_SowError:PySem.W.findIn K (.ref C_SowError) "called"=some (some (.ref fm_SowError)))(tm_SowError:PySem.W.typeIn K (.ref fm_SowError)=some (.type "function"))(lm_SowError:K.lookup fm_SowError=some ⟨ocm_SowError,odm_SowError,.func (PySem.W.fnOf "called" "SowError.called" (Zs J9) (Zo J9) (Zd J9) .none kVm_SowError dcm_SowError pmm_SowError anm_SowError cdm_SowError ctm_SowError),slm_SowError⟩)(cm_SowError:PySem.W.codeIn K cdm_SowError "SowError.called"=true)(km_SowError:PySem.W.keepIn K (.ref fm_SowError)=true){C_BadBoard fm_BadBoard:Addr}{odm_BadBoard anm_BadBoard:Option Addr}{slm_BadBoard:Array (Option Value)}{ocm_BadBoard kVm_BadBoard dcm_BadBoard pmm_BadBoard cdm_BadBoard ctm_BadBoard:Value}(am_BadBoard:PySem.W.nsIn K mainGlobals "BadBoard"=some (some (.ref C_BadBoard)))(fm1_BadBoard:PySem.W.findIn K (.ref C_BadBoard) "called"=some (some (.ref fm_BadBoard)))(tm_BadBoard:PySem.W.typeIn K (.ref fm_BadBoard)=some (.type "function"))(lm_BadBoard:K.lookup fm_BadBoard=some ⟨ocm_BadBoard,odm_BadBoard,.func (PySem.W.fnOf "called" "BadBoard.called" (Zs JB) (Zo JB) (Zd JB) .none kVm_BadBoard dcm_BadBoard pmm_BadBoard anm_BadBoard cdm_BadBoard ctm_BadBoard),slm_BadBoard⟩)(cm_BadBoard:PySem.W.codeIn K cdm_BadBoard "BadBoard.called"=true)(km_BadBoard:PySem.W.keepIn K (.ref fm_BadBoard)=true){C_BadPit fm_BadPit:Addr}{odm_BadPit anm_BadPit:Option Addr}{slm_BadPit:Array (Option Value)}{ocm_BadPit kVm_BadPit dcm_BadPit pmm_BadPit cdm_BadPit ctm_BadPit:Value}(am_BadPit:PySem.W.nsIn K mainGlobals "BadPit"=some (some (.ref C_BadPit)))(fm1_BadPit:PySem.W.findIn K (.ref C_BadPit) "called"=some (some (.ref fm_BadPit)))(tm_BadPit:PySem.W.typeIn K (.ref fm_BadPit)=some (.type "function"))(lm_BadPit:K.lookup fm_BadPit=some ⟨ocm_BadPit,odm_BadPit,.func (PySem.W.fnOf "called" "BadPit.called" (Zs V2) (Zo V2) (Zd V2) .none kVm_BadPit dcm_BadPit pmm_BadPit anm_BadPit cdm_BadPit ctm_BadPit),slm_BadPit⟩)(cm_BadPit:PySem.W.codeIn K cdm_BadPit "BadPit.called"=true)(km_BadPit:PySem.W.keepIn K (.ref fm_BadPit)=true){C_BadPits fm_BadPits:Addr}{odm_BadPits anm_BadPits:Option Addr}{slm_BadPits:Array (Option Value)}{ocm_BadPits kVm_BadPits dcm_BadPits pmm_BadPits cdm_BadPits ctm_BadPits:Value}(am_BadPits:PySem.W.nsIn K mainGlobals "BadPits"=some (some (.ref C_BadPits)))(fm1_BadPits:PySem.W.findIn K (.ref C_BadPits) "called"=some (some (.ref fm_BadPits)))(tm_BadPits:PySem.W.typeIn K (.ref fm_BadPits)=some (.type "function"))(lm_BadPits:K.lookup fm_BadPits=some ⟨ocm_BadPits,odm_BadPits,.func (PySem.W.fnOf "called" "BadPits.called" (Zs Vb) (Zo Vb) (Zd Vb) .none kVm_BadPits dcm_BadPits pmm_BadPits anm_BadPits cdm_BadPits ctm_BadPits),slm_BadPits⟩)(cm_BadPits:PySem.W.codeIn K cdm_BadPits "BadPits.called"=true)(km_BadPits:PySem.W.keepIn K (.ref fm_BadPits)=true){C_BadCount fm_BadCount:Addr}{odm_BadCount anm_BadCount:Option Addr}{slm_BadCount:Array (Option Value)}{ocm_BadCount kVm_BadCount dcm_BadCount pmm_BadCount cdm_BadCount ctm_BadCount:Value}(am_BadCount:PySem.W.nsIn K mainGlobals "BadCount"=some (some (.ref C_BadCount)))(fm1_BadCount:PySem.W.findIn K (.ref C_BadCount) "called"=some (some (.ref fm_BadCount)))(tm_BadCount:PySem.W.typeIn K (.ref fm_BadCount)=some (.type "function"))(lm_BadCount:K.lookup fm_BadCount=some ⟨ocm_BadCount,odm_BadCount,.func (PySem.W.fnOf "called" "BadCount.called" (Zs JA) (Zo JA) (Zd JA) .none kVm_BadCount dcm_BadCount pmm_BadCount anm_BadCount cdm_BadCount ctm_BadCount),slm_BadCount⟩)(cm_BadCount:PySem.W.codeIn K cdm_BadCount "BadCount.called"=true)(km_BadCount:PySem.W.keepIn K (.ref fm_BadCount)=true){C_NoSeeds fm_NoSeeds:Addr}{odm_NoSeeds anm_NoSeeds:Option Addr}{slm_NoSeeds:Array (Option Value)}{ocm_NoSeeds kVm_NoSeeds dcm_NoSeeds pmm_NoSeeds cdm_NoSeeds ctm_NoSeeds:Value}(am_NoSeeds:PySem.W.nsIn K mainGlobals "NoSeeds"=some (some (.ref C_NoSeeds)))(fm1_NoSeeds:PySem.W.findIn K (.ref C_NoSeeds) "called"=some (some (.ref fm_NoSeeds)))(tm_NoSeeds:PySem.W.typeIn K (.ref fm_NoSeeds)=some (.type "function"))(lm_NoSeeds:K.lookup fm_NoSeeds=some ⟨ocm_NoSeeds,odm_NoSeeds,.func (PySem.W.fnOf "called" "NoSeeds.called" (Zs JY) (Zo JY) (Zd JY) .none kVm_NoSeeds dcm_NoSeeds pmm_NoSeeds anm_NoSeeds cdm_NoSeeds ctm_NoSeeds),slm_NoSeeds⟩)(cm_NoSeeds:PySem.W.codeIn K cdm_NoSeeds "NoSeeds.called"=true)(km_NoSeeds:PySem.W.keepIn K (.ref fm_NoSeeds)=true){C_Unlike fm_Unlike:Addr}{odm_Unlike anm_Unlike:Option Addr}{slm_Unlike:Array (Option Value)}{ocm_Unlike kVm_Unlike dcm_Unlike pmm_Unlike cdm_Unlike ctm_Unlike:Value}(am_Unlike:PySem.W.nsIn K mainGlobals "Unlike"=some (some (.ref C_Unlike)))(fm1_Unlike:PySem.W.findIn K (.ref C_Unlike) "called"=some (some (.ref fm_Unlike)))(tm_Unlike:PySem.W.typeIn K (.ref fm_Unlike)=some (.type "function"))(lm_Unlike:K.lookup fm_Unlike=some ⟨ocm_Unlike,odm_Unlike,.func (PySem.W.fnOf "called" "Unlike.called" (Zs V1) (Zo V1) (Zd V1) .none kVm_Unlike dcm_Unlike pmm_Unlike anm_Unlike cdm_Unlike ctm_Unlike),slm_Unlike⟩)(cm_Unlike:PySem.W.codeIn K cdm_Unlike "Unlike.called"=true)(km_Unlike:PySem.W.keepIn K (.ref fm_Unlike)=true){C_TooLong fm_TooLong:Addr}{odm_TooLong anm_TooLong:Option Addr}{slm_TooLong:Array (Option Value)}{ocm_TooLong kVm_TooLong dcm_TooLong pmm_TooLong cdm_TooLong ctm_TooLong:Value}(am_TooLong:PySem.W.nsIn K mainGlobals "TooLong"=some (some (.ref C_TooLong)))(fm1_TooLong:PySem.W.findIn K (.ref C_TooLong) "called"=some (some (.ref fm_TooLong)))(tm_TooLong:PySem.W.typeIn K (.ref fm_TooLong)=some (.type "function"))(lm_TooLong:K.lookup fm_TooLong=some ⟨ocm_TooLong,odm_TooLong,.func (PySem.W.fnOf "called" "TooLong.called" (Zs JX) (Zo JX) (Zd JX) .none kVm_TooLong dcm_TooLong pmm_TooLong anm_TooLong cdm_TooLong ctm_TooLong),slm_TooLong⟩)(cm_TooLong:PySem.W.codeIn K cdm_TooLong "TooLong.called"=true)(km_TooLong:PySem.W.keepIn K (.ref fm_TooLong)=true){C_TooMany fm_TooMany:Addr}{odm_TooMany anm_TooMany:Option Addr}{slm_TooMany:Array (Option Value)}{ocm_TooMany kVm_TooMany dcm_TooMany pmm_TooMany cdm_TooMany ctm_TooMany:Value}(am_TooMany:PySem.W.nsIn K mainGlobals "TooMany"=some (some (.ref C_TooMany)))(fm1_TooMany:PySem.W.findIn K (.ref C_TooMany) "called"=some (some (.ref fm_TooMany)))(tm_TooMany:PySem.W.typeIn K (.ref fm_TooMany)=some (.type "function"))(lm_TooMany:K.lookup fm_TooMany=some ⟨ocm_TooMany,odm_TooMany,.func (PySem.W.fnOf "called" "TooMany.called" (Zs JW) (Zo JW) (Zd JW) .none kVm_TooMany dcm_TooMany pmm_TooMany anm_TooMany cdm_TooMany ctm_TooMany),slm_TooMany⟩)(cm_TooMany:PySem.W.codeIn K cdm_TooMany "TooMany.called"=true)(km_TooMany:PySem.W.keepIn K (.ref fm_TooMany)=true){C_BadLine fm_BadLine:Addr}{odm_BadLine anm_BadLine:Option Addr}{slm_BadLine:Array (Option Value)}{ocm_BadLine kVm_BadLine dcm_BadLine pmm_BadLine cdm_BadLine ctm_BadLine:Value}(am_BadLine:PySem.W.nsIn K mainGlobals "BadLine"=some (some (.ref C_BadLine)))(fm1_BadLine:PySem.W.findIn K (.ref C_BadLine) "called"=some (some (.ref fm_BadLine)))(tm_BadLine:PySem.W.typeIn K (.ref fm_BadLine)=some (.type "function"))(lm_BadLine:K.lookup fm_BadLine=some ⟨ocm_BadLine,odm_BadLine,.func (PySem.W.fnOf "called" "BadLine.called" (Zs Vc) (Zo Vc) (Zd Vc) .none kVm_BadLine dcm_BadLine pmm_BadLine anm_BadLine cdm_BadLine ctm_BadLine),slm_BadLine⟩)(cm_BadLine:PySem.W.codeIn K cdm_BadLine "BadLine.called"=true)(km_BadLine:PySem.W.keepIn K (.ref fm_BadLine)=true){C_BadYard fm_BadYard:Addr}{odm_BadYard anm_BadYard:Option Addr}{slm_BadYard:Array (Option Value)}{ocm_BadYard kVm_BadYard dcm_BadYard pmm_BadYard cdm_BadYard ctm_BadYard:Value}(am_BadYard:PySem.W.nsIn K mainGlobals "BadYard"=some (some (.ref C_BadYard)))(fm1_BadYard:PySem.W.findIn K (.ref C_BadYard) "called"=some (some (.ref fm_BadYard)))(tm_BadYard:PySem.W.typeIn K (.ref fm_BadYard)=some (.type "function"))(lm_BadYard:K.lookup fm_BadYard=some ⟨ocm_BadYard,odm_BadYard,.func (PySem.W.fnOf "called" "BadYard.called" (Zs JZ) (Zo JZ) (Zd JZ) .none kVm_BadYard dcm_BadYard pmm_BadYard anm_BadYard cdm_BadYard ctm_BadYard),slm_BadYard⟩)(cm_BadYard:PySem.W.codeIn K cdm_BadYard "BadYard.called"=true)(km_BadYard:PySem.W.keepIn K (.ref fm_BadYard)=true){C_BadText fm_BadText:Addr}{odm_BadText anm_BadText:Option Addr}{slm_BadText:Array (Option Value)}{ocm_BadText kVm_BadText dcm_BadText pmm_BadText cdm_BadText ctm_BadText:Value}(am_BadText:PySem.W.nsIn K mainGlobals "BadText"=some (some (.ref C_BadText)))(fm1_BadText:PySem.W.findIn K (.ref C_BadText) "called"=some (some (.ref fm_BadText)))(tm_BadText:PySem.W.typeIn K (.ref fm_BadText)=some (.type "function"))(lm_BadText:K.lookup fm_BadText=some ⟨ocm_BadText,odm_BadText,.func (PySem.W.fnOf "called" "BadText.called" (Zs Va) (Zo Va) (Zd Va) .none kVm_BadText dcm_BadText pmm_BadText anm_BadText cdm_BadText ctm_BadText),slm_BadText⟩)(cm_BadText:PySem.W.codeIn K cdm_BadText "BadText.called"=true)(km_BadText:PySem.W.keepIn K (.ref fm_BadText)=true)
  :Txt w K mg:=by
 refine⟨?_, ?_, ?_, ?_, ?_, ?_, ?_, ?_, ?_, ?_, ?_, ?_, ?_, ?_, ?_, ?_, ?_, ?_, ?_, ?_, ?_, ?_, ?_, ?_, ?_, ?_, ?_, ?_, ?_, ?_, ?_, ?_, ?_, ?_, ?_, ?_, ?_, ?_, ?_, ?_, ?_, ?_, ?_, ?_, ?_, ?_, ?_, ?_, ?_, ?_, ?_, ?_, ?_, ?_, ?_, ?_, ?_, ?_, ?_, ?_, ?_,ZfP kb_ANY_NUMBERS (fun n C e=>PySem.W.mg_of X G e),ZfP kb_BOARD_NUMBERS (fun n C e=>PySem.W.mg_of X G e),ZfP kb_ONE_NUMBER (fun n C e=>PySem.W.mg_of X G e),Zly tb_TELLERS th_TELLERS (fun n C e=>PySem.W.mg_of X G e),x_tab,x_exc,fun n C e=>PySem.W.mg_of X G e,⟨_,_,_,am_SowError,fm1_SowError,tm_SowError,Z0 (st:=J9) lm_SowError cm_SowError km_SowError⟩,⟨_,_,_,am_BadBoard,fm1_BadBoard,tm_BadBoard,Z0 (st:=JB) lm_BadBoard cm_BadBoard km_BadBoard⟩,⟨_,_,_,am_BadPit,fm1_BadPit,tm_BadPit,Z0 (st:=V2) lm_BadPit cm_BadPit km_BadPit⟩,⟨_,_,_,am_BadPits,fm1_BadPits,tm_BadPits,Z0 (st:=Vb) lm_BadPits cm_BadPits km_BadPits⟩,⟨_,_,_,am_BadCount,fm1_BadCount,tm_BadCount,Z0 (st:=JA) lm_BadCount cm_BadCount km_BadCount⟩,⟨_,_,_,am_NoSeeds,fm1_NoSeeds,tm_NoSeeds,Z0 (st:=JY) lm_NoSeeds cm_NoSeeds km_NoSeeds⟩,⟨_,_,_,am_Unlike,fm1_Unlike,tm_Unlike,Z0 (st:=V1) lm_Unlike cm_Unlike km_Unlike⟩,⟨_,_,_,am_TooLong,fm1_TooLong,tm_TooLong,Z0 (st:=JX) lm_TooLong cm_TooLong km_TooLong⟩,⟨_,_,_,am_TooMany,fm1_TooMany,tm_TooMany,Z0 (st:=JW) lm_TooMany cm_TooMany km_TooMany⟩,⟨_,_,_,am_BadLine,fm1_BadLine,tm_BadLine,Z0 (st:=Vc) lm_BadLine cm_BadLine km_BadLine⟩,⟨_,_,_,am_BadYard,fm1_BadYard,tm_BadYard,Z0 (st:=JZ) lm_BadYard cm_BadYard km_BadYard⟩,⟨_,_,_,am_BadText,fm1_BadText,tm_BadText,Z0 (st:=Va) lm_BadText cm_BadText km_BadText⟩⟩
 ·exact⟨_,_,Z0 (st:=Zps) ZrJ Zq7 ZrN,PySem.W.mg_of X G ZrX⟩
 ·exact⟨_,_,Z0 (st:=ZpC) Zsp ZpH Zsy,PySem.W.mg_of X G ZsO⟩
 ·exact⟨_,_,Z0 (st:=Zqd) Ztd ZqG Ztl,PySem.W.mg_of X G Zt1⟩
 ·exact⟨_,_,Z0 (st:=ZqN) Zuw ZrG Zu1,PySem.W.mg_of X G ZuJ⟩
 ·exact⟨_,_,Z0 (st:=ZpD) Zsq ZqV Zsz,PySem.W.mg_of X G ZsP⟩
 ·exact⟨_,_,Z0 (st:=Zqx) ZtI ZrD ZtM,PySem.W.mg_of X G Zua⟩
 ·exact⟨_,_,Z0 (st:=ZoW) Zri Zp3 Zrj,PySem.W.mg_of X G Zrr⟩
 ·exact⟨_,_,Z0 (st:=ZoK) Zqg ZoR Zqh,PySem.W.mg_of X G Zqj⟩
 ·exact⟨_,_,Z0 (st:=Zp7) Zsk Zq2 Zst,PySem.W.mg_of X G ZsJ⟩
 ·exact⟨_,_,Z0 (st:=Zqz) ZtK ZrF ZtO,PySem.W.mg_of X G Zuc⟩
 ·exact⟨_,_,Z0 (st:=Zpr) ZrI Zqm ZrM,PySem.W.mg_of X G ZrW⟩
 ·exact⟨_,_,Z0 (st:=ZoL) Zqn ZoZ Zqo,PySem.W.mg_of X G Zqq⟩
 ·exact⟨_,_,Z0 (st:=Zqa) Zta Zro Zti,PySem.W.mg_of X G Zty⟩
 ·exact⟨_,_,Z0 (st:=Zp6) Zsj ZqQ Zss,PySem.W.mg_of X G ZsI⟩
 ·exact⟨_,_,Z0 (st:=Zqr) Zuv ZsE Zu0,PySem.W.mg_of X G ZuI⟩
 ·exact⟨_,_,Z0 (st:=Zqy) ZtJ ZrE ZtN,PySem.W.mg_of X G Zub⟩
 ·exact⟨_,_,Z0 (st:=ZqL) Zut ZsC Zuy,PySem.W.mg_of X G ZuG⟩
 ·exact⟨_,_,Z0 (st:=Zp8) Zsl ZqR Zsu,PySem.W.mg_of X G ZsK⟩
 ·exact⟨_,_,Z0 (st:=ZpX) ZsX Zrl Ztf,PySem.W.mg_of X G Ztv⟩
 ·exact⟨_,_,Z0 (st:=Zp9) Zsm ZqS Zsv,PySem.W.mg_of X G ZsL⟩
 ·exact⟨_,_,Z0 (st:=ZoT) ZqW ZpM ZqY,PySem.W.mg_of X G Zrc⟩
 ·exact⟨_,_,Z0 (st:=ZqM) Zuu ZsD Zuz,PySem.W.mg_of X G ZuH⟩
 ·exact⟨_,_,Z0 (st:=ZqK) Zus ZrB Zux,PySem.W.mg_of X G ZuF⟩
 ·exact⟨_,_,Z0 (st:=Zpd) Zrt Zqs Zrx,PySem.W.mg_of X G Zr5⟩
 ·exact⟨_,_,Z0 (st:=ZoU) ZqX ZpN ZqZ,PySem.W.mg_of X G Zrd⟩
 ·exact⟨_,_,Z0 (st:=Zqw) ZtH ZrC ZtL,PySem.W.mg_of X G ZtZ⟩
 ·exact⟨_,_,Z0 (st:=ZpZ) ZsZ Zrn Zth,PySem.W.mg_of X G Ztx⟩
 ·exact⟨_,_,Z0 (st:=Zpe) Zru Zqt Zry,PySem.W.mg_of X G Zr6⟩
 ·exact⟨_,_,Z0 (st:=ZoJ) ZpS ZoV ZpT,PySem.W.mg_of X G ZpV⟩
 ·exact⟨_,_,Z0 (st:=ZpY) ZsY Zrm Ztg,PySem.W.mg_of X G Ztw⟩
 ·exact⟨_,_,Z0 (st:=Zpq) ZrH Zq6 ZrL,PySem.W.mg_of X G ZrV⟩
 ·exact⟨_,_,Z0 (st:=Zqb) Ztb Zrp Ztj,PySem.W.mg_of X G Ztz⟩
 ·exact⟨_,_,Z0 (st:=Zp5) Zsi ZqP Zsr,PySem.W.mg_of X G ZsH⟩
 ·exact⟨_,_,Z0 (st:=Zug) ZwD ZvH ZwE,PySem.W.mg_of X G ZwJ⟩
 ·exact⟨_,_,Z0 (st:=Zqc) Ztc Zrq Ztk,PySem.W.mg_of X G Zt0⟩
 ·exact⟨_,_,Z0 (st:=ZpA) Zsn ZqT Zsw,PySem.W.mg_of X G ZsM⟩
 ·exact⟨_,_,Z0 (st:=Zqe) Zte ZpL Ztm,PySem.W.mg_of X G Zt2⟩
 ·exact⟨_,_,Z0 (st:=Zpf) Zrv ZpR Zrz,PySem.W.mg_of X G Zr7⟩
 ·exact⟨_,_,Z0 (st:=Zpt) ZrK Zq8 ZrO,PySem.W.mg_of X G ZrY⟩
 ·exact⟨_,_,Z0 (st:=Zpg) Zrw Zqu Zr0,PySem.W.mg_of X G Zr8⟩
 ·exact⟨_,_,Z0 (st:=ZoO) ZqD Zp4 ZqE,PySem.W.mg_of X G ZqH⟩
 ·exact⟨_,_,Z0 (st:=ZpB) Zso ZqU Zsx,PySem.W.mg_of X G ZsN⟩
 ·exact⟨_,_,Z0 (st:=Zv1) ZwN ZwR ZwO,PySem.W.mg_of X G ZwT⟩
 ·exact⟨_,PySem.W.mg_of X G a_FEWEST_PITS⟩
 ·exact⟨_,PySem.W.mg_of X G a_FIGURES⟩
 ·exact⟨_,PySem.W.mg_of X G a_MOST_FIGURES⟩
 ·exact⟨_,PySem.W.mg_of X G a_MOST_PITS⟩
 ·exact⟨_,PySem.W.mg_of X G a_MOST_YARD_PITS⟩
 ·exact⟨_,PySem.W.mg_of X G a_MOST_YARD_SEEDS⟩
 ·exact PySem.W.mg_none_of X G z_all
 ·exact PySem.W.mg_none_of X G z_bool
 ·exact PySem.W.mg_none_of X G z_int
 ·exact PySem.W.mg_none_of X G z_isinstance
 ·exact PySem.W.mg_none_of X G z_len
 ·exact PySem.W.mg_none_of X G z_list
 ·exact PySem.W.mg_none_of X G z_min
 ·exact PySem.W.mg_none_of X G z_range
 ·exact PySem.W.mg_none_of X G z_str
 ·exact PySem.W.mg_none_of X G z_sum
 ·exact PySem.W.mg_none_of X G z_tuple
 ·exact PySem.W.mg_none_of X G z_zip
end My
namespace PySem.W.Fast
noncomputable def tw8788744391415136256:=()
noncomputable def tw16994826267057635360:=()
noncomputable def tw16694676476829861920:=()
noncomputable def tw17873115882124750016:=()
noncomputable def tw10097749655900188896:=()
noncomputable def tw3722585331624616160:=()
noncomputable def tw7847925006446045440:=()
noncomputable def tw18194899983706693984:=()
noncomputable def tw6015152919901232512:=()
noncomputable def tw10100689516297936256:=()
noncomputable def tw10229216082057600544:=()
noncomputable def tw4973688067214486080:=()
noncomputable def tw4310738338074405440:=()
noncomputable def tw13917414922775586432:=()
noncomputable def tw16752781910199083744:=()
noncomputable def tw6870896317582786304:=()
noncomputable def tw8627100213756724992:=()
noncomputable def tw8758530539235208000:=()
noncomputable def tw13212031527853638592:=()
noncomputable def tw2788412606855468065:=()
noncomputable def tw13936510984505966657:=()
noncomputable def tw13173846685179397185:=()
noncomputable def tw1167865214643364929:=()
noncomputable def tw6905678438498814049:=()
noncomputable def tw14612147328664761505:=()
noncomputable def tw5873723514733505825:=()
noncomputable def tw4796238313237819745:=()
noncomputable def tw16472230801036234081:=()
noncomputable def tw1570685979281293729:=()
noncomputable def tw10645483883100578209:=()
noncomputable def tw3613216458731309569:=()
noncomputable def tw4048831425610028609:=()
noncomputable def tw8429773237246713441:=()
noncomputable def tw14703656248177019521:=()
noncomputable def tw9461432488712245057:=()
noncomputable def tw1736104596833820577:=()
noncomputable def tw12547090122648973281:=()
noncomputable def tw9343098029429093345:=()
noncomputable def tw16574030178033288226:=()
noncomputable def tw6731676543872665666:=()
noncomputable def tw8015245415947336770:=()
noncomputable def tw18010453065921254498:=()
noncomputable def tw8025727258345655458:=()
noncomputable def tw17267336344501022882:=()
noncomputable def tw10007065618500496642:=()
noncomputable def tw9887958768945278242:=()
noncomputable def tw5796547916457125186:=()
noncomputable def tw10035838044174148930:=()
noncomputable def tw13479755549856443842:=()
noncomputable def tw15321775113938981378:=()
noncomputable def tw10355223902459731490:=()
noncomputable def tw12182427997525890594:=()
noncomputable def tw7160246811098590818:=()
noncomputable def tw16290705474179718754:=()
noncomputable def tw3156014066618343042:=()
noncomputable def tw11603946036548224642:=()
noncomputable def tw7933773146056749698:=()
noncomputable def tw17352417555800689346:=()
noncomputable def tw7206097293784573634:=()
noncomputable def tw1263344907229972194:=()
noncomputable def tw13186878486659051330:=()
noncomputable def tw18149883806122849154:=()
noncomputable def tw3412943459606155202:=()
noncomputable def tw6332292803827451874:=()
noncomputable def tw14065810852643009603:=()
noncomputable def tw9730569879083330659:=()
noncomputable def tw5673581067467861123:=()
noncomputable def tw15348109635713515875:=()
noncomputable def tw2289860485833173379:=()
noncomputable def tw11662235048944924035:=()
noncomputable def tw155965746573716995:=()
noncomputable def tw4054335682903525091:=()
noncomputable def tw10258549754768032547:=()
noncomputable def tw4855152990003784515:=()
noncomputable def tw9556545751875965795:=()
noncomputable def tw7368048298822753123:=()
noncomputable def tw12104002442654861219:=()
noncomputable def tw6275034349253796932:=()
noncomputable def tw4668813065382520996:=()
noncomputable def tw16520356343727962308:=()
noncomputable def tw17718530836341589252:=()
noncomputable def tw11364913446934797732:=()
noncomputable def tw5722828258610786788:=()
noncomputable def tw14892554865290026532:=()
noncomputable def tw2109179848873294372:=()
noncomputable def tw3661561506904336932:=()
noncomputable def tw6350121481710894660:=()
noncomputable def tw7539526155046346372:=()
noncomputable def tw12176782169128399524:=()
noncomputable def tw3621153450006844100:=()
noncomputable def tw16356430697644086980:=()
noncomputable def tw15489006093375453924:=()
noncomputable def tw10714675950194433828:=()
noncomputable def tw14325906958088606564:=()
noncomputable def tw4761122940737531909:=()
noncomputable def tw3257942944492223589:=()
noncomputable def tw4818671925732826245:=()
noncomputable def tw13221617943731329157:=()
noncomputable def tw824171690595977381:=()
noncomputable def tw12299095278937749669:=()
noncomputable def tw14414116510055685349:=()
noncomputable def tw18191524483914769669:=()
noncomputable def tw16871446626685663493:=()
noncomputable def tw4764829279246982437:=()
noncomputable def tw8010315807514992005:=()
noncomputable def tw2366762045867730309:=()
noncomputable def tw8032884630260332965:=()
noncomputable def tw16257541061057109573:=()
noncomputable def tw303071196006959717:=()
noncomputable def tw2412652218470894341:=()
noncomputable def tw17467029797606125317:=()
noncomputable def tw8559981542495109925:=()
noncomputable def tw5096700215401569157:=()
noncomputable def tw16055649009540800421:=()
noncomputable def tw11128593775162837925:=()
noncomputable def tw13776556066377492421:=()
noncomputable def tw5678730333972530182:=()
noncomputable def tw2834445781128021062:=()
noncomputable def tw16923303760679531590:=()
noncomputable def tw11077159076185532518:=()
noncomputable def tw6376490972200900838:=()
noncomputable def tw3146961543490907366:=()
noncomputable def tw11018772019641405670:=()
noncomputable def tw115216222192758022:=()
noncomputable def tw2646711645620003110:=()
noncomputable def tw6291783001028490534:=()
noncomputable def tw906518933412755814:=()
noncomputable def tw5504058031139572070:=()
noncomputable def tw10636652274214587878:=()
noncomputable def tw13536522311520083494:=()
noncomputable def tw3643962992193174054:=()
noncomputable def tw13661718482976669254:=()
noncomputable def tw9451550778099933830:=()
noncomputable def tw16484545255387225734:=()
noncomputable def tw2007856462269900454:=()
noncomputable def tw6569252428338568934:=()
noncomputable def tw11216216992749240102:=()
noncomputable def tw7418878057930738470:=()
noncomputable def tw9391358299126679366:=()
noncomputable def tw10261685802600057702:=()
noncomputable def tw16637169515438173062:=()
noncomputable def tw16142066081608091526:=()
noncomputable def tw18344292940203233190:=()
noncomputable def tw17891678966642079718:=()
noncomputable def tw14685116866698032199:=()
noncomputable def tw13863580031029271655:=()
noncomputable def tw12269100312710464647:=()
noncomputable def tw16988400813262680231:=()
noncomputable def tw16484504790876092615:=()
noncomputable def tw5196375810476034279:=()
noncomputable def tw10279406713259423975:=()
noncomputable def tw7273328435934919911:=()
noncomputable def tw10938051327751850343:=()
noncomputable def tw900338816943589767:=()
noncomputable def tw6670755748450323847:=()
noncomputable def tw4251812424871282087:=()
noncomputable def tw1972193605648851367:=()
noncomputable def tw16031744983312942503:=()
noncomputable def tw12527673541365744071:=()
noncomputable def tw13116828499912878535:=()
noncomputable def tw9499499976776894951:=()
noncomputable def tw7392584910529339911:=()
noncomputable def tw6115375330324686343:=()
noncomputable def tw6682112793834517031:=()
noncomputable def tw4831788101173283495:=()
noncomputable def tw7591847053520143111:=()
noncomputable def tw16085679834604561159:=()
noncomputable def tw12906419363247803175:=()
noncomputable def tw7765185645053317959:=()
noncomputable def tw7070256324233797447:=()
noncomputable def tw1297444192463794023:=()
noncomputable def tw3028692806471531367:=()
noncomputable def tw9171592174381563847:=()
noncomputable def tw1543417501240321032:=()
noncomputable def tw14280353051735383048:=()
noncomputable def tw16612650083899410472:=()
noncomputable def tw7202987419170944104:=()
noncomputable def tw9830654761091335368:=()
noncomputable def tw4536063696362330312:=()
noncomputable def tw14452585272334407880:=()
noncomputable def tw5691186911047502152:=()
noncomputable def tw3702560054299506024:=()
noncomputable def tw9101580784755250600:=()
noncomputable def tw16312048714706868808:=()
noncomputable def tw4659893044362336840:=()
noncomputable def tw16928824087847150184:=()
noncomputable def tw10026338728869072552:=()
noncomputable def tw5336566552405780264:=()
noncomputable def tw15612274987097801512:=()
noncomputable def tw7329242382962403176:=()
noncomputable def tw4298960100947555240:=()
noncomputable def tw12725486631283034088:=()
noncomputable def tw5446826101752050664:=()
noncomputable def tw16071987137513327625:=()
noncomputable def tw13005925755167650857:=()
noncomputable def tw12048721492652866601:=()
noncomputable def tw7975420829110388777:=()
noncomputable def tw5032865865062136937:=()
noncomputable def tw10308847562587951209:=()
noncomputable def tw9027869542796685449:=()
noncomputable def tw7106658235437287689:=()
noncomputable def tw3322806377772616969:=()
noncomputable def tw11498641715120328969:=()
noncomputable def tw13105815374665344329:=()
noncomputable def tw4971139488045479273:=()
noncomputable def tw15363207913423026569:=()
noncomputable def tw8606437984283910537:=()
noncomputable def tw16305330348150616457:=()
noncomputable def tw16197976459571814825:=()
noncomputable def tw2909237109554156201:=()
noncomputable def tw17247685362218799817:=()
noncomputable def tw16359354716863117001:=()
noncomputable def tw7005528539270705929:=()
noncomputable def tw13612191838255753993:=()
noncomputable def tw9892180269694446409:=()
noncomputable def tw6671260854582647657:=()
noncomputable def tw7661038096934136681:=()
noncomputable def tw12744754095118292873:=()
noncomputable def tw16206192732887933962:=()
noncomputable def tw13239451631838574634:=()
noncomputable def tw5990662747964366922:=()
noncomputable def tw8167593843917282378:=()
noncomputable def tw10699097700961723498:=()
noncomputable def tw10122335401400855690:=()
noncomputable def tw7274320872592284874:=()
noncomputable def tw5590581477446343914:=()
noncomputable def tw10840893471174497642:=()
noncomputable def tw18224263325167207786:=()
noncomputable def tw5112307232971239818:=()
noncomputable def tw7775154383719416234:=()
noncomputable def tw14491317566449067466:=()
noncomputable def tw10164452867486770698:=()
noncomputable def tw6389897721057188362:=()
noncomputable def tw7032000543785199146:=()
noncomputable def tw13980828674796677674:=()
noncomputable def tw8868008569036400234:=()
noncomputable def tw19777250018092650:=()
noncomputable def tw486202971848526442:=()
noncomputable def tw4350902495631594122:=()
noncomputable def tw4923991209286076074:=()
noncomputable def tw5644757299965078250:=()
noncomputable def tw10433209323155846890:=()
noncomputable def tw17540837928234030858:=()
noncomputable def tw3566266796691956490:=()
noncomputable def tw2740700061024079658:=()
noncomputable def tw12355253592387887018:=()
noncomputable def tw1360646938058898378:=()
noncomputable def tw15913309562878871627:=()
noncomputable def tw9613510066083984459:=()
noncomputable def tw416515331399255147:=()
noncomputable def tw16027126242210942155:=()
noncomputable def tw4438697251350595947:=()
noncomputable def tw12066882902799894891:=()
noncomputable def tw18390682924444695947:=()
noncomputable def tw18088927034062692843:=()
noncomputable def tw9087032637354463819:=()
noncomputable def tw13642723004479411819:=()
noncomputable def tw14020106711412987563:=()
noncomputable def tw1893328299756235467:=()
noncomputable def tw10811943088246998763:=()
noncomputable def tw14881840601856076555:=()
noncomputable def tw17543889369346402091:=()
noncomputable def tw2912098152129340235:=()
noncomputable def tw13439520823300264811:=()
noncomputable def tw17292751241680657259:=()
noncomputable def tw4809160823111181163:=()
noncomputable def tw10425071897673696139:=()
noncomputable def tw17814432130214972331:=()
noncomputable def tw14466999246297192492:=()
noncomputable def tw10113617896469556268:=()
noncomputable def tw12552313164092937356:=()
noncomputable def tw16715122167716960396:=()
noncomputable def tw7294670655878946956:=()
noncomputable def tw9130706923081455788:=()
noncomputable def tw4271754695705188524:=()
noncomputable def tw1403411232972038316:=()
noncomputable def tw15442892489464966316:=()
noncomputable def tw2744854157523850444:=()
noncomputable def tw10373676830634672364:=()
noncomputable def tw13679323027912795436:=()
noncomputable def tw13421538290009890188:=()
noncomputable def tw13990541969364851180:=()
noncomputable def tw3822650547342573036:=()
noncomputable def tw12525577705821377036:=()
noncomputable def tw10958867630975018540:=()
noncomputable def tw9229892433883719244:=()
noncomputable def tw2580631719473361516:=()
noncomputable def tw7920168006972333676:=()
noncomputable def tw18386610969825854092:=()
noncomputable def tw3752579557746490060:=()
noncomputable def tw16434968378237943500:=()
noncomputable def tw8735955846814893836:=()
noncomputable def tw9488611953333209868:=()
noncomputable def tw3116622055060222732:=()
noncomputable def tw10926832963666229004:=()
noncomputable def tw6443844652482385676:=()
noncomputable def tw8225410046530975660:=()
noncomputable def tw11033170380582826988:=()
noncomputable def tw6348133618637216813:=()
noncomputable def tw13251597362033356845:=()
noncomputable def tw15183833864267475021:=()
noncomputable def tw8834460193470413901:=()
noncomputable def tw4376416123142802605:=()
noncomputable def tw12060990405791097005:=()
noncomputable def tw17820504702547390637:=()
noncomputable def tw923832789479639277:=()
noncomputable def tw4512488262779172109:=()
noncomputable def tw7626643597913089325:=()
noncomputable def tw3970727923789478253:=()
noncomputable def tw13795111567696685453:=()
noncomputable def tw17952567223345741197:=()
noncomputable def tw2878505493491685837:=()
noncomputable def tw16619602168112198125:=()
noncomputable def tw12779898362193628685:=()
noncomputable def tw29040376764715533:=()
noncomputable def tw6414163388901518861:=()
noncomputable def tw9446792011148586509:=()
noncomputable def tw8973078379383258637:=()
noncomputable def tw740848911981013549:=()
noncomputable def tw6307066507104559789:=()
noncomputable def tw4202195563840923309:=()
noncomputable def tw14766346014005582541:=()
noncomputable def tw2938365665554362061:=()
noncomputable def tw3119914541639802605:=()
noncomputable def tw1411447856179623661:=()
noncomputable def tw4118637226029561613:=()
noncomputable def tw1144293262974700365:=()
noncomputable def tw15772601579237141325:=()
noncomputable def tw3577231483127565165:=()
noncomputable def tw15095285175982968685:=()
noncomputable def tw17985589300579529581:=()
noncomputable def tw1832063620474878861:=()
noncomputable def tw9638580377557524365:=()
noncomputable def tw8217405763951450061:=()
noncomputable def tw11524631727457052653:=()
noncomputable def tw18059849066164040718:=()
noncomputable def tw10185674519775871182:=()
noncomputable def tw2043527212717879502:=()
noncomputable def tw3817352927489411310:=()
noncomputable def tw16991910104920095982:=()
noncomputable def tw9950932979056814382:=()
noncomputable def tw14942802865425930574:=()
noncomputable def tw2028116851864623502:=()
noncomputable def tw18434883335423995374:=()
noncomputable def tw15378891747061053966:=()
noncomputable def tw4726493834989227534:=()
noncomputable def tw13412470983721381390:=()
noncomputable def tw6355424457944210062:=()
noncomputable def tw18432870635964503758:=()
noncomputable def tw8255612961604255438:=()
noncomputable def tw4206644382280040142:=()
noncomputable def tw663678131309701870:=()
noncomputable def tw778600813191185166:=()
noncomputable def tw7552719014962577198:=()
noncomputable def tw10488956919533814574:=()
noncomputable def tw1069119951666753454:=()
noncomputable def tw5770319775974592462:=()
noncomputable def tw13944797361097838607:=()
noncomputable def tw5718862884257207375:=()
noncomputable def tw7416984785556906063:=()
noncomputable def tw17816729202799753295:=()
noncomputable def tw12537656077861908559:=()
noncomputable def tw3435592388973620335:=()
noncomputable def tw18233281906963432751:=()
noncomputable def tw1035897146173280591:=()
noncomputable def tw16356912301621938543:=()
noncomputable def tw8642988163093696879:=()
noncomputable def tw15263100459114730863:=()
noncomputable def tw8042520616683748719:=()
noncomputable def tw4867399932663565775:=()
noncomputable def tw10851987444548464111:=()
noncomputable def tw8715537776286431727:=()
noncomputable def tw11604899833390400015:=()
noncomputable def tw12404507689323901455:=()
noncomputable def tw2331911411470363151:=()
noncomputable def tw6244855019290940975:=()
noncomputable def tw14388662510471840335:=()
noncomputable def tw8009262594206467663:=()
noncomputable def tw6672289514438369999:=()
noncomputable def tw4690264509454209743:=()
noncomputable def tw16633074412305951471:=()
noncomputable def tw10614184647013423855:=()
noncomputable def tw3576927288206483183:=()
noncomputable def tw6555526980802319151:=()
noncomputable def tw7654322655249716079:=()
noncomputable def tw9708621768812135343:=()
noncomputable def tw8324148230710337519:=()
noncomputable def tw16191424709182867472:=()
noncomputable def tw12673783948817999920:=()
noncomputable def tw7721698690692603984:=()
noncomputable def tw13982333373216257200:=()
noncomputable def tw12190122087009046768:=()
noncomputable def tw14647264516570167568:=()
noncomputable def tw9451583124053259568:=()
noncomputable def tw15488908859330014576:=()
noncomputable def tw16579155044072016240:=()
noncomputable def tw6339918823850570128:=()
noncomputable def tw11538486433411484080:=()
noncomputable def tw1920944639990331856:=()
noncomputable def tw9861062864264756752:=()
noncomputable def tw8948897515497461296:=()
noncomputable def tw12117988335603016240:=()
noncomputable def tw17853318285989491280:=()
noncomputable def tw9683705259567448720:=()
noncomputable def tw7368607192582857488:=()
noncomputable def tw15177052791183231856:=()
noncomputable def tw12427147156929819536:=()
noncomputable def tw12132723090341821328:=()
noncomputable def tw18135927285872629712:=()
noncomputable def tw15273150513703996400:=()
noncomputable def tw5556639270596149232:=()
noncomputable def tw4030679205774211153:=()
noncomputable def tw9191987032338425969:=()
noncomputable def tw13296552993786897585:=()
noncomputable def tw16311592135160367313:=()
noncomputable def tw14967900140404772081:=()
noncomputable def tw2575520162463995121:=()
noncomputable def tw13288182932156173585:=()
noncomputable def tw763085859425949969:=()
noncomputable def tw17690076176874109233:=()
noncomputable def tw10858204474112433489:=()
noncomputable def tw600837059704102289:=()
noncomputable def tw6698132892790055313:=()
noncomputable def tw14302136640800273841:=()
noncomputable def tw11526895460308382161:=()
noncomputable def tw15740643911636498929:=()
noncomputable def tw1224553654603973265:=()
noncomputable def tw12331263613546965649:=()
noncomputable def tw2529096611503609553:=()
noncomputable def tw5518316979238646513:=()
noncomputable def tw14240172863389210385:=()
noncomputable def tw2800007683346264945:=()
noncomputable def tw3011478567536067473:=()
noncomputable def tw9264917465007659921:=()
noncomputable def tw75777983910296465:=()
noncomputable def tw12873783004510072753:=()
noncomputable def tw167564279678125074:=()
noncomputable def tw12315022398049968178:=()
noncomputable def tw412781122433538098:=()
noncomputable def tw130348842387075186:=()
noncomputable def tw4925541220515882130:=()
noncomputable def tw10192345752028820626:=()
noncomputable def tw12434915089084865714:=()
noncomputable def tw10790997847257876690:=()
noncomputable def tw13095125113633382642:=()
noncomputable def tw10817140471367577842:=()
noncomputable def tw3345948518288944434:=()
noncomputable def tw9151148250032976210:=()
noncomputable def tw1138002220004580850:=()
noncomputable def tw4125086053703350770:=()
noncomputable def tw18191335144747538:=()
noncomputable def tw8901514498066761266:=()
noncomputable def tw2747856512147425906:=()
noncomputable def tw14656731248552199890:=()
noncomputable def tw14257367082054089458:=()
noncomputable def tw3197028805388527538:=()
noncomputable def tw16086536257554300882:=()
noncomputable def tw15072131501902771219:=()
noncomputable def tw6927626601824555027:=()
noncomputable def tw344304191850215475:=()
noncomputable def tw12695883647688047731:=()
noncomputable def tw3649165182361170035:=()
noncomputable def tw12708393203514364051:=()
noncomputable def tw3716836406278677651:=()
noncomputable def tw13952602495674752179:=()
noncomputable def tw5738969509632079059:=()
noncomputable def tw13061015573255486771:=()
noncomputable def tw14926535233706108243:=()
noncomputable def tw16662181129538581843:=()
noncomputable def tw2748507503455989075:=()
noncomputable def tw572559327789299123:=()
noncomputable def tw2683388162500708819:=()
noncomputable def tw10229196812974225907:=()
noncomputable def tw7781349497719073331:=()
noncomputable def tw9746845047307114067:=()
noncomputable def tw12038699817897106035:=()
noncomputable def tw14357028876380669587:=()
noncomputable def tw3187589663999970995:=()
noncomputable def tw10780786006840340147:=()
noncomputable def tw10886682260850640627:=()
noncomputable def tw17301872677644239635:=()
noncomputable def tw2250966495557671699:=()
noncomputable def tw886829907041338195:=()
noncomputable def tw9760650943280239475:=()
noncomputable def tw10462682984303017875:=()
noncomputable def tw6436757106238926771:=()
noncomputable def tw4027893428633619379:=()
noncomputable def tw14664826538702652532:=()
noncomputable def tw1968889029003328660:=()
noncomputable def tw8695537877322277076:=()
noncomputable def tw13209480386174793940:=()
noncomputable def tw12041761702634864852:=()
noncomputable def tw5115530781522125012:=()
noncomputable def tw10013470684983453940:=()
noncomputable def tw8564562136726734132:=()
noncomputable def tw13055211381052644756:=()
noncomputable def tw1503511056025179540:=()
noncomputable def tw17621349542994263476:=()
noncomputable def tw17319101398139896276:=()
noncomputable def tw14502190105193954804:=()
noncomputable def tw17982189622792078868:=()
noncomputable def tw11258325550294521364:=()
noncomputable def tw12507657497928727092:=()
noncomputable def tw6517382235470562900:=()
noncomputable def tw13730445119200581204:=()
noncomputable def tw4038624413875404404:=()
noncomputable def tw16177186451411555988:=()
noncomputable def tw4561166890873176756:=()
noncomputable def tw16046585473459275444:=()
noncomputable def tw3408913245611243508:=()
noncomputable def tw4172267833779110900:=()
noncomputable def tw1067530509645713429:=()
noncomputable def tw14884138004312756309:=()
noncomputable def tw9017183886268738709:=()
noncomputable def tw4309236675205802165:=()
noncomputable def tw11597671213937454261:=()
noncomputable def tw16209707431341909269:=()
noncomputable def tw16909203521892256021:=()
noncomputable def tw9535958621672050997:=()
noncomputable def tw3418219572381916661:=()
noncomputable def tw8194193987237079637:=()
noncomputable def tw5865541458328942197:=()
noncomputable def tw7120634209038959445:=()
noncomputable def tw5427319175637271381:=()
noncomputable def tw2523249450923222869:=()
noncomputable def tw11670763279907233653:=()
noncomputable def tw2598664489206366133:=()
noncomputable def tw12115652019950471093:=()
noncomputable def tw18191144411144100886:=()
noncomputable def tw10850068787534699542:=()
noncomputable def tw12898490560703837206:=()
noncomputable def tw4459676062593178646:=()
noncomputable def tw10282568087878646838:=()
noncomputable def tw7150647236970241078:=()
noncomputable def tw11070404108074928246:=()
noncomputable def tw14918673244788971638:=()
noncomputable def tw9939450622707809430:=()
noncomputable def tw16974732942957325494:=()
noncomputable def tw5204128181218232566:=()
noncomputable def tw13853350908545232118:=()
noncomputable def tw8978704123475534102:=()
noncomputable def tw2306944786181331254:=()
noncomputable def tw16349269607967299894:=()
noncomputable def tw7986657314552625590:=()
noncomputable def tw1311810404734711254:=()
noncomputable def tw11108603180300483062:=()
noncomputable def tw7688043699814101526:=()
noncomputable def tw636686769333515862:=()
noncomputable def tw3936363190190522966:=()
noncomputable def tw8814912147255717462:=()
noncomputable def tw6744194582092849910:=()
noncomputable def tw3198548307835267830:=()
noncomputable def tw1925778118196087542:=()
noncomputable def tw7723858229333316342:=()
noncomputable def tw10221183549818240758:=()
noncomputable def tw10970462897991591702:=()
noncomputable def tw8616042573155647318:=()
noncomputable def tw7589954102303393654:=()
noncomputable def tw2624863119946825622:=()
noncomputable def tw7675320250004732854:=()
noncomputable def tw1901218712952141782:=()
noncomputable def tw2783064203419421815:=()
noncomputable def tw8694898332228049111:=()
noncomputable def tw10237395059210663127:=()
noncomputable def tw14263260064178082039:=()
noncomputable def tw8111431612611738903:=()
noncomputable def tw6531641773255051543:=()
noncomputable def tw4660008607857677687:=()
noncomputable def tw13239841785284711895:=()
noncomputable def tw9660594526211956183:=()
noncomputable def tw3157846483208890839:=()
noncomputable def tw7649047015648002551:=()
noncomputable def tw2187023280066808343:=()
noncomputable def tw4380462527320587799:=()
noncomputable def tw6597342033710262967:=()
noncomputable def tw9360223255557288631:=()
noncomputable def tw12658804369564261143:=()
noncomputable def tw4248139557757169527:=()
noncomputable def tw3487108628555571127:=()
noncomputable def tw17356008351942374359:=()
noncomputable def tw1351163690657870839:=()
noncomputable def tw15941134043828031576:=()
noncomputable def tw15178069752642664536:=()
noncomputable def tw9031573014639169656:=()
noncomputable def tw17064900489688671352:=()
noncomputable def tw7082879177509859448:=()
noncomputable def tw15147353909235552408:=()
noncomputable def tw7955632843478175960:=()
noncomputable def tw3718121579751450840:=()
noncomputable def tw4912561098188413176:=()
noncomputable def tw18245916517763561752:=()
noncomputable def tw17010265248744410392:=()
noncomputable def tw9353328720837919032:=()
noncomputable def tw2701325918412180856:=()
noncomputable def tw1358061471320009080:=()
noncomputable def tw17494663290390234520:=()
noncomputable def tw11359223723824230872:=()
noncomputable def tw12805103247660152280:=()
noncomputable def tw6254236463946918392:=()
noncomputable def tw55421261954267672:=()
noncomputable def tw17455042173837198904:=()
noncomputable def tw17543579046283855480:=()
noncomputable def tw5295644664266305176:=()
noncomputable def tw11130775236138061464:=()
noncomputable def tw4628589574364145336:=()
noncomputable def tw7756719950826975928:=()
noncomputable def tw9090404209207428792:=()
noncomputable def tw12252704116159085240:=()
noncomputable def tw13542614379059719896:=()
noncomputable def tw13219158739912845048:=()
noncomputable def tw3615960257845716760:=()
noncomputable def tw487235295624734552:=()
noncomputable def tw421566015885031256:=()
noncomputable def tw16542437620946219896:=()
noncomputable def tw9935085498247347096:=()
noncomputable def tw12663920624599053208:=()
noncomputable def tw5223598228069168056:=()
noncomputable def tw16156304296901818328:=()
noncomputable def tw18170014492669571032:=()
noncomputable def tw8096105636803233784:=()
noncomputable def tw6793185548194255929:=()
noncomputable def tw13777313423728681113:=()
noncomputable def tw6512000568789697785:=()
noncomputable def tw5254144633411369241:=()
noncomputable def tw16894082989130627417:=()
noncomputable def tw12726703651144783289:=()
noncomputable def tw9175700254910830105:=()
noncomputable def tw9257953905893028441:=()
noncomputable def tw6216040728679443033:=()
noncomputable def tw8118626179405368025:=()
noncomputable def tw17259986247097558777:=()
noncomputable def tw5593197242253972313:=()
noncomputable def tw187574735496758137:=()
noncomputable def tw17345864886967515033:=()
noncomputable def tw13389314678981138361:=()
noncomputable def tw3685692516266068921:=()
noncomputable def tw8331124560390661113:=()
noncomputable def tw836190404080029722:=()
noncomputable def tw13517043120093493338:=()
noncomputable def tw13608335275895722170:=()
noncomputable def tw3809288713185073338:=()
noncomputable def tw6072329269569672410:=()
noncomputable def tw17943013587063696602:=()
noncomputable def tw4732448579294797082:=()
noncomputable def tw13064542924847326554:=()
noncomputable def tw4857929122442092922:=()
noncomputable def tw8139371995400856954:=()
noncomputable def tw7840573668021416314:=()
noncomputable def tw271677741975887386:=()
noncomputable def tw1505731443028597498:=()
noncomputable def tw4934709643147112250:=()
noncomputable def tw11312915005665032026:=()
noncomputable def tw15439607420369092538:=()
noncomputable def tw15162714004905599962:=()
noncomputable def tw17894585078072432602:=()
noncomputable def tw5680607610947450907:=()
noncomputable def tw4409051979704060955:=()
noncomputable def tw6044519220806574107:=()
noncomputable def tw18203139044733044795:=()
noncomputable def tw6927637092669963355:=()
noncomputable def tw14855123320006367355:=()
noncomputable def tw12078223467822770299:=()
noncomputable def tw14533276280801094843:=()
noncomputable def tw11458362791458325755:=()
noncomputable def tw15328555673970380059:=()
noncomputable def tw10261444141835156763:=()
noncomputable def tw8902177526606251323:=()
noncomputable def tw14258101970619097435:=()
noncomputable def tw10402338639553613179:=()
noncomputable def tw12359561837244008923:=()
noncomputable def tw5915616967708331515:=()
noncomputable def tw5531251053147496987:=()
noncomputable def tw2437211564345574011:=()
noncomputable def tw261608168141894395:=()
noncomputable def tw11469204157978197755:=()
noncomputable def tw3008147115612659483:=()
noncomputable def tw5703078691576086299:=()
noncomputable def tw3328386358650500923:=()
noncomputable def tw14369479514268694363:=()
noncomputable def tw15795505310974227355:=()
noncomputable def tw11729883214288165851:=()
noncomputable def tw15138214200251587547:=()
noncomputable def tw14888188488612918235:=()
noncomputable def tw17340310896909602779:=()
noncomputable def tw15016310689551022075:=()
noncomputable def tw17897029923904138460:=()
noncomputable def tw12317715049440011516:=()
noncomputable def tw5292278714730114300:=()
noncomputable def tw14577994545793252700:=()
noncomputable def tw12380972241664999804:=()
noncomputable def tw15807660077272571260:=()
noncomputable def tw16387837660143781564:=()
noncomputable def tw10654267076054512316:=()
noncomputable def tw6165991822703018748:=()
noncomputable def tw9534633497583546108:=()
noncomputable def tw8228185516874616604:=()
noncomputable def tw5329272183987837756:=()
noncomputable def tw3813991489070396284:=()
noncomputable def tw11191869436111782844:=()
noncomputable def tw392435479390150588:=()
noncomputable def tw16343178564767797309:=()
noncomputable def tw9611932757476510813:=()
noncomputable def tw12002299794754130013:=()
noncomputable def tw1987804231235330141:=()
noncomputable def tw10201799685294513277:=()
noncomputable def tw14635155895995275453:=()
noncomputable def tw13027146003261946109:=()
noncomputable def tw8532044160736774461:=()
noncomputable def tw9601731926368742749:=()
noncomputable def tw16242030181515843965:=()
noncomputable def tw4292870308596053373:=()
noncomputable def tw18156837116471513533:=()
noncomputable def tw13458946182237957565:=()
noncomputable def tw15862454539298921917:=()
noncomputable def tw255509188643977661:=()
noncomputable def tw3709900636094044637:=()
noncomputable def tw14256091665396687325:=()
noncomputable def tw15007173649720534749:=()
noncomputable def tw12469961469713648381:=()
noncomputable def tw18043857101628991261:=()
noncomputable def tw7478373783061456669:=()
noncomputable def tw16142275230575061789:=()
noncomputable def tw2479382451514483517:=()
noncomputable def tw7397310105199262557:=()
noncomputable def tw7672201137641832285:=()
noncomputable def tw480789136829525949:=()
noncomputable def tw10212741155624814654:=()
noncomputable def tw7109777252440030270:=()
noncomputable def tw12433057939533693022:=()
noncomputable def tw7792860560307552414:=()
noncomputable def tw12796254789035459774:=()
noncomputable def tw6111184972054020286:=()
noncomputable def tw7149556766060809502:=()
noncomputable def tw16891238061741166942:=()
noncomputable def tw5302172262921718142:=()
noncomputable def tw13251787235702708606:=()
noncomputable def tw11289143561967065502:=()
noncomputable def tw11570743108016068062:=()
noncomputable def tw8740167702258936318:=()
noncomputable def tw9156287739471294974:=()
noncomputable def tw14837124406107653662:=()
noncomputable def tw981812837384057406:=()
noncomputable def tw17190948010172017310:=()
noncomputable def tw12938279541623165630:=()
noncomputable def tw7346466642772088510:=()
noncomputable def tw14962179688208996158:=()
noncomputable def tw17336939572181884734:=()
noncomputable def tw2507404675718716254:=()
noncomputable def tw3175070194077982590:=()
noncomputable def tw16722021600757231614:=()
noncomputable def tw14369146057349318687:=()
noncomputable def tw16743915640586224735:=()
noncomputable def tw9088346136852123743:=()
noncomputable def tw3416222682316920927:=()
noncomputable def tw16512093931462017151:=()
noncomputable def tw5934264221950587135:=()
noncomputable def tw7130303370670278943:=()
noncomputable def tw6646724008078814495:=()
noncomputable def tw5870792833787743519:=()
noncomputable def tw6458431842187376959:=()
noncomputable def tw3525131037497553215:=()
noncomputable def tw13784822187893372351:=()
noncomputable def tw11997286919829980639:=()
noncomputable def tw1058484063221723679:=()
noncomputable def tw8490386216204413503:=()
noncomputable def tw9763062088343531071:=()
noncomputable def tw9214541702787777119:=()
noncomputable def tw7414352275931422335:=()
noncomputable def tw5125772425229499007:=()
noncomputable def tw1738003229451701919:=()
noncomputable def tw11412295641418213055:=()
noncomputable def tw13595822971784584927:=()
noncomputable def tw9749064523737206527:=()
noncomputable def tw6869822508123733791:=()
noncomputable def tw12303013452816618303:=()
noncomputable def tw7997792582620230877:=()
noncomputable def tw14988425564147373640:=()
noncomputable def tw12046993329325677453:=()
noncomputable def tw4383762927109015765:=()
noncomputable def tw891681277107228852:=()
noncomputable def tw9304111318298613600:=()
noncomputable def tw10035787562399538113:=()
noncomputable def tw12246898547992994146:=()
noncomputable def tw10398472656860784130:=()
noncomputable def tw17594186605288147619:=()
noncomputable def tw6812457618434798983:=()
noncomputable def tw4210078877266484103:=()
noncomputable def tw7239515171874087081:=()
noncomputable def tw3180576077328515339:=()
noncomputable def tw6655333687628533323:=()
noncomputable def tw11945493680633998447:=()
noncomputable def tw11155720904934798288:=()
noncomputable def tw2348131877092762641:=()
noncomputable def tw720292231795932692:=()
noncomputable def tw1467235994650669015:=()
noncomputable def tw5327550129983073912:=()
noncomputable def tw17425156587333137144:=()
noncomputable def tw13596611537784881785:=()
noncomputable def tw6118514898640423610:=()
noncomputable def tw10979919525663443805:=()
noncomputable def tw14903865179956605727:=()
noncomputable def tw8975836879926067675:=()
noncomputable def tw10017416877606423548:=()
noncomputable def tw2237265273981522715:=()
noncomputable def tw6960088838220872421:=()
noncomputable def tw3324376037428621954:=()
noncomputable def tw6976976576532922161:=()
noncomputable def tw11015587903248997198:=()
noncomputable def tw9272941366857847427:=()
noncomputable def tw8855424388344701910:=()
noncomputable def tw4917772877273269611:=()
noncomputable def tw8188799864129745760:=()
noncomputable def tw2176202986384741113:=()
noncomputable def tw6767118559154990280:=()
noncomputable def tw17549594369286330894:=()
noncomputable def tw2514471591843973043:=()
noncomputable def tw11174340753445334429:=()
noncomputable def tw15001903372641060802:=()
noncomputable def tw6526239032125806978:=()
noncomputable def tw10096580044801554562:=()
noncomputable def tw15362841121170599142:=()
noncomputable def tw1734483109332682832:=()
noncomputable def tw14864427892005093207:=()
noncomputable def tw17395081717981805272:=()
noncomputable def tw15378505614164152685:=()
noncomputable def tw8054979416573264178:=()
noncomputable def tw10134035943969193278:=()
noncomputable def tw4032863226346484147:=()
noncomputable def tw4012475776582599843:=()
noncomputable def tw10809387663842591513:=()
noncomputable def tw13721362080296501892:=()
noncomputable def tw17753509209782373900:=()
noncomputable def tw14299624976867701068:=()
noncomputable def tw1727458590341869807:=()
noncomputable def tw11660549286868008440:=()
noncomputable def tw11772822378617453682:=()
noncomputable def tw7642575059918496588:=()
noncomputable def tw4511513318576075348:=()
noncomputable def tw13872412725382462416:=()
noncomputable def tw12309362855065643615:=()
noncomputable def tw5336389787970056221:=()
noncomputable def tw15308385249390327110:=()
noncomputable def tw14076891617200397121:=()
noncomputable def tw12998004153427291383:=()
noncomputable def tw3143181470339546497:=()
end PySem.W.Fast
open PySem PySem.W PyProof.Rows
set_option maxRecDepth 100000 in
set_option maxHeartbeats 0 in
theorem PySem.Challenge.cw_sowring_k69_whole_homes_asked_holds : PySem.Challenge.rw_sowring_k69_whole_homes_asked.Holds := by
 w_on;o_law;k_head;(case hw=>w_witness2)
 k_fill
 refine L2.ZhW (l:=PySem.Challenge.rw_sowring_k69_whole_homes_asked) (n:=63) (k:=11) (x := "script") (CX:=L2.CX0) (sp:=My.ZfZ) rfl (by decide) rfl ⟨rfl,by decide,by decide⟩ (fun w h Y=>by first|exact PySem.W.kIn_of Y|exact PySem.W.km_in_of Y) ?F ?S ?C
 case F =>
  intro w mg fa h KX G hmg
  have T:My.Txt w (L2.KOf KX) mg:=by
   dsimp only[L2.KOf]
   refine' My.Zlu KX G ?ZrX ?ZrJ ?Zq7 ?ZrN ?ZsO ?Zsp ?ZpH ?Zsy ?Zt1 ?Ztd ?ZqG ?Ztl ?ZuJ ?Zuw ?ZrG ?Zu1 ?ZsP ?Zsq ?ZqV ?Zsz ?Zua ?ZtI ?ZrD ?ZtM ?Zrr ?Zri ?Zp3 ?Zrj ?Zqj ?Zqg ?ZoR ?Zqh ?ZsJ ?Zsk ?Zq2 ?Zst ?Zuc ?ZtK ?ZrF ?ZtO ?ZrW ?ZrI ?Zqm ?ZrM ?Zqq ?Zqn ?ZoZ ?Zqo ?Zty ?Zta ?Zro ?Zti ?ZsI ?Zsj ?ZqQ ?Zss ?ZuI ?Zuv ?ZsE ?Zu0 ?Zub ?ZtJ ?ZrE ?ZtN ?ZuG ?Zut ?ZsC ?Zuy ?ZsK ?Zsl ?ZqR ?Zsu ?Ztv ?ZsX ?Zrl ?Ztf ?ZsL ?Zsm ?ZqS ?Zsv ?Zrc ?ZqW ?ZpM ?ZqY ?ZuH ?Zuu ?ZsD ?Zuz ?ZuF ?Zus ?ZrB ?Zux ?Zr5 ?Zrt ?Zqs ?Zrx ?Zrd ?ZqX ?ZpN ?ZqZ ?ZtZ ?ZtH ?ZrC ?ZtL ?Ztx ?ZsZ ?Zrn ?Zth ?Zr6 ?Zru ?Zqt ?Zry ?ZpV ?ZpS ?ZoV ?ZpT ?Ztw ?ZsY ?Zrm ?Ztg ?ZrV ?ZrH ?Zq6 ?ZrL ?Ztz ?Ztb ?Zrp ?Ztj ?ZsH ?Zsi ?ZqP ?Zsr ?ZwJ ?ZwD ?ZvH ?ZwE ?Zt0 ?Ztc ?Zrq ?Ztk ?ZsM ?Zsn ?ZqT ?Zsw ?Zt2 ?Zte ?ZpL ?Ztm ?Zr7 ?Zrv ?ZpR ?Zrz ?ZrY ?ZrK ?Zq8 ?ZrO ?Zr8 ?Zrw ?Zqu ?Zr0 ?ZqH ?ZqD ?Zp4 ?ZqE ?ZsN ?Zso ?ZqU ?Zsx ?ZwT ?ZwN ?ZwR ?ZwO ?a_FEWEST_PITS ?a_FIGURES ?a_MOST_FIGURES ?a_MOST_PITS ?a_MOST_YARD_PITS ?a_MOST_YARD_SEEDS ?z_all ?z_bool ?z_int ?z_isinstance ?z_len ?z_list ?z_min ?z_range ?z_str ?z_sum ?z_tuple ?z_zip ?kb_ANY_NUMBERS ?kb_BOARD_NUMBERS ?kb_ONE_NUMBER ?tb_TELLERS ?th_TELLERS ?x_tab ?x_exc ?am_SowError ?fm1_SowError ?tm_SowError ?lm_SowError ?cm_SowError ?km_SowError ?am_BadBoard ?fm1_BadBoard ?tm_BadBoard ?lm_BadBoard ?cm_BadBoard ?km_BadBoard ?am_BadPit ?fm1_BadPit ?tm_BadPit ?lm_BadPit ?cm_BadPit ?km_BadPit ?am_BadPits ?fm1_BadPits ?tm_BadPits ?lm_BadPits ?cm_BadPits ?km_BadPits ?am_BadCount ?fm1_BadCount ?tm_BadCount ?lm_BadCount ?cm_BadCount ?km_BadCount ?am_NoSeeds ?fm1_NoSeeds ?tm_NoSeeds ?lm_NoSeeds ?cm_NoSeeds ?km_NoSeeds ?am_Unlike ?fm1_Unlike ?tm_Unlike ?lm_Unlike ?cm_Unlike ?km_Unlike ?am_TooLong ?fm1_TooLong ?tm_TooLong ?lm_TooLong ?cm_TooLong ?km_TooLong ?am_TooMany ?fm1_TooMany ?tm_TooMany ?lm_TooMany ?cm_TooMany ?km_TooMany ?am_BadLine ?fm1_BadLine ?tm_BadLine ?lm_BadLine ?cm_BadLine ?km_BadLine ?am_BadYard ?fm1_BadYard ?tm_BadYard ?lm_BadYard ?cm_BadYard ?km_BadYard ?am_BadText ?fm1_BadText ?tm_BadText ?lm_BadText ?cm_BadText ?km_BadText
   (case ZrX=>k_is)
   (case ZrJ=>k_is)
   (case Zq7=>k_is)
   (case ZrN=>k_is)
   (case ZsO=>k_is)
   (case Zsp=>k_is)
   (case ZpH=>k_is)
   (case Zsy=>k_is)
   (case Zt1=>k_is)
   (case Ztd=>k_is)
   (case ZqG=>k_is)
   (case Ztl=>k_is)
   (case ZuJ=>k_is)
   (case Zuw=>k_is)
   (case ZrG=>k_is)
   (case Zu1=>k_is)
   (case ZsP=>k_is)
   (case Zsq=>k_is)
   (case ZqV=>k_is)
   (case Zsz=>k_is)
   (case Zua=>k_is)
   (case ZtI=>k_is)
   (case ZrD=>k_is)
   (case ZtM=>k_is)
   (case Zrr=>k_is)
   (case Zri=>k_is)
   (case Zp3=>k_is)
   (case Zrj=>k_is)
   (case Zqj=>k_is)
   (case Zqg=>k_is)
   (case ZoR=>k_is)
   (case Zqh=>k_is)
   (case ZsJ=>k_is)
   (case Zsk=>k_is)
   (case Zq2=>k_is)
   (case Zst=>k_is)
   (case Zuc=>k_is)
   (case ZtK=>k_is)
   (case ZrF=>k_is)
   (case ZtO=>k_is)
   (case ZrW=>k_is)
   (case ZrI=>k_is)
   (case Zqm=>k_is)
   (case ZrM=>k_is)
   (case Zqq=>k_is)
   (case Zqn=>k_is)
   (case ZoZ=>k_is)
   (case Zqo=>k_is)
   (case Zty=>k_is)
   (case Zta=>k_is)
   (case Zro=>k_is)
   (case Zti=>k_is)
   (case ZsI=>k_is)
   (case Zsj=>k_is)
   (case ZqQ=>k_is)
   (case Zss=>k_is)
   (case ZuI=>k_is)
   (case Zuv=>k_is)
   (case ZsE=>k_is)
   (case Zu0=>k_is)
   (case Zub=>k_is)
   (case ZtJ=>k_is)
   (case ZrE=>k_is)
   (case ZtN=>k_is)
   (case ZuG=>k_is)
   (case Zut=>k_is)
   (case ZsC=>k_is)
   (case Zuy=>k_is)
   (case ZsK=>k_is)
   (case Zsl=>k_is)
   (case ZqR=>k_is)
   (case Zsu=>k_is)
   (case Ztv=>k_is)
   (case ZsX=>k_is)
   (case Zrl=>k_is)
   (case Ztf=>k_is)
   (case ZsL=>k_is)
   (case Zsm=>k_is)
   (case ZqS=>k_is)
   (case Zsv=>k_is)
   (case Zrc=>k_is)
   (case ZqW=>k_is)
   (case ZpM=>k_is)
   (case ZqY=>k_is)
   (case ZuH=>k_is)
   (case Zuu=>k_is)
   (case ZsD=>k_is)
   (case Zuz=>k_is)
   (case ZuF=>k_is)
   (case Zus=>k_is)
   (case ZrB=>k_is)
   (case Zux=>k_is)
   (case Zr5=>k_is)
   (case Zrt=>k_is)
   (case Zqs=>k_is)
   (case Zrx=>k_is)
   (case Zrd=>k_is)
   (case ZqX=>k_is)
   (case ZpN=>k_is)
   (case ZqZ=>k_is)
   (case ZtZ=>k_is)
   (case ZtH=>k_is)
   (case ZrC=>k_is)
   (case ZtL=>k_is)
   (case Ztx=>k_is)
   (case ZsZ=>k_is)
   (case Zrn=>k_is)
   (case Zth=>k_is)
   (case Zr6=>k_is)
   (case Zru=>k_is)
   (case Zqt=>k_is)
   (case Zry=>k_is)
   (case ZpV=>k_is)
   (case ZpS=>k_is)
   (case ZoV=>k_is)
   (case ZpT=>k_is)
   (case Ztw=>k_is)
   (case ZsY=>k_is)
   (case Zrm=>k_is)
   (case Ztg=>k_is)
   (case ZrV=>k_is)
   (case ZrH=>k_is)
   (case Zq6=>k_is)
   (case ZrL=>k_is)
   (case Ztz=>k_is)
   (case Ztb=>k_is)
   (case Zrp=>k_is)
   (case Ztj=>k_is)
   (case ZsH=>k_is)
   (case Zsi=>k_is)
   (case ZqP=>k_is)
   (case Zsr=>k_is)
   (case ZwJ=>k_is)
   (case ZwD=>k_is)
   (case ZvH=>k_is)
   (case ZwE=>k_is)
   (case Zt0=>k_is)
   (case Ztc=>k_is)
   (case Zrq=>k_is)
   (case Ztk=>k_is)
   (case ZsM=>k_is)
   (case Zsn=>k_is)
   (case ZqT=>k_is)
   (case Zsw=>k_is)
   (case Zt2=>k_is)
   (case Zte=>k_is)
   (case ZpL=>k_is)
   (case Ztm=>k_is)
   (case Zr7=>k_is)
   (case Zrv=>k_is)
   (case ZpR=>k_is)
   (case Zrz=>k_is)
   (case ZrY=>k_is)
   (case ZrK=>k_is)
   (case Zq8=>k_is)
   (case ZrO=>k_is)
   (case Zr8=>k_is)
   (case Zrw=>k_is)
   (case Zqu=>k_is)
   (case Zr0=>k_is)
   (case ZqH=>k_is)
   (case ZqD=>k_is)
   (case Zp4=>k_is)
   (case ZqE=>k_is)
   (case ZsN=>k_is)
   (case Zso=>k_is)
   (case ZqU=>k_is)
   (case Zsx=>k_is)
   (case ZwT=>k_is)
   (case ZwN=>k_is)
   (case ZwR=>k_is)
   (case ZwO=>k_is)
   (case a_FEWEST_PITS=>k_is)
   (case a_FIGURES=>k_is)
   (case a_MOST_FIGURES=>k_is)
   (case a_MOST_PITS=>k_is)
   (case a_MOST_YARD_PITS=>k_is)
   (case a_MOST_YARD_SEEDS=>k_is)
   (case z_all=>k_is)
   (case z_bool=>k_is)
   (case z_int=>k_is)
   (case z_isinstance=>k_is)
   (case z_len=>k_is)
   (case z_list=>k_is)
   (case z_min=>k_is)
   (case z_range=>k_is)
   (case z_str=>k_is)
   (case z_sum=>k_is)
   (case z_tuple=>k_is)
   (case z_zip=>k_is)
   (case kb_ANY_NUMBERS=>kernel_rfl)
   (case kb_BOARD_NUMBERS=>kernel_rfl)
   (case kb_ONE_NUMBER=>kernel_rfl)
   (case tb_TELLERS=>kernel_rfl)
   (case th_TELLERS=>kernel_rfl)
   (case x_tab=>kernel_rfl)
   (case x_exc=>kernel_rfl)
   (case am_SowError=>k_is)
   (case fm1_SowError=>k_is)
   (case tm_SowError=>k_is)
   (case lm_SowError=>k_is)
   (case cm_SowError=>k_is)
   (case km_SowError=>k_is)
   (case am_BadBoard=>k_is)
   (case fm1_BadBoard=>k_is)
   (case tm_BadBoard=>k_is)
   (case lm_BadBoard=>k_is)
   (case cm_BadBoard=>k_is)
   (case km_BadBoard=>k_is)
   (case am_BadPit=>k_is)
   (case fm1_BadPit=>k_is)
   (case tm_BadPit=>k_is)
   (case lm_BadPit=>k_is)
   (case cm_BadPit=>k_is)
   (case km_BadPit=>k_is)
   (case am_BadPits=>k_is)
   (case fm1_BadPits=>k_is)
   (case tm_BadPits=>k_is)
   (case lm_BadPits=>k_is)
   (case cm_BadPits=>k_is)
   (case km_BadPits=>k_is)
   (case am_BadCount=>k_is)
   (case fm1_BadCount=>k_is)
   (case tm_BadCount=>k_is)
   (case lm_BadCount=>k_is)
   (case cm_BadCount=>k_is)
   (case km_BadCount=>k_is)
   (case am_NoSeeds=>k_is)
   (case fm1_NoSeeds=>k_is)
   (case tm_NoSeeds=>k_is)
   (case lm_NoSeeds=>k_is)
   (case cm_NoSeeds=>k_is)
   (case km_NoSeeds=>k_is)
   (case am_Unlike=>k_is)
   (case fm1_Unlike=>k_is)
   (case tm_Unlike=>k_is)
   (case lm_Unlike=>k_is)
   (case cm_Unlike=>k_is)
   (case km_Unlike=>k_is)
   (case am_TooLong=>k_is)
   (case fm1_TooLong=>k_is)
   (case tm_TooLong=>k_is)
   (case lm_TooLong=>k_is)
   (case cm_TooLong=>k_is)
   (case km_TooLong=>k_is)
   (case am_TooMany=>k_is)
   (case fm1_TooMany=>k_is)
   (case tm_TooMany=>k_is)
   (case lm_TooMany=>k_is)
   (case cm_TooMany=>k_is)
   (case km_TooMany=>k_is)
   (case am_BadLine=>k_is)
   (case fm1_BadLine=>k_is)
   (case tm_BadLine=>k_is)
   (case lm_BadLine=>k_is)
   (case cm_BadLine=>k_is)
   (case km_BadLine=>k_is)
   (case am_BadYard=>k_is)
   (case fm1_BadYard=>k_is)
   (case tm_BadYard=>k_is)
   (case lm_BadYard=>k_is)
   (case cm_BadYard=>k_is)
   (case km_BadYard=>k_is)
   (case am_BadText=>k_is)
   (case fm1_BadText=>k_is)
   (case tm_BadText=>k_is)
   (case lm_BadText=>k_is)
   (case cm_BadText=>k_is)
   (case km_BadText=>k_is)
  exact My.Zmm T hmg
 case S=>exact fun K H a ns hl hO hS=>My.ZgX hl hO hS
 case C=>exact fun _ _ _ _ z=>z
