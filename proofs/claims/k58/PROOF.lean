import PyProof.Rows.All
import Wide.All
import OpenK.AllK
import Wide.FinOn
import Lean
import PyProof.EqAt
import PyProof.EqKinds
import PyProof.TupleCall
import KE.KTryMore
import PyProof.NsDelKeeps
import PyProof.EnumStmt
import KE.KRevIter
import PyProof.ListNew
import PyProof.Rows.SortRuns
import KE.KIntText
import PyProof.ListRange
import PyProof.Rows.Range3
import PyProof.Rows.TupDisplay
import KE.KSortTup
import PyProof.DictWalks
import PyProof.DictTruth
import PyProof.StrBlock2
import PyProof.ExcInit
import PyProof.ExcClass2
import PySem.Challenge.RW_sowring_k58_deeds_of_a_book
open List renaming getD_eq_getElem?_getD->Zt5,getElem?_eq_getElem->Zt6,length_map->Zt7,mem_append_left->Zt8,mem_append_right->Zt9,mem_append->ZtA,size_toArray->ZtB,mem_cons->ZtE,getElem?_eq_none->ZtF,getElem?_append_left->ZtG,getElem?_set_self->ZtH,map_cons->ZtI,getElem?_set_ne->ZtJ,length_cons->ZtK,getElem?_map->ZtL,mem_cons_of_mem->ZtM,getElem?_eq_some_iff->ZtN,mem_singleton->ZtO,getElem?_append_right->ZtQ,lookup_cons->ZtT,map_append->ZtU,append_nil->ZtW,all_eq_true->ZtX,replicate_succ->ZtY,getElem?_eq_none_iff->Zua,mem_map->Zub,mem_cons_self->Zuc,length_append->Zud,getElem?_replicate_of_lt->Zue,getElem_mem->Zuf,mem_of_getElem?->Zug,getElem?_cons_zero->Zui,length_set->Zul,zip_cons_cons->Zun,dropLast_subset->Zuo,flatten_cons->Zup,length_nil->Zuq,find?_cons->Zuu,drop_eq_getElem_cons->Zuv,not_mem_nil->Zux,lookup->Zuy,map_nil->Zu0,drop_eq_nil_of_le->Zu1,ext_getElem?->Zu2,contains_iff_mem->Zu3,length_take->Zu4,getElem?_mapIdx->Zu6,sum_cons->Zu7,mem_filter->Zu8,filterMap_cons->Zu9,nodup_cons->ZuA,getElem?_range->ZuB,mem_filterMap->ZuD,set_cons_succ->ZuE,append_assoc->ZuF,any_cons->ZuG,getElem_map->ZuI,cons_append->ZuJ,of_mem_zip->ZuK,nil_append->ZuL,length_zip->ZuM,map_map->ZuN,idxOf_cons->ZuO
open Nat renaming lt_of_lt_of_le->ZtC,le_refl->ZtD,ne_of_lt->ZtP,le_trans->ZtS,lt_irrefl->Zuh,zero_le->Zuk,lt_succ_self->Zus,lt_of_le_of_lt->Zut,ne_of_gt->ZuC
open Int renaming emod_lt_of_pos->ZtR,emod_nonneg->ZtV,emod_eq_of_lt->ZtZ,toNat_of_nonneg->Zum,toNat_natCast->Zur,natCast_zero->Zu5
open Array renaming length_toList->Zuj
open Option renaming bind_some->Zuw,isSome_iff_exists->Zuz,getD_some->ZuH
set_option Elab.async false
set_option linter.all false
set_option maxRecDepth 100000
namespace L2
open PySem PySem.Spec PyProof.Rows
noncomputable abbrev Key:=Sum Int Str
noncomputable def Zey:Key->Value->Bool
 |.inl k,v=>Value.isInt k v
 |.inr x,v=>Value.isStrOf x v
noncomputable def Znq (w:World):Key->Int
 |.inl k=>hashInt k
 |.inr x=>hashStr w x
theorem ZW:∀{k:Key}{v:Value},Zey k v=true->(∃i t,k=Sum.inl i/\v=Value.int i t)\/(∃x t,k=Sum.inr x/\v=Value.str x t)
 |.inl i,v,h=>by
  obtain⟨t,e⟩:=Value.isInt_shape (k:=i) (v:=v) h
  exact .inl ⟨i,t,rfl,e⟩
 |.inr x,v,h=>by
  obtain⟨t,e⟩:=Value.isStrOf_shape (x:=x) (v:=v) h
  exact .inr ⟨x,t,rfl,e⟩
theorem ZfG (i:Int) (t:Tok):Zey (.inl i) (.int i t)=true:=by simp[Zey,Value.isInt]
theorem ZfF (x:Str) (t:Tok):Zey (.inr x) (.str x t)=true:=by simp[Zey,Value.isStrOf]
theorem ZkH (a b:Int):decide ((Sum.inl a:Key)=Sum.inl b)=(a==b):=by
 by_cases e:a=b
 ·subst e;simp
 ·have h:¬(Sum.inl a:Key)=Sum.inl b:=fun q=>e (Sum.inl.inj q)
  rw[decide_eq_false h]
  exact(beq_eq_false_iff_ne.mpr e).symm
theorem ZkE (a b:Str):decide ((Sum.inr a:Key)=Sum.inr b)=decide (a=b):=by
 by_cases e:a=b
 ·subst e;simp
 ·have h:¬(Sum.inr a:Key)=Sum.inr b:=fun q=>e (Sum.inr.inj q)
  rw[decide_eq_false h,decide_eq_false e]
theorem ZkG (a:Int) (b:Str):decide ((Sum.inl a:Key)=Sum.inr b)=false:=decide_eq_false (fun q=>nomatch q)
theorem ZkF (a:Str) (b:Int):decide ((Sum.inr a:Key)=Sum.inl b)=false:=decide_eq_false (fun q=>nomatch q)
noncomputable def Jy (prog:Program) (w:World):PySem.KeyKind prog w Key where
 is:=Zey
 hash:=Znq w
 inj:=fun v a b ha hb=>by
  rcases ZW ha with ⟨i,t,rfl,rfl⟩|⟨x,t,rfl,rfl⟩
  ·rcases ZW hb with ⟨j,u,rfl,e⟩|⟨y,u,rfl,e⟩
   ·injection e with e1 _;rw[e1]
   ·exact nomatch e
  ·rcases ZW hb with ⟨j,u,rfl,e⟩|⟨y,u,rfl,e⟩
   ·exact nomatch e
   ·injection e with e1 _;rw[e1]
 byValue:=fun k v h=>by
  rcases ZW h with ⟨i,t,rfl,rfl⟩|⟨x,t,rfl,rfl⟩<;>rfl
 pyHash:=fun hv h=>by
  rcases ZW hv with ⟨i,t,rfl,rfl⟩|⟨x,t,rfl,rfl⟩
  ·exact wpAny_pyHash_int h
  ·exact wpAny_pyHash_str h
 eqBool:=fun hu hv h=>by
  rcases ZW hu with ⟨i,t,rfl,rfl⟩|⟨x,t,rfl,rfl⟩
  ·rcases ZW hv with ⟨j,u,rfl,rfl⟩|⟨y,u,rfl,rfl⟩
   ·rw[ZkH] at h;exact wpAny_eqBool_int h
   ·rw[ZkG] at h;exact SeqAt.EqAt.int_str i t y u _ _ _ _ h
  ·rcases ZW hv with ⟨j,u,rfl,rfl⟩|⟨y,u,rfl,rfl⟩
   ·rw[ZkF] at h;exact SeqAt.EqAt.str_int x t j u _ _ _ _ h
   ·rw[ZkE] at h;exact wpAny_eqBool_str h
 «strs»:=fun k x t v h=>by
  rcases ZW h with ⟨i,u,rfl,e⟩|⟨y,u,rfl,e⟩
  ·exact nomatch e
  ·injection e with e1 _
   subst e1
   cases v<;>rfl
theorem ZcA (prog:Program) (w:World) (i:Int) (t:Tok):(Jy prog w).is (.inl i) (.int i t)=true:=ZfG i t
theorem Zc9 (prog:Program) (w:World) (x:Str) (t:Tok):(Jy prog w).is (.inr x) (.str x t)=true:=ZfF x t
inductive V where
 |non|bl (b:Bool)|int (i:Int)|str (x:Str)|byt (b:Array UInt8)|flt (b:UInt64)|ref (a:Addr)|ty (n:String)
 deriving DecidableEq
noncomputable def Jp:V->Value->Prop
 |.non,u=>u=Value.none
 |.bl b,u=>u=Value.bool b
 |.int i,u=>∃t,u=Value.int i t
 |.str x,u=>∃t,u=Value.str x t
 |.byt b,u=>∃t,u=Value.bytes b t
 |.flt b,u=>∃t,u=Value.float b t
 |.ref a,u=>u=Value.ref a
 |.ty n,u=>u=Value.type n
noncomputable abbrev ZT:List V->List Value->Prop:=Paired Jp
theorem ZT.length {xs:List V}{us:List Value} (r:ZT xs us):xs.length=us.length:=Paired.length r
theorem ZT.get:∀{xs:List V}{us:List Value}{i:Nat}{x:V},ZT xs us->xs[i]?=some x->∃u,us[i]?=some u/\Jp x u
 |_,_,_,_,.nil,e=>by simp at e
 |_,_,0,_,.cons r _,e=>by simp at e;subst e;exact⟨_,rfl,r⟩
 |_,_,i+1,x,.cons _ t,e=>by
  obtain⟨u,h1,h2⟩:=ZT.get (i:=i) (x:=x) t (by simpa using e)
  exact⟨u,by simpa using h1,h2⟩
theorem ZT.set {x:V}{u:Value} (r:Jp x u):∀{xs:List V}{us:List Value} (i:Nat),ZT xs us->ZT (xs.set i x) (us.set i u)
 |_,_,_,.nil=>.nil
 |_,_,0,.cons _ t=>.cons r t
 |_,_,i+1,.cons q t=>.cons q (ZT.set r i t)
theorem ZT.append:∀{xs ys:List V}{us ws:List Value},ZT xs us->ZT ys ws->ZT (xs++ys) (us++ws)
 |_,_,_,_,.nil,s=>s
 |_,_,_,_,.cons r t,s=>.cons r (ZT.append t s)
theorem ZT.take:∀{xs:List V}{us:List Value} (n:Nat),ZT xs us->ZT (xs.take n) (us.take n)
 |_,_,0,_=>.nil
 |_,_,_+1,.nil=>.nil
 |_,_,n+1,.cons r t=>.cons r (ZT.take n t)
theorem ZT.drop:∀{xs:List V}{us:List Value} (n:Nat),ZT xs us->ZT (xs.drop n) (us.drop n)
 |_,_,0,r=>r
 |_,_,_+1,.nil=>.nil
 |_,_,n+1,.cons _ t=>ZT.drop n t
noncomputable def ZaF:Option V->Option Value->Prop
 |some v,some u=>Jp v u
 |none,none=>True
 |_,_=>False
def KV {κ:Type}:List (κ×V)->List (κ×Value)->Prop:=Paired fun(p:κ×V) (q:κ×Value)=>p.1=q.1/\Jp p.2 q.2
noncomputable def kV:Key->V
 |.inl i=>.int i
 |.inr x=>.str x
inductive HO where
  |lst (xs:List V)
  |tup (xs:List V)
  |dK (kvs:List (Key×V))|dT (kvs:List (List Key×V))
  |set (S:Int->Bool) (n:Nat)
  |ins (C dx:Addr) (fs:List (Str×V))
  |own (x:Addr)
  |xd (fs:List (Str×V))
  |met (f x:Addr)
  |rng (lo hi:Int)
  |frz (o:Obj) (u:HO)
  |tbl (ps:Array Value)
  |ext (φ:Heap->Prop)
noncomputable abbrev Hp:=Addr->Option HO
noncomputable def upd (H:Hp) (a:Addr) (o:HO):Hp:=fun b=>if b=a then some o else H b
theorem Z0 {H:Hp}{a:Addr}{o:HO}:upd H a o a=some o:=by unfold upd;rw[if_pos rfl]
theorem Zq {H:Hp}{a b:Addr}{o:HO} (h:b≠a):upd H a o b=H b:=by unfold upd;rw[if_neg h]
theorem Zk7 {H:Hp}{a b:Addr}{o u:HO} (h:H a=some o) (h':H b=some u) (d:o≠u):a≠b:=by
 intro e;subst e;rw[h] at h';exact d (Option.some.inj h')
theorem Zz {H:Hp}{a b:Addr}{o:HO} (h:H a=some o) (h':H b=none):a≠b:=by
 intro e;subst e;rw[h] at h';cases h'
section
variable (P:Program) (w:World)
noncomputable def Jz (H:Hp) (h:Heap) (a:Addr):HO->Prop
 |.lst xs=>xs.length<=sizeLine/\∃(its:List Value) (n:Nat),ZT xs its/\h.get? a=some { cls:=.type "list",data:=.seq its.toArray n }
 |.tup xs=>xs.length<=sizeLine/\∃its:List Value,ZT xs its/\IsTup h a its.toArray
 |.dK kvs=>kvs.length<=sizeLine/\(a==sysModules)=false/\∃vs,KV kvs vs/\h.DictOf (Jy P w) a vs
 |.dT kvs=>kvs.length<=sizeLine/\(a==sysModules)=false/\∃xs:List (List Key×Addr×Value),
   Paired (fun(p:List Key×V) (q:List Key×Addr×Value)=>p.1=q.1/\H q.2.1=some (.tup (p.1.map kV))/\Jp p.2 q.2.2) kvs xs /\
   ∃o es ep,h.get? a=some o/\o.ExactDict/\o.data=.dict es ep/\es.toList=xs.map (entryOfKey (tupleKind (Jy P w)))/\(xs.map (·.1)).Nodup
 |.set S n=>h.SetOf (intKind P w) a S n
 |.ins C dx fs=>H dx=some (.own a)/\fs.length<=1000/\dx≠a/\h.get? a=some (PySem.W.instObj C dx) /\
   ∃mA,h.Ns1 dx mA/\(∀f,ZaF (fs.lookup f) (mA f))/\PySem.Within mA (fs.map (·.1))
 |.own _=>∃o,h.get? a=some o
 |.xd fs=>∃mA,h.Ns1 a mA/\∀f,ZaF (fs.lookup f) (mA f)
 |.rng lo hi=>∃t u v,h.get? a=some { cls:=.type "range",data:=.fields #[.int lo t,.int hi u,.int 1 v] }
 |.frz o u=>h.get? a=some o/\Jz H h a u
 |.tbl ps=>h.get? a=some { cls:=.none,data:=.fields ps }
 |.met f x=>h.get? a=some (PySem.W.methodObj (.ref f) (.ref x))
 |.ext φ=>φ h/\(∃o,h.get? a=some o)/\∀h1 h2:Heap,φ h1->(∀o,h1.get? a=some o->h2.get? a=some o)->φ h2
def HOk (H:Hp) (h:Heap):Prop:=∀a o,H a=some o->Jz P w H h a o
end
section
variable {P:Program}{w:World}{H H':Hp}{h h':Heap}{a:Addr}{o:HO}
theorem Jz.lt (x:Jz P w H h a o):a<h.objs.size:=by
 cases o with
 |lst xs=>obtain⟨_,_,_,_,e⟩:=x;exact Heap.lt_size e
 |tup xs=>obtain⟨_,_,_,p⟩:=x;exact p.lt
 |dK kvs=>obtain⟨_,_,_,_,o,_,_,e,_⟩:=x;exact Heap.lt_size e
 |dT kvs=>obtain⟨_,_,_,_,o,_,_,e,_⟩:=x;exact Heap.lt_size e
 |set S n=>obtain⟨o,_,_,_,e,_⟩:=x;exact Heap.lt_size e
 |ins C dx fs=>obtain⟨_,_,_,e,_⟩:=x;exact Heap.lt_size e
 |own y=>obtain⟨_,e⟩:=x;exact Heap.lt_size e
 |xd fs=>obtain⟨_,⟨_,_,_,e,_⟩,_⟩:=x;exact Heap.lt_size e
 |rng lo hi=>obtain⟨_,_,_,e⟩:=x;exact Heap.lt_size e
 |frz ob u=>obtain⟨e,_⟩:=x;exact Heap.lt_size e
 |tbl ps=>exact Heap.lt_size (show h.get? a=some _ from x)
 |met f y=>exact Heap.lt_size (show h.get? a=some _ from x)
 |ext φ=>obtain⟨_,⟨_,e⟩,_⟩:=x;exact Heap.lt_size e
theorem Paired.mapP {α β:Type}{F G:α->β->Prop}:∀{l₁:List α}{l₂:List β},Paired F l₁ l₂->(∀a b,F a b->G a b)->Paired G l₁ l₂
 |_,_,.nil,_=>.nil
 |_,_,.cons r t,f=>.cons (f _ _ r) (Paired.mapP t f)
theorem Jz.stay (x:Jz P w H h a o) (k:∀b u,(b=a\/H b=some (.own a))->h.get? b=some u->h'.get? b=some u)
  (ho:∀b,H b=some (.own a)->H' b=some (.own a)) (ht:∀b xs,H b=some (.tup xs)->H' b=some (.tup xs)):Jz P w H' h' a o:=by
 induction o with
 |lst xs=>obtain⟨z,its,n,r,e⟩:=x;exact⟨z,its,n,r,k _ _ (.inl rfl) e⟩
 |tup xs=>obtain⟨z,its,r,ob,e,c⟩:=x;exact⟨z,its,r,ob,k _ _ (.inl rfl) e,c⟩
 |dK kvs=>obtain⟨z,y,vs,r,ob,es,ep,e,c⟩:=x;exact⟨z,y,vs,r,ob,es,ep,k _ _ (.inl rfl) e,c⟩
 |dT kvs =>
  obtain⟨z,y,xs,r,ob,es,ep,e,c⟩:=x
  exact⟨z,y,xs,Paired.mapP r fun p q z=>⟨z.1,ht _ _ z.2.1,z.2.2⟩,ob,es,ep,k _ _ (.inl rfl) e,c⟩
 |set S n=>obtain⟨ob,es,ep,t,e,c⟩:=x;exact⟨ob,es,ep,t,k _ _ (.inl rfl) e,c⟩
 |ins C dx fs =>
  obtain⟨d,z,ne,e,mA,⟨od,es,ep,e2,c⟩,r⟩:=x
  exact⟨ho _ d,z,ne,k _ _ (.inl rfl) e,mA,⟨od,es,ep,k _ _ (.inr d) e2,c⟩,r⟩
 |own y=>obtain⟨ob,e⟩:=x;exact⟨ob,k _ _ (.inl rfl) e⟩
 |xd fs=>obtain⟨mA,⟨od,es,ep,e,c⟩,r⟩:=x;exact⟨mA,⟨od,es,ep,k _ _ (.inl rfl) e,c⟩,r⟩
 |rng lo hi=>obtain⟨t,u,v,e⟩:=x;exact⟨t,u,v,k _ _ (.inl rfl) e⟩
 |frz ob u ih=>obtain⟨e,q⟩:=x;exact⟨k _ _ (.inl rfl) e,ih q⟩
 |tbl ps =>
  have e:h.get? a=some { cls:=.none,data:=.fields ps }:=x
  show h'.get? a=some { cls:=.none,data:=.fields ps }
  exact k a _ (.inl rfl) e
 |met f y =>
  have e:h.get? a=some (PySem.W.methodObj (.ref f) (.ref y)):=x
  show h'.get? a=some (PySem.W.methodObj (.ref f) (.ref y))
  exact k a _ (.inl rfl) e
 |ext φ=>obtain⟨p,⟨o,e⟩,st⟩:=x;exact⟨st _ _ p fun o q=>k _ _ (.inl rfl) q,⟨o,k _ _ (.inl rfl) e⟩,st⟩
theorem HOk.lt (x:HOk P w H h) (e:H a=some o):a<h.objs.size:=(x a o e).lt
theorem HOk.fresh (x:HOk P w H h) (e:h.objs.size<=a):H a=none:=by
 cases q:H a with
 |none=>rfl
 |some u=>exact absurd (ZtC (x.lt q) e) (Zuh _)
theorem HOk.kept (x:HOk P w H h) (k:∀b u,h.get? b=some u->h'.get? b=some u):HOk P w H h':=fun a o e =>
 (x a o e).stay (fun b u _ q=>k b u q) (fun _ q=>q) fun _ _ q=>q
theorem HOk.laid (x:HOk P w H h) (k:∀b u,h.get? b=some u->h'.get? b=some u) (hp:h.objs.size<=a) (new:Jz P w (upd H a o) h' a o):HOk P w (upd H a o) h':=fun b u e=>by
 have hn:=x.fresh hp
 by_cases hb:b=a
 ·subst hb;rw[Z0] at e;cases e;exact new
 ·rw[Zq hb] at e
  exact(x b u e).stay (fun c v _ q=>k c v q) (fun c q=>by rw[Zq (Zz q hn)];exact q) fun c xs q=>by rw[Zq (Zz q hn)];exact q
end
def Rd (H:Hp) (a:Addr) (u:HO):Prop:=H a=some u\/∃o,H a=some (.frz o u)
theorem Rd.ok {P:Program}{w:World}{H:Hp}{h:Heap}{a:Addr}{u:HO} (r:Rd H a u) (x:HOk P w H h):Jz P w H h a u:=by
 rcases r with r|⟨o,r⟩
 ·exact x a u r
 ·obtain⟨_,q⟩:=x a _ r
  exact q
noncomputable def Mut:Option HO->Prop
 |some (.lst _)=>True
 |some (.dK _)=>True
 |some (.dT _)=>True
 |some (.set _ _)=>True
 |some (.ins _ _ _)=>True
 |some (.ext _)=>True
 |_=>False
section
variable {P:Program}{w:World}{H:Hp}{h h':Heap}{x e:Addr}{o':HO}
theorem HOk.write (ok:HOk P w H h) (mu:Mut (H x)) (he:e=x\/H e=some (.own x)) (k:∀b u,b≠e->h.get? b=some u->h'.get? b=some u) (heo:∃u,h'.get? e=some u)
  (new:Jz P w (upd H x o') h' x o'):HOk P w (upd H x o') h':=fun b u q=>by
 have nown:∀c y,H c=some (.own y)->c≠x:=fun c y r z=>by subst z;rw[r] at mu;exact mu
 have ntup:∀c xs,H c=some (.tup xs)->c≠x:=fun c xs r z=>by subst z;rw[r] at mu;exact mu
 by_cases hb:b=x
 ·subst hb;rw[Z0] at q;cases q;exact new
 ·rw[Zq hb] at q
  by_cases hbe:b=e
  ·have q':H b=some (.own x):=by
    rcases he with z|z
    ·exact absurd (hbe.trans z) hb
    ·rw[hbe];exact z
   rw[q] at q';cases q'
   obtain⟨v,hv⟩:=heo
   exact⟨v,by rw[hbe];exact hv⟩
  ·refine(ok b u q).stay (fun c v hc r=>k c v ?_ r) (fun c r=>by rw[Zq (nown c b r)];exact r) fun c xs r=>by rw[Zq (ntup c xs r)];exact r
   rcases hc with rfl|hc
   ·exact hbe
   ·rintro rfl
    rcases he with z|z
    ·exact nown c b hc z
    ·rw[hc] at z;cases z;exact hb rfl
end
structure Un (fs ex:List Addr) (H H':Hp) (h h':Heap):Prop where
 keep:∀b o,h.get? b=some o->H b=none->b ∉ fs->b ∉ ex->h'.get? b=some o
 slot:∀b o,h.get? b=some o->H b=none->b∈fs->b ∉ ex->∃sl,h'.get? b=some { o with slots:=sl }
 free:∀b o,h.get? b=some o->H b=none->b ∉ ex->H' b=none
 there:∀b o,h.get? b=some o->b ∉ ex->∃o',h'.get? b=some o'
 tups:∀b xs,H b=some (.tup xs)->H' b=some (.tup xs)
 frzs:∀b o u,H b=some (.frz o u)->H' b=some (.frz o u)
 tbls:∀b ps,H b=some (.tbl ps)->∃more,H' b=some (.tbl (ps++more))
section
variable {fs ex:List Addr}{H H1:Hp}{h h1 h':Heap}{a x e:Addr}{o:HO}
theorem Un.any (u:Un fs ex H H1 h h1) {b:Addr}{ob:Obj} (q:h.get? b=some ob) (n:H b=none) (hx:b ∉ ex):∃sl,h1.get? b=some { ob with slots:=sl }:=by
 by_cases hb:b∈fs
 ·exact u.slot b ob q n hb hx
 ·exact⟨ob.slots,u.keep b ob q n hb hx⟩
theorem Un.kept (k:∀b u,h.get? b=some u->h'.get? b=some u):Un fs ex H H h h':=
 ⟨fun b ob q _ _ _=>k b ob q,fun b ob q _ _ _=>⟨ob.slots,k b ob q⟩,fun _ _ _ n _=>n,fun b ob q _=>⟨ob,k b ob q⟩,fun _ _ q=>q,fun _ _ _ q=>q,fun _ ps q=>⟨#[],by rw[q];simp⟩⟩
theorem Un.refl:Un fs ex H H h h:=Un.kept fun _ _ q=>q
theorem Un.laid (k:∀b u,h.get? b=some u->h'.get? b=some u) (hp:h.objs.size<=a) (hn:H a=none):Un fs ex H (upd H a o) h h' where
 keep:=fun b u q _ _ _=>k b u q
 slot:=fun b u q _ _ _=>⟨u.slots,k b u q⟩
 free:=fun b u q n _=>by rw[Zq (ZtP (ZtC (Heap.lt_size q) hp))];exact n
 there:=fun b u q _=>⟨u,k b u q⟩
 tups:=fun b xs q=>by rw[Zq (Zz q hn)];exact q
 frzs:=fun b u xs q=>by rw[Zq (Zz q hn)];exact q
 tbls:=fun b ps q=>⟨#[],by rw[Zq (Zz q hn),q];simp⟩
theorem Un.write (mu:Mut (H x)) (he:e=x\/H e=some (.own x)) (k:∀b u,b≠e->h.get? b=some u->h'.get? b=some u) (heo:∃u,h'.get? e=some u):Un fs ex H (upd H x o) h h':=by
 have hx:∀b,H b=none->b≠x:=fun b n z=>by subst z;rw[n] at mu;exact mu
 have hb:∀b,H b=none->b≠e:=fun b n z=>by
  subst z
  rcases he with r|r
  ·exact hx b n r
  ·rw[n] at r;cases r
 have hm:∀b u,H b=some u->¬Mut (some u)->b≠x:=fun b u q nm z=>by subst z;rw[q] at mu;exact nm mu
 refine⟨fun b u q n _ _=>k b u (hb b n) q,fun b u q n _ _=>⟨u.slots,k b u (hb b n) q⟩,fun b u q n _=>by rw[Zq (hx b n)];exact n,fun b u q _=>?_,
  fun b xs q=>by rw[Zq (hm b _ q fun z=>z)];exact q,fun b u xs q=>by rw[Zq (hm b _ q fun z=>z)];exact q,fun b ps q=>⟨#[],by rw[Zq (hm b _ q fun z=>z),q];simp⟩⟩
 by_cases hbe:b=e
 ·subst hbe;exact heo
 ·exact⟨u,k b u hbe q⟩
end
noncomputable def trk (h:Heap) (H:Hp):List Addr:=(List.range h.objs.size).filter fun a=>(H a).isSome
noncomputable def Zh1 (h:Heap) (H:Hp):Heap:=PySem.W.hideAll h (trk h H)
theorem ZfP (h:Heap) (H:Hp):(Zh1 h H).objs.size=h.objs.size:=PySem.W.hideAll_size _ _
theorem Zh0 {h:Heap}{H:Hp}{b:Addr}{o:Obj} (e:h.get? b=some o) (n:H b=none):(Zh1 h H).get? b=some o:=
 PySem.W.hideAll_get _ e fun hm=>by
  have q:(H b).isSome=true:=(Zu8.mp hm).2
  rw[n] at q;simp at q
theorem ZiU {h:Heap}{H:Hp}{b:Addr}{o:Obj} (e:(Zh1 h H).get? b=some o):h.get? b=some o/\H b=none:=by
 have e':h.get? b=some o:=PySem.W.of_hideAll (trk h H) e
 refine⟨e', ?_⟩
 cases q:H b with
 |none=>rfl
 |some x =>
  have hm:b∈trk h H:=Zu8.mpr ⟨List.mem_range.mpr (Heap.lt_size e'),by simp[q]⟩
  have z:(Zh1 h H).get? b=none:=PySem.W.hideAll_none (trk h H) hm
  rw[z] at e;cases e
noncomputable def Zj9 (g h:Heap) (L:Addr):List (Addr×Obj):=(List.range h.objs.size).filterMap fun a=>if a=L\/(g.get? a).isSome=true then none else (h.get? a).map fun o=>(a,o)
noncomputable def ZgD (g h:Heap) (L d:Addr):List (Addr×Obj):=(Zj9 g h L).filter fun p=>decide (p.1≠d)
structure Mod (K:PySem.W.Frag) (mg:Str->Option Value) (base:Heap):Prop where
 kin:K.In base
 glob:base.Ns mainGlobals mg
 blt:∃mb,base.Ns builtinsNs mb/\∀x:Str,x ≠ "__name__"->mb x=bootBuiltins x
 nolimit:base.NoLimit
structure Cx where
 prog:Program
 w:World
 K:PySem.W.Frag
 mg:Str->Option Value
 base:Heap
 A:Around
 N:List Str
 s₀:Shared
 H₀:Hp
 env:Env
 outer:List Env
 stack:List Env
 ex:List Addr
 fn:Str->Bool
 calm:Bool
 pn:List (Addr×Obj)
 xe:Value->Shared->Prop
noncomputable def frs (l:List Env):List Addr:=l.filterMap (·.frame)
noncomputable abbrev Cx.fs (X:Cx):List Addr:=frs X.outer
def Vis (sc:Scope) (x:Str):Prop:=sc.names.lookup x=some .local\/sc.names.lookup x=some .cell\/sc.names.lookup x=some .free
def Loc (sc:Scope) (x:Str):Prop:=sc.names.lookup x=some .local\/sc.names.lookup x=some .cell
def Znl (env:Env) (h:Heap) (m:Str->Option Value) (x:Str) (u:Value):Prop:=
 (env.kindOf x=some .local/\m x=some u)\/((env.kindOf x=some .cell\/env.kindOf x=some .free)/\∃c,env.cells.lookup x=some c/\h.IsCell c (some u))
structure Cx.Ok (X:Cx):Prop where
 mod:Mod X.K X.mg X.base
 kind:X.env.scope.kind=.function
 glob:X.env.globals=mainGlobals
 blt:X.env.builtins=builtinsNs
 above:X.s₀.heap.objs.size<=X.env.locals
 inj:∀x y c,X.env.cells.lookup x=some c->X.env.cells.lookup y=some c->x=y
 has:∀x,(X.env.kindOf x=some .cell\/X.env.kindOf x=some .free)->∃c,X.env.cells.lookup x=some c
 cab:∀x c,X.fn x=true->X.env.cells.lookup x=some c->X.s₀.heap.objs.size<=c
 hd:X.calm=true->X.A.handled=none
 frames:X.A.frames=some X.stack
 stk:X.stack=X.outer\/(X.stack=X.env::X.outer/\X.env.frame=some X.env.locals)
 exf:∀b∈X.ex,b≠X.env.locals/\∀x c,X.env.cells.lookup x=some c->c≠b
 bs:∀b o,X.base.get? b=some o->X.s₀.heap.get? b=some o/\X.H₀ b=none
 bsz:X.base.objs.size<=X.s₀.heap.objs.size
 noex:∀b o,X.base.get? b=some o->b ∉ X.ex
 exfs:∀b∈X.ex,b ∉ X.fs
 funs:X.s₀.heap.FunFrames X.base X.outer
 frf:∀b∈X.fs,X.H₀ b=none
structure Inv (X:Cx) (pins:List (Addr×Obj)) (σ:List (Option V)) (H:Hp) (s:Shared):Prop where
 ok:X.Ok
 os:s.os=X.s₀.os
 bare:AllBare s.gens
 base:Un X.fs X.ex X.H₀ H X.s₀.heap s.heap
 loc:∃m,s.heap.Ns X.env.locals m/\∀(i:Nat) (x:Str) (v:V),X.N[i]?=some x->σ[i]?=some (some v)->Vis X.env.scope x->∃u,Jp v u/\Znl X.env s.heap m x u
 cell:∀x c,X.env.cells.lookup x=some c->∃v,s.heap.IsCell c v
 free:H X.env.locals=none
 freeC:∀x c,X.env.cells.lookup x=some c->H c=none
 pin:∀p∈X.pn++pins,s.heap.get? p.1=some p.2/\H p.1=none/\p.1≠X.env.locals/\p.1 ∉ X.fs/\∀v,p.2.data≠.cell v
 hok:HOk X.prog X.w H s.heap
 len:σ.length=X.N.length
section
variable {X:Cx}{pins:List (Addr×Obj)}{σ:List (Option V)}{H H':Hp}{s:Shared}{h':Heap}
theorem Cx.Ok.nofr (ok:X.Ok) {b:Addr}{o:Obj} (e:X.base.get? b=some o):b ∉ X.fs:=fun hb=>by
 have:=(ok.funs.mem hb).1
 rw[e] at this;cases this
theorem Inv.bs (I:Inv X pins σ H s):∀b o,X.base.get? b=some o->s.heap.get? b=some o/\H b=none:=fun b o e =>
 ⟨I.base.keep b o (I.ok.bs b o e).1 (I.ok.bs b o e).2 (I.ok.nofr e) (I.ok.noex b o e),I.base.free b o (I.ok.bs b o e).1 (I.ok.bs b o e).2 (I.ok.noex b o e)⟩
theorem Inv.bk (I:Inv X pins σ H s):∀b o,X.base.get? b=some o->s.heap.get? b=some o:=fun b o e=>(I.bs b o e).1
theorem Inv.mod (I:Inv X pins σ H s):Mod X.K X.mg X.base:=I.ok.mod
theorem Inv.kIn (I:Inv X pins σ H s):X.K.In s.heap:=I.ok.mod.kin.keeps I.bk
theorem Inv.lt (I:Inv X pins σ H s):X.env.locals<s.heap.objs.size:=let ⟨_,hn,_⟩:=I.loc;hn.lt
theorem Inv.sz (I:Inv X pins σ H s):X.s₀.heap.objs.size<=s.heap.objs.size:=ZtS I.ok.above (Nat.le_of_lt I.lt)
theorem Inv.nofs (I:Inv X pins σ H s) {a:Addr} (h:s.heap.objs.size<=a):a ∉ X.fs:=fun hb=>by
 obtain⟨_,o,ho,_⟩:=I.ok.funs.mem hb
 exact absurd (ZtC (Heap.lt_size ho) (ZtS I.sz h)) (Zuh _)
theorem Inv.cne (I:Inv X pins σ H s):∀x c,X.env.cells.lookup x=some c->c≠X.env.locals:=fun x c e z=>by
 obtain⟨v,o,ho,hd⟩:=I.cell x c e
 obtain⟨m,⟨o',es,ep,ho',hd',_⟩,_⟩:=I.loc
 rw[z,ho'] at ho;cases ho;rw[hd'] at hd;cases hd
theorem Inv.funs (I:Inv X pins σ H s):s.heap.FunFrames X.base X.outer:=by
 have all:∀(l:List Env),(∀b∈frs l,b∈X.fs)->X.s₀.heap.FunFrames X.base l->s.heap.FunFrames X.base l:=by
  intro l
  induction l with
  |nil=>intro _ _;trivial
  |cons env r ih =>
   intro hs hl
   obtain⟨hk,⟨L,o,hf,hn,ho,hd⟩,hr⟩:=hl
   have hL:L∈X.fs:=hs L (by unfold frs;rw[Zu9,hf];exact Zuc)
   obtain⟨sl,e⟩:=I.base.slot L o ho (I.ok.frf L hL) hL fun z=>I.ok.exfs L z hL
   exact⟨hk,⟨L,_,hf,hn,e,hd⟩,ih (fun b hb=>hs b (by unfold frs;rw[Zu9,hf];exact ZtM _ hb)) hr⟩
 exact all X.outer (fun _ hb=>hb) I.ok.funs
theorem Inv.stack (I:Inv X pins σ H s):s.heap.FunFrames X.base X.stack:=by
 rcases I.ok.stk with e|⟨e,hf⟩
 ·rw[e];exact I.funs
 ·rw[e]
  obtain⟨m,hn,_⟩:=I.loc
  refine .cons (by rw[I.ok.kind];decide) hf hn ?_ I.funs
  exact Heap.get?_none_of_le (ZtS I.ok.bsz I.ok.above)
theorem Inv.stkSub (I:Inv X pins σ H s):∀b∈frs X.stack,b∈X.env.locals::X.fs:=fun b hb=>by
 rcases I.ok.stk with e|⟨e,hf⟩
 ·rw[e] at hb;exact ZtM _ hb
 ·rw[e] at hb
  unfold frs at hb
  rw[Zu9,hf] at hb
  exact hb
theorem Inv.stkFree (I:Inv X pins σ H s):∀b∈frs X.stack,H b=none:=fun b hb=>by
 rcases ZtE.mp (I.stkSub b hb) with e|hb
 ·rw[e];exact I.free
 ·obtain⟨_,o,ho,_⟩:=I.ok.funs.mem hb
  exact I.base.free b o ho (I.ok.frf b hb) fun z=>I.ok.exfs b z hb
theorem Inv.step {g':Array GenState}{t':Nat}{d':Drawn}{ch:List Addr} (I:Inv X pins σ H s)
  (hch:∀b∈ch,(b∈X.ex\/X.s₀.heap.objs.size<=b)/\b≠X.env.locals/\(∀x c,X.env.cells.lookup x=some c->c≠b)/\∀p∈X.pn++pins,p.1≠b)
  (keep:∀b o,b≠X.env.locals->b ∉ X.fs->b ∉ ch->s.heap.get? b=some o->H b=none->h'.get? b=some o)
  (slot:∀b o,b≠X.env.locals->b∈X.fs->b ∉ ch->s.heap.get? b=some o->H b=none->∃sl,h'.get? b=some { o with slots:=sl }) (free:∀b o,b ∉ ch->s.heap.get? b=some o->H b=none->H' b=none)
  (there:∀b o,b ∉ ch->s.heap.get? b=some o->∃o',h'.get? b=some o')
  (tups:∀b xs,H b=some (.tup xs)->H' b=some (.tup xs)) (frzs:∀b o u,H b=some (.frz o u)->H' b=some (.frz o u)) (tbls:∀b ps,H b=some (.tbl ps)->∃more,H' b=some (.tbl (ps++more)))
  (ns:∀m,s.heap.Ns X.env.locals m->h'.Ns X.env.locals m) (hok:HOk X.prog X.w H' h') (hg:AllBare g') :
  Inv X pins σ H' { s with heap:=h',gens:=g',drawn:=d',toks:=t' }:=by
 have neL:∀b o,X.s₀.heap.get? b=some o->b≠X.env.locals:=fun b o e=>ZtP (ZtC (Heap.lt_size e) I.ok.above)
 have neC:∀b o,X.s₀.heap.get? b=some o->b ∉ X.ex->b ∉ ch:=fun b o e hx hb=>by
  rcases (hch b hb).1 with z|z
  ·exact hx z
  ·exact absurd (ZtC (Heap.lt_size e) z) (Zuh _)
 have cellK:∀x c,X.env.cells.lookup x=some c->∀v,s.heap.IsCell c v->h'.IsCell c v:=fun x c e v ⟨o,ho,hd⟩=>by
  have nch:c ∉ ch:=fun z=>(hch c z).2.2.1 x c e rfl
  by_cases hc:c∈X.fs
  ·obtain⟨sl,q⟩:=slot c o (I.cne x c e) hc nch ho (I.freeC x c e)
   exact⟨_,q,hd⟩
  ·exact⟨o,keep c o (I.cne x c e) hc nch ho (I.freeC x c e),hd⟩
 refine⟨I.ok,I.os,hg,⟨fun b o e n hb hx=>?_,fun b o e n hb hx=>?_,fun b o e n hx=>?_,fun b o e hx=>?_,fun b xs e=>tups b xs (I.base.tups b xs e),fun b o xs e=>frzs b o xs (I.base.frzs b o xs e),fun b ps e=>?_⟩, ?_,fun x c e=>?_, ?_,fun x c e=>?_,fun p hp=>?_,hok,I.len⟩
 ·exact keep b o (neL b o e) hb (neC b o e hx) (I.base.keep b o e n hb hx) (I.base.free b o e n hx)
 ·obtain⟨sl,e1⟩:=I.base.slot b o e n hb hx
  obtain⟨sl',e2⟩:=slot b _ (neL b o e) hb (neC b o e hx) e1 (I.base.free b o e n hx)
  exact⟨sl',e2⟩
 ·obtain⟨o',e1⟩:=I.base.there b o e hx
  exact free b o' (neC b o e hx) e1 (I.base.free b o e n hx)
 ·obtain⟨o',e1⟩:=I.base.there b o e hx
  exact there b o' (neC b o e hx) e1
 ·obtain⟨m1,e1⟩:=I.base.tbls b ps e
  obtain⟨m2,e2⟩:=tbls b _ e1
  exact⟨m1++m2,by rw[e2,Array.append_assoc]⟩
 ·obtain⟨m,hn,hl⟩:=I.loc
  refine⟨m,ns m hn,fun i x v e1 e2 e3=>?_⟩
  obtain⟨u,r,l⟩:=hl i x v e1 e2 e3
  refine⟨u,r, ?_⟩
  rcases l with l|⟨k,c,e,z⟩
  ·exact .inl l
  ·exact .inr ⟨k,c,e,cellK x c e _ z⟩
 ·obtain⟨v,z⟩:=I.cell x c e
  exact⟨v,cellK x c e v z⟩
 ·obtain⟨m,⟨o,_,_,ho,_⟩,_⟩:=I.loc
  exact free _ o (fun z=>(hch _ z).2.1 rfl) ho I.free
 ·obtain⟨v,o,ho,hd⟩:=I.cell x c e
  exact free c o (fun z=>(hch c z).2.2.1 x c e rfl) ho (I.freeC x c e)
 ·obtain⟨e,n,ne,nf,d⟩:=I.pin p hp
  have nch:p.1 ∉ ch:=fun z=>(hch p.1 z).2.2.2 p hp rfl
  exact⟨keep p.1 p.2 ne nf nch e n,free p.1 p.2 nch e n,ne,nf,d⟩
theorem Inv.un {t':Nat} (I:Inv X pins σ H s) (u:Un X.fs [] H H' s.heap h') (hok:HOk X.prog X.w H' h'):Inv X pins σ H' { s with heap:=h',toks:=t' }:=by
 obtain⟨m,⟨o,es,ep,ho,r⟩,_⟩:=id I.loc
 obtain⟨sl,hL⟩:=u.any ho I.free (by simp)
 exact I.step (g':=s.gens) (d':=s.drawn) (ch:=[]) (fun _ z=>nomatch z) (fun b o _ hb _ e n=>u.keep b o e n hb (by simp)) (fun b o _ hb _ e n=>u.slot b o e n hb (by simp)) (fun b o _ e n=>u.free b o e n (by simp)) (fun b o _ e=>u.there b o e (by simp)) u.tups u.frzs u.tbls (fun m' hm=>by
  obtain⟨o',es',ep',ho',r'⟩:=hm
  rw[ho] at ho';cases ho'
  exact⟨_,es',ep',hL,r'⟩) hok I.bare
theorem Inv.call {g':Array GenState}{t':Nat}{d':Drawn}{ch:List Addr} (I:Inv X pins σ H s) (u:Un (frs X.stack) ch H H' s.heap h') (hok:HOk X.prog X.w H' h') (hg:AllBare g')
  (hch:∀b∈ch,(b∈X.ex\/X.s₀.heap.objs.size<=b)/\b≠X.env.locals/\(∀x c,X.env.cells.lookup x=some c->c≠b)/\∀p∈X.pn++pins,p.1≠b) :
  Inv X pins σ H' { s with heap:=h',gens:=g',drawn:=d',toks:=t' }:=by
 obtain⟨m,⟨o,es,ep,ho,r⟩,_⟩:=id I.loc
 obtain⟨sl,hL⟩:=u.any ho I.free fun z=>(hch _ z).2.1 rfl
 exact I.step (ch:=ch) hch (fun b o hL hb hc e n=>u.keep b o e n (fun z=>(ZtE.mp (I.stkSub b z)).elim hL hb) hc) (fun b o _ _ hc e n=>u.any e n hc) (fun b o hc e n=>u.free b o e n hc) (fun b o hc e=>u.there b o e hc) u.tups u.frzs u.tbls (fun m' hm=>by
  obtain⟨o',es',ep',ho',r'⟩:=hm
  rw[ho] at ho';cases ho'
  exact⟨_,es',ep',hL,r'⟩) hok hg
theorem Inv.turned {t':Nat}{it:Addr} (I:Inv X pins σ H s) (k:∀b o,b≠it->s.heap.get? b=some o->h'.get? b=some o) (hn:H it=none) (hL:it≠X.env.locals)
  (h1:it∈X.ex\/X.s₀.heap.objs.size<=it) (h2:∀x c,X.env.cells.lookup x=some c->c≠it) (h3:∀p∈X.pn++pins,p.1≠it):Inv X pins σ H { s with heap:=h',toks:=t' }:=by
 have nit:∀b u,H b=some u->b≠it:=fun b u e z=>by rw[z,hn] at e;cases e
 refine I.step (g':=s.gens) (d':=s.drawn) (ch:=[it]) (fun b hb=>?_) (fun b o _ _ hc e _=>k b o (fun z=>hc (by simp[z])) e) (fun b o _ _ hc e _=>⟨o.slots,k b o (fun z=>hc (by simp[z])) e⟩) (fun _ _ _ _ n=>n)
  (fun b o hc e=>⟨o,k b o (fun z=>hc (by simp[z])) e⟩) (fun _ _ e=>e) (fun _ _ _ e=>e) (fun b ps e=>⟨#[],by rw[e];simp⟩) (fun m hm=>?_) (fun b u e=>?_) I.bare
 ·have e:b=it:=by simpa using hb
  subst e
  exact⟨h1,hL,h2,h3⟩
 ·obtain⟨o,es,ep,ho,r⟩:=hm
  exact⟨o,es,ep,k _ o (Ne.symm hL) ho,r⟩
 ·refine(I.hok b u e).stay (fun c v hc q=>k c v ?_ q) (fun _ q=>q) fun _ _ q=>q
  rcases hc with z|z
  ·rw[z];exact nit b u e
  ·exact nit c _ z
theorem Inv.tok (I:Inv X pins σ H s) (t:Nat):Inv X pins σ H { s with toks:=t }:=I.un (h':=s.heap) (t':=t) Un.refl I.hok
theorem Inv.kept {t':Nat} (I:Inv X pins σ H s) (k:∀b u,s.heap.get? b=some u->h'.get? b=some u):Inv X pins σ H { s with heap:=h',toks:=t' }:=I.un (Un.kept k) (I.hok.kept k)
theorem Inv.laid {a:Addr}{o:HO}{t':Nat} (I:Inv X pins σ H s) (k:∀b u,s.heap.get? b=some u->h'.get? b=some u) (hp:s.heap.objs.size<=a) (new:Jz X.prog X.w (upd H a o) h' a o) :
  Inv X pins σ (upd H a o) { s with heap:=h',toks:=t' }:=I.un (Un.laid k hp (I.hok.fresh hp)) (I.hok.laid k hp new)
theorem Inv.write {x e:Addr}{o:HO}{t':Nat} (I:Inv X pins σ H s) (mu:Mut (H x)) (he:e=x\/H e=some (.own x)) (k:∀b u,b≠e->s.heap.get? b=some u->h'.get? b=some u) (heo:∃u,h'.get? e=some u)
  (new:Jz X.prog X.w (upd H x o) h' x o):Inv X pins σ (upd H x o) { s with heap:=h',toks:=t' }:=I.un (Un.write mu he k heo) (I.hok.write mu he k heo new)
theorem Inv.pins_of {pins':List (Addr×Obj)} (I:Inv X pins σ H s) (h:∀p∈pins',s.heap.get? p.1=some p.2/\H p.1=none/\p.1≠X.env.locals/\p.1 ∉ X.fs/\∀v,p.2.data≠.cell v):Inv X pins' σ H s:=
 ⟨I.ok,I.os,I.bare,I.base,I.loc,I.cell,I.free,I.freeC,fun p hp=>(ZtA.mp hp).elim (fun z=>I.pin p (Zt8 _ z)) (h p),I.hok,I.len⟩
theorem ZaY {N:List Str} (hN:N.Nodup) {i j:Nat}{x:Str} (a:N[i]?=some x) (b:N[j]?=some x):i=j:=by
 obtain⟨h1,e1⟩:=ZtN.mp a
 obtain⟨h2,e2⟩:=ZtN.mp b
 exact(List.getElem_inj hN).mp (e1.trans e2.symm)
theorem Zb5 {M:Model}{A:Around}{E:Value->Shared->Prop}{i:Nat}{x:Str}{v:V}{u:Value}{Q:Unit->Shared->Prop} (I:Inv X pins σ H s) (hN:X.N.Nodup) (hi:X.N[i]?=some x) (hx:Loc X.env.scope x) (r:Jp v u)
  (h:∀s',Inv X pins (σ.set i (some v)) H s'->(∃a,Heap.SameBut a s.heap s'.heap/\(a=X.env.locals\/X.env.cells.lookup x=some a))->Q () s') (hf:X.fn x=true\/X.env.scope.names.lookup x=some .local):wpAny M A (storeName X.env x u) Q E s:=by
 obtain⟨m,hn,hl⟩:=id I.loc
 have hcls:(X.env.scope.kind==.class || (X.env.scope.kind==.module&&X.env.locals != X.env.globals))=false:=by rw[I.ok.kind];rfl
 have hiσ:i<σ.length:=by rw[I.len];exact(ZtN.mp hi).1
 have cne:=I.cne
 have tracked:∀{a:Addr}{h':Heap},(∃o,s.heap.get? a=some o/\H a=none)->Heap.SameBut a s.heap h'->HOk X.prog X.w H h':=fun {a h'} ha hs b ob e=>by
  obtain⟨_,_,hfree⟩:=ha
  refine(I.hok b ob e).stay (fun c w' hc q=>(hs.2 c ?_).trans q) (fun _ q=>q) fun _ _ q=>q
  rintro rfl
  rcases hc with rfl|hc
  ·rw[hfree] at e;cases e
  ·rw[hfree] at hc;cases hc
 rcases hx with hk|hk
 ·refine wpAny_storeName_local hk hn (fun h' hn' hs=>?_) hcls
  obtain⟨oL,_,_,hoL,_⟩:=id hn
  refine h _ ⟨I.ok,I.os,I.bare,⟨fun b o e n hb hx=>?_,fun b o e n hb hx=>?_,I.base.free,fun b o e hx=>?_,I.base.tups,I.base.frzs,I.base.tbls⟩,⟨_,hn',fun j y v' e1 e2 e3=>?_⟩,fun y c e=>?_,I.free,I.freeC,fun p hp=>?_,tracked ⟨oL,hoL,I.free⟩ hs,by simpa using I.len⟩ ⟨_,hs,.inl rfl⟩
  ·exact(hs.2 b (ZtP (ZtC (Heap.lt_size e) I.ok.above))).trans (I.base.keep b o e n hb hx)
  ·obtain⟨sl,e1⟩:=I.base.slot b o e n hb hx
   exact⟨sl,(hs.2 b (ZtP (ZtC (Heap.lt_size e) I.ok.above))).trans e1⟩
  ·obtain⟨o',e1⟩:=I.base.there b o e hx
   exact⟨o',(hs.2 b (ZtP (ZtC (Heap.lt_size e) I.ok.above))).trans e1⟩
  ·by_cases hj:j=i
   ·subst hj
    rw[hi] at e1;cases e1
    rw[ZtH hiσ] at e2
    cases e2
    exact⟨u,r,.inl ⟨hk,by simp⟩⟩
   ·rw[ZtJ (Ne.symm hj)] at e2
    obtain⟨u',r',q⟩:=hl j y v' e1 e2 e3
    refine⟨u',r', ?_⟩
    rcases q with ⟨k,e⟩|⟨k,c,e,z⟩
    ·refine .inl ⟨k, ?_⟩
     have:y≠x:=fun e=>hj (ZaY hN e1 (e▸hi))
     simp[this,e]
    ·exact .inr ⟨k,c,e,z.sameBut hs (cne y c e)⟩
  ·obtain⟨w',z⟩:=I.cell y c e
   exact⟨w',z.sameBut hs (cne y c e)⟩
  ·obtain⟨e,n,ne,nf,d⟩:=I.pin p hp
   exact⟨(hs.2 p.1 ne).trans e,n,ne,nf,d⟩
 ·have hfn:X.fn x=true:=by
   rcases hf with z|z
   ·exact z
   ·rw[z] at hk;cases hk
  obtain⟨c,hc⟩:=I.ok.has x (.inl hk)
  obtain⟨w',z⟩:=I.cell x c hc
  refine wpAny_storeName_cell I.ok.kind hk hc z (fun h' hc' hs=>?_)
  obtain⟨oc,hoc,hocd⟩:=id z
  refine h { s with heap:=h' } ⟨I.ok,I.os,I.bare,⟨fun b o e n hb hx=>?_,fun b o e n hb hx=>?_,I.base.free,fun b o e hx=>?_,I.base.tups,I.base.frzs,I.base.tbls⟩,⟨m,hn.sameBut hs (Ne.symm (cne x c hc)),fun j y v' e1 e2 e3=>?_⟩,fun y c' e=>?_,I.free,I.freeC,fun p hp=>?_,tracked ⟨oc,hoc,I.freeC x c hc⟩ hs,by simpa using I.len⟩ ⟨c,hs,.inr hc⟩
  ·exact(hs.2 b (ZtP (ZtC (Heap.lt_size e) (I.ok.cab x c hfn hc)))).trans (I.base.keep b o e n hb hx)
  ·obtain⟨sl,e1⟩:=I.base.slot b o e n hb hx
   exact⟨sl,(hs.2 b (ZtP (ZtC (Heap.lt_size e) (I.ok.cab x c hfn hc)))).trans e1⟩
  ·obtain⟨o',e1⟩:=I.base.there b o e hx
   exact⟨o',(hs.2 b (ZtP (ZtC (Heap.lt_size e) (I.ok.cab x c hfn hc)))).trans e1⟩
  ·by_cases hj:j=i
   ·subst hj
    rw[hi] at e1;cases e1
    rw[ZtH hiσ] at e2
    cases e2
    exact⟨u,r,.inr ⟨.inl hk,c,hc,hc'⟩⟩
   ·rw[ZtJ (Ne.symm hj)] at e2
    obtain⟨u',r',q⟩:=hl j y v' e1 e2 e3
    refine⟨u',r', ?_⟩
    rcases q with q|⟨k,c',e,z'⟩
    ·exact .inl q
    ·refine .inr ⟨k,c',e,z'.sameBut hs ?_⟩
     rintro rfl
     exact hj (ZaY hN e1 (I.ok.inj _ _ _ e hc▸hi))
  ·by_cases hcc:c'=c
   ·subst hcc;exact⟨_,hc'⟩
   ·obtain⟨w2,z2⟩:=I.cell y c' e
    exact⟨w2,z2.sameBut hs hcc⟩
  ·obtain⟨e,n,ne,nf,d⟩:=I.pin p hp
   refine⟨(hs.2 p.1 ?_).trans e,n,ne,nf,d⟩
   intro q
   rw[q,hoc] at e
   have q':oc=p.2:=Option.some.inj e
   exact d w' (by rw[<- q'];exact hocd)
theorem Ug {M:Model}{A:Around}{E:Value->Shared->Prop}{i:Nat}{x:Str}{v:V}{u:Value}{Q:Unit->Shared->Prop} (I:Inv X pins σ H s) (hN:X.N.Nodup) (hi:X.N[i]?=some x) (hx:Loc X.env.scope x) (r:Jp v u)
  (h:∀s',Inv X pins (σ.set i (some v)) H s'->Q () s') (hf:X.fn x=true\/X.env.scope.names.lookup x=some .local):wpAny M A (storeName X.env x u) Q E s:=
 Zb5 I hN hi hx r (fun s' I' _=>h s' I') hf
theorem Inv.call' {s':Shared}{ch:List Addr} (I:Inv X pins σ H s) (ho:s'.os=s.os) (u:Un (frs X.stack) ch H H' s.heap s'.heap) (hok:HOk X.prog X.w H' s'.heap) (hg:AllBare s'.gens)
  (hch:∀b∈ch,(b∈X.ex\/X.s₀.heap.objs.size<=b)/\b≠X.env.locals/\(∀x c,X.env.cells.lookup x=some c->c≠b)/\∀p∈X.pn++pins,p.1≠b):Inv X pins σ H' s':=by
 obtain⟨h',g',d',t',o'⟩:=s'
 have e:o'=s.os:=ho
 subst e
 exact I.call (g':=g') (t':=t') (d':=d') u hok hg hch
end
noncomputable abbrev XK:=Value->Option Addr->Hp->Prop
noncomputable abbrev St:=List (Option V)
noncomputable abbrev VK:=V->Hp->Prop
noncomputable abbrev TE:=St->Hp->VK->Prop
noncomputable abbrev TT:=St->Hp->(Bool->Hp->Prop)->Prop
noncomputable abbrev TA:=St->Hp->(List V->Hp->Prop)->Prop
structure Ze9 where
 nx:St->Hp->Prop
 rt:VK
 bk:St->Hp->Prop:=fun _ _=>False
 ct:St->Hp->Prop:=fun _ _=>False
noncomputable abbrev TS:=Ze9->St->Hp->Prop
def EP (X:Cx) (pins:List (Addr×Obj)) (σ:St) (Q:VK) (u:Value) (s':Shared):Prop:=∃v H',Inv X pins σ H' s'/\Jp v u/\Q v H'
def TP (X:Cx) (pins:List (Addr×Obj)) (σ:St) (Q:Bool->Hp->Prop) (b:Bool) (s':Shared):Prop:=∃H',Inv X pins σ H' s'/\Q b H'
def AP (X:Cx) (pins:List (Addr×Obj)) (σ:St) (Q:List V->Hp->Prop) (us:List Value) (s':Shared):Prop:=∃vs H',Inv X pins σ H' s'/\ZT vs us/\Q vs H'
def SP (X:Cx) (pins:List (Addr×Obj)) (D:Ze9) (f:Flow) (s':Shared):Prop:=
 match f with
 |.next=>∃σ' H',Inv X pins σ' H' s'/\D.nx σ' H'
 |.brk=>∃σ' H',Inv X pins σ' H' s'/\D.bk σ' H'
 |.cont=>∃σ' H',Inv X pins σ' H' s'/\D.ct σ' H'
 |.ret u=>∃v σ' H',Inv X pins σ' H' s'/\Jp v u/\D.rt v H'
def PE (X:Cx) (e:Expr) (t:TE):Prop:=
 ∀(pins:List (Addr×Obj)) (s:Shared) (σ:St) (H:Hp) (Q:VK),Inv X pins σ H s->t σ H Q->wpAny (model X.prog X.w) X.A (eval e X.env) (EP X pins σ Q) X.xe s
def PT (X:Cx) (e:Expr) (t:TT):Prop:=
 ∀(pins:List (Addr×Obj)) (s:Shared) (σ:St) (H:Hp) (Q:Bool->Hp->Prop),Inv X pins σ H s->t σ H Q->wpAny (model X.prog X.w) X.A (isTrue e X.env (eval e X.env)) (TP X pins σ Q) X.xe s
def PW (X:Cx) (e:Expr) (t:TT):Prop:=
 ∀(whole:Sem Value) (pins:List (Addr×Obj)) (s:Shared) (σ:St) (H:Hp) (Q:Bool->Hp->Prop),Inv X pins σ H s->t σ H Q->wpAny (model X.prog X.w) X.A (isTrue e X.env whole) (TP X pins σ Q) X.xe s
theorem PW.pt {X:Cx}{e:Expr}{t:TT} (h:PW X e t):PT X e t:=h _
def PA (X:Cx) (es:List Expr) (t:TA):Prop:=
 ∀(pos:Pos) (pins:List (Addr×Obj)) (s:Shared) (σ:St) (H:Hp) (Q:List V->Hp->Prop),Inv X pins σ H s->t σ H Q->wpAny (model X.prog X.w) X.A (spliced (backTo pos (starEach es X.env))) (AP X pins σ Q) X.xe s
def PS (X:Cx) (st:Stmt) (t:TS):Prop:=
 ∀(pins:List (Addr×Obj)) (s:Shared) (σ:St) (H:Hp) (D:Ze9),Inv X pins σ H s->t D σ H->wpAny (model X.prog X.w) X.A (exec st X.env) (SP X pins D) X.xe s
def PSs (X:Cx) (st:List Stmt) (t:TS):Prop:=
 ∀(pins:List (Addr×Obj)) (s:Shared) (σ:St) (H:Hp) (D:Ze9),Inv X pins σ H s->t D σ H->wpAny (model X.prog X.w) X.A (execs st X.env) (SP X pins D) X.xe s
theorem thn {α:Type}{t:Sem α}{Q Q':α->Shared->Prop}{M:Model}{A:Around}{E:Value->Shared->Prop}{s:Shared} (h:wpAny M A t Q E s) (hQ:∀a s,Q a s->Q' a s):wpAny M A t Q' E s:=wpAny_mono h hQ fun _ _ x=>x
section
variable {X:Cx}
noncomputable def UA (i:Nat):TE:=fun σ H Q=>∃v,σ[i]?=some (some v)/\Q v H
noncomputable def tC (v:V):TE:=fun _ H Q=>Q v H
theorem Zkt {i:Nat}{x:Str}{pos:Pos} (hN:X.N[i]?=some x) (hv:Vis X.env.scope x) (hd:(x==("__debug__":Str))=false:=by decide) (hcd:(x==("__classdict__":Str))=false:=by decide):PE X (.Name x pos) (UA i):=by
 intro pins s σ H Q I h
 obtain⟨v,e,h⟩:=h
 obtain⟨m,hn,hl⟩:=I.loc
 obtain⟨u,r,l⟩:=hl i x v hN e hv
 have fin:EP X pins σ Q u s:=⟨v,H,I,r,h⟩
 rcases l with ⟨hk,hm⟩|⟨hk,c,hc,hcell⟩
 ·exact wpAny_Name (wpAny_loadName_local I.ok.kind hk hn hm fin) hd
 ·rcases hk with hk|hk
  ·exact wpAny_Name (wpAny_loadName_cell I.ok.kind hk hc hcell fin) hd
  ·exact wpAny_Name (wpAny_loadName_free I.ok.kind hk hc hcell fin hcd) hd
theorem Zl {i j pos}:PE X (.Constant (.int i) j pos) (tC (.int i)):=fun _ _ _ H _ I h=>wpAny_Constant_int ⟨.int i,H,I.tok _,⟨_,rfl⟩,h⟩
theorem Zap {b j pos}:PE X (.Constant (.bool b) j pos) (tC (.bl b)):=fun _ _ _ H _ I h=>Constant_bool ⟨.bl b,H,I,rfl,h⟩
theorem Zdx {j pos}:PE X (.Constant .none j pos) (tC .non):=fun _ _ _ H _ I h=>Constant_none ⟨.non,H,I,rfl,h⟩
theorem Jg {x j pos}:PE X (.Constant (.str x) j pos) (tC (.str x)):=fun _ _ _ H _ I h=>Calls.Constant_str ⟨.str x,H,I.tok _,⟨_,rfl⟩,h⟩
def Gl (X:Cx) (x:Str):Prop:=X.env.kindOf x=some .globalImplicit
theorem Ua {E:Value->Shared->Prop}{pins:List (Addr×Obj)}{s:Shared}{σ:St}{H:Hp}{x:Str}{u:Value}{pos:Pos}{Q:Value->Shared->Prop} (I:Inv X pins σ H s) (hg:Gl X x) (hm:X.mg x=some u) (h:Q u s)
  (hd:(x==("__debug__":Str))=false:=by decide):wpAny (model X.prog X.w) X.A (eval (.Name x pos) X.env) Q E s:=
 Calls.Name_function_global I.ok.kind hg (Calls.loadGlobal_global (by rw[I.ok.glob];exact I.mod.glob.keeps I.bk) hm h) hd
theorem Za6 {E:Value->Shared->Prop}{pins:List (Addr×Obj)}{s:Shared}{σ:St}{H:Hp}{x:Str}{u:Value}{pos:Pos}{Q:Value->Shared->Prop} (I:Inv X pins σ H s) (hg:Gl X x) (hm:X.mg x=none) (hv:bootBuiltins x=some u) (h:Q u s)
  (hn:x ≠ "__name__":=by decide) (hd:(x==("__debug__":Str))=false:=by decide):wpAny (model X.prog X.w) X.A (eval (.Name x pos) X.env) Q E s:=by
 obtain⟨mb,h1,h2⟩:=I.mod.blt
 exact Calls.Name_function_global I.ok.kind hg (Calls.loadGlobal_builtin (by rw[I.ok.glob];exact I.mod.glob.keeps I.bk) hm (by rw[I.ok.blt];exact h1.keeps I.bk) ((h2 x hn).trans hv) h) hd
theorem ZaT {x:Str}{v:V}{u:Value}{pos:Pos} (hg:Gl X x) (hm:X.mg x=some u) (r:Jp v u) (hd:(x==("__debug__":Str))=false:=by decide):PE X (.Name x pos) (tC v):=
 fun _ _ _ H _ I h=>Ua I hg hm ⟨v,H,I,r,h⟩ hd
theorem JS {x:Str}{v:V}{u:Value}{pos:Pos} (hg:Gl X x) (hm:X.mg x=none) (hv:bootBuiltins x=some u) (r:Jp v u) (hn:x ≠ "__name__":=by decide) (hd:(x==("__debug__":Str))=false:=by decide):PE X (.Name x pos) (tC v):=
 fun _ _ _ H _ I h=>Za6 I hg hm hv ⟨v,H,I,r,h⟩ hn hd
variable {a b:Expr}{ta tb:TE}{pos:Pos}
def PC (X:Cx) (op:CmpOp) (a b:Expr) (t:TE):Prop:=
 ∀(pins:List (Addr×Obj)) (s:Shared) (σ:St) (H:Hp) (Q:VK),Inv X pins σ H s->t σ H Q ->
  wpAny (model X.prog X.w) X.A (eval a X.env) (fun v s₁=>wpAny (model X.prog X.w) X.A (eval b X.env) (fun u s₂=>wpAny (model X.prog X.w) X.A (compareOp op v u) (EP X pins σ Q) X.xe s₂) X.xe s₁) X.xe s
theorem Zho (b:Expr) {op:CmpOp} (h:op≠.In) (h2:op≠.NotIn):behindInMarks op b=false:=by
 have e1:(op==CmpOp.In)=false:=by cases op<;>first|rfl|exact absurd rfl h
 have e2:(op==CmpOp.NotIn)=false:=by cases op<;>first|rfl|exact absurd rfl h2
 cases b<;>simp[behindInMarks,e1,e2]
noncomputable def tB (t:TE):TT:=fun σ H Q=>t σ H fun x H1=>∃c,x=.bl c/\Q c H1
theorem Zko {op:CmpOp}{t:TE} (h:PC X op a b t) (h1:behindInMarks op b=false:=by first|exact Zho _ (by decide) (by decide)|rfl):PT X (.Compare a [op] [b] pos) (tB t):=by
 intro pins s σ H Q I hw
 refine wpAny_isTrue_Compare1 (thn (h pins s σ H _ I hw) fun v s1 h1=>thn h1 fun u s2 h2=>thn h2 fun c s3 ⟨x,H1,I1,r1,q1⟩=>?_) h1
 obtain⟨d,rfl,q⟩:=q1
 cases r1
 exact wpAny_truthy_bool ⟨H1,I1,q⟩
theorem Vy {e:Expr}{t:TE} (h:PE X e t) (he:∀whole,isTrue e X.env whole=(do let v <- whole;standAt e.pos;holding [v] (truthy v)):=by exact fun _=>rfl):PT X e (tB t):=by
 intro pins s σ H Q I hw
 refine isTrue_plain (thn (h pins s σ H _ I hw) fun v s1 ⟨x,H1,I1,r1,q1⟩=>?_) (he _)
 obtain⟨d,rfl,q⟩:=q1
 cases r1
 exact wpAny_truthy_bool ⟨H1,I1,q⟩
variable {tA tB':TT}{ZgD:List Expr}
noncomputable def ZmQ (t u:TT):TT:=fun σ H Q=>t σ H fun c H1=>if c=true then u σ H1 Q else Q false H1
noncomputable def tOr (t u:TT):TT:=fun σ H Q=>t σ H fun c H1=>if c=true then Q true H1 else u σ H1 Q
noncomputable def ZmL (t:TT):TT:=fun σ H Q=>t σ H fun c H1=>Q (!c) H1
theorem ZiE (ha:PT X a tA):PW X (.BoolOp .And [a] pos) tA:=by
 intro wh pins s σ H Q I h
 refine isTrue_and (thn (ha pins s σ H Q I h) fun c s1 e=>?_)
 cases c with
 |true=>exact isTrue_and_nil e
 |false=>exact e
theorem Uk (ha:PT X a tA):PW X (.BoolOp .Or [a] pos) tA:=by
 intro wh pins s σ H Q I h
 refine isTrue_or (thn (ha pins s σ H Q I h) fun c s1 e=>?_)
 cases c with
 |false=>exact isTrue_or_nil e
 |true=>exact e
theorem Zkm (ha:PT X a tA) (hb:PW X (.BoolOp .And (b::ZgD) pos) tB'):PW X (.BoolOp .And (a::b::ZgD) pos) (ZmQ tA tB'):=by
 intro wh pins s σ H Q I h
 refine isTrue_and (thn (ha pins s σ H _ I h) fun c s1 ⟨H1,I1,q1⟩=>?_)
 cases c with
 |true=>exact hb wh pins s1 σ H1 Q I1 q1
 |false=>exact⟨H1,I1,q1⟩
theorem QA (ha:PT X a tA) (hb:PW X (.BoolOp .Or (b::ZgD) pos) tB'):PW X (.BoolOp .Or (a::b::ZgD) pos) (tOr tA tB'):=by
 intro wh pins s σ H Q I h
 refine isTrue_or (thn (ha pins s σ H _ I h) fun c s1 ⟨H1,I1,q1⟩=>?_)
 cases c with
 |true=>exact⟨H1,I1,q1⟩
 |false=>exact hb wh pins s1 σ H1 Q I1 q1
theorem Ul (ha:PT X a tA):PT X (.UnaryOp .Not a pos) (ZmL tA):=by
 intro pins s σ H Q I h
 exact isTrue_not (ha pins s σ H (fun c H1=>Q (!c) H1) I h)
noncomputable def Zke (ta tb:TE):TE:=fun σ H Q=>ta σ H fun x H1=>∃c,x=.bl c/\if c=true then tb σ H1 Q else Q (.bl false) H1
noncomputable def ZjX (ta:TE):TE:=fun σ H Q=>ta σ H fun x H1=>∃c,x=.bl c/\Q (.bl (!c)) H1
theorem Zdw {op}{t:TE} (h:PE X a t):PE X (.BoolOp op [a] pos) t:=fun pins s σ H Q I hw=>BoolOp_one (h pins s σ H Q I hw)
theorem Zdz (ha:PE X a ta) (hb:PE X (.BoolOp .And (b::ZgD) pos) tb):PE X (.BoolOp .And (a::b::ZgD) pos) (Zke ta tb):=by
 intro pins s σ H Q I h
 refine BoolOp_and (thn (ha pins s σ H _ I h) fun v s1 ⟨x,H1,I1,r1,q1⟩=>?_)
 obtain⟨c,rfl,q1⟩:=q1
 cases r1
 refine wpAny_truthy_bool ?_
 cases c with
 |true=>exact hb pins s1 σ H1 Q I1 q1
 |false=>exact⟨.bl false,H1,I1,rfl,q1⟩
theorem Zku (ha:PE X a ta):PE X (.UnaryOp .Not a pos) (ZjX ta):=by
 intro pins s σ H Q I h
 refine UnaryOp_ (thn (ha pins s σ H _ I h) fun v s1 ⟨x,H1,I1,r1,q1⟩=>?_)
 obtain⟨c,rfl,q1⟩:=q1
 cases r1
 exact not_of (wpAny_truthy_bool ⟨.bl (!c),H1,I1,rfl,q1⟩)
end
def SqL (K:W.Frag) (H:Hp) (a:Addr) (xs:List V):Prop:=
 Rd H a (.lst xs) \/
  ∃(o:Obj) (its:Array Value) (n:Nat),K.lookup a=some o/\o.cls=.type "list"/\o.dict=none/\o.data=.seq its n/\its.size<=sizeLine/\ZT xs its.toList
def SqT (K:W.Frag) (H:Hp) (a:Addr) (xs:List V):Prop:=
 Rd H a (.tup xs) \/
  ∃(o:Obj) (its:Array Value) (n:Nat),K.lookup a=some o/\o.cls=.type "tuple"/\o.data=.seq its n/\its.size<=sizeLine/\ZT xs its.toList
noncomputable def Znu:Value->Option V
 |.none=>some .non
 |.bool b=>some (.bl b)
 |.int i _=>some (.int i)
 |.str x _=>some (.str x)
 |.bytes b _=>some (.byt b)
 |.float b _=>some (.flt b)
 |.ref a=>some (.ref a)
 |.type n=>some (.ty n)
 |_=>none
theorem Jp.abs {x:V}{u:Value} (r:Jp x u):Znu u=some x:=by
 cases x with
 |non=>cases r;rfl
 |bl _=>cases r;rfl
 |int _=>obtain⟨t,rfl⟩:=r;rfl
 |str _=>obtain⟨t,rfl⟩:=r;rfl
 |byt _=>obtain⟨t,rfl⟩:=r;rfl
 |flt _=>obtain⟨t,rfl⟩:=r;rfl
 |ref _=>cases r;rfl
 |ty _=>cases r;rfl
theorem Jp.inj {x y:V}{u:Value} (r:Jp x u) (q:Jp y u):x=y:=Option.some.inj (r.abs.symm.trans q.abs)
theorem ZT.inj:∀{xs ys:List V}{us:List Value},ZT xs us->ZT ys us->xs=ys
 |_,_,_,.nil,.nil=>rfl
 |_,_,_,.cons r t,.cons r' t'=>by rw[r.inj r',ZT.inj t t']
section
variable {X:Cx}{pins:List (Addr×Obj)}{σ:St}{H:Hp}{s:Shared}{a:Addr}{xs ys:List V}
theorem SqL.of {K:W.Frag} (h:H a=some (.lst xs)):SqL K H a xs:=.inl (.inl h)
theorem Inv.list (I:Inv X pins σ H s) (h:SqL X.K H a xs):∃its:List Value,ZT xs its/\PlainL s.heap a its.toArray/\xs.length<=sizeLine:=by
 rcases h with h|⟨o,its,n,hk,hc,hd,hs,hz,r⟩
 ·obtain⟨z,its,n,r,e⟩:=h.ok I.hok
  exact⟨its,r,⟨_,n,e,rfl,rfl,rfl⟩,z⟩
 ·refine⟨its.toList,r,⟨o,n,I.kIn a o hk,hc,hd,by simpa using hs⟩, ?_⟩
  have e:=r.length
  simp only[Zuj] at e
  omega
theorem Inv.tuple (I:Inv X pins σ H s) (h:SqT X.K H a xs):∃its:List Value,ZT xs its/\IsTup s.heap a its.toArray/\xs.length<=sizeLine:=by
 rcases h with h|⟨o,its,n,hk,hc,hs,hz,r⟩
 ·obtain⟨z,its,r,p⟩:=h.ok I.hok
  exact⟨its,r,p,z⟩
 ·refine⟨its.toList,r,⟨o,I.kIn a o hk,hc,n,by simpa using hs⟩, ?_⟩
  have e:=r.length
  simp only[Zuj] at e
  omega
theorem Inv.list_inj (I:Inv X pins σ H s) (h:SqL X.K H a xs) (h':SqL X.K H a ys):xs=ys:=by
 obtain⟨its,r,⟨o,n,e,_,_,d⟩,_⟩:=I.list h
 obtain⟨its',r',⟨o',n',e',_,_,d'⟩,_⟩:=I.list h'
 rw[e] at e';cases e'
 rw[d] at d'
 injection d' with d1 _
 have:its=its':=by simpa using congrArg Array.toList d1
 subst this
 exact r.inj r'
end
noncomputable abbrev Cx.wish (X:Cx) (E:Value->Shared->Prop):Cx:={ X with xe:=E }
noncomputable abbrev Cx.nox (X:Cx):Cx:=X.wish fun _ _=>False
theorem Cx.Ok.wish {X:Cx} (ok:X.Ok) (E:Value->Shared->Prop):(X.wish E).Ok:=
 ⟨ok.mod,ok.kind,ok.glob,ok.blt,ok.above,ok.inj,ok.has,ok.cab,ok.hd,ok.frames,ok.stk,ok.exf,ok.bs,ok.bsz,ok.noex,ok.exfs,ok.funs,ok.frf⟩
theorem Cx.Ok.unwish {X:Cx}{E:Value->Shared->Prop} (ok:(X.wish E).Ok):X.Ok:=
 ⟨ok.mod,ok.kind,ok.glob,ok.blt,ok.above,ok.inj,ok.has,ok.cab,ok.hd,ok.frames,ok.stk,ok.exf,ok.bs,ok.bsz,ok.noex,ok.exfs,ok.funs,ok.frf⟩
section
variable {X:Cx}{pins:List (Addr×Obj)}{σ:St}{H:Hp}{s:Shared}{E:Value->Shared->Prop}
theorem Inv.wish (I:Inv X pins σ H s) (E:Value->Shared->Prop):Inv (X.wish E) pins σ H s:=⟨I.ok.wish E,I.os,I.bare,I.base,I.loc,I.cell,I.free,I.freeC,I.pin,I.hok,I.len⟩
theorem Inv.unwish (I:Inv (X.wish E) pins σ H s):Inv X pins σ H s:=⟨I.ok.unwish,I.os,I.bare,I.base,I.loc,I.cell,I.free,I.freeC,I.pin,I.hok,I.len⟩
theorem SP.unwish {D:Ze9}{f:Flow}{s':Shared} (h:SP (X.wish E) pins D f s'):SP X pins D f s':=by
 cases f with
 |next=>obtain⟨σ',H',I,q⟩:=h;exact⟨σ',H',I.unwish,q⟩
 |brk=>obtain⟨σ',H',I,q⟩:=h;exact⟨σ',H',I.unwish,q⟩
 |cont=>obtain⟨σ',H',I,q⟩:=h;exact⟨σ',H',I.unwish,q⟩
 |ret u=>obtain⟨v,σ',H',I,r,q⟩:=h;exact⟨v,σ',H',I.unwish,r,q⟩
theorem PSs.nox {st:List Stmt}{t:TS} (h:PSs X.nox st t):PSs X st t:=fun pins s σ H D I hw =>
 wpAny_mono (h pins s σ H D (I.wish _) hw) (fun _ _ q=>q.unwish) fun _ _ z=>False.elim z
end
section
variable {X:Cx}{st:Stmt}{ZgD:List Stmt}{t u:TS}{e:Expr}{te:TE}{pos:Pos}
noncomputable def ZjY:TS:=fun D σ H=>D.nx σ H
noncomputable def ZmK (t u:TS):TS:=fun D σ H=>t { D with nx:=u D } σ H
theorem Z6:PSs X [] ZjY:=fun _ _ σ H _ I h=>wpAny_execs_nil ⟨σ,H,I,h⟩
theorem Ze (h1:PS X st t) (h2:PSs X ZgD u):PSs X (st::ZgD) (ZmK t u):=by
 intro pins s σ H D I h
 refine wpAny_execs_cons (thn (h1 pins s σ H { D with nx:=u D } I h) fun f s1 q=>?_)
 cases f with
 |next =>
  obtain⟨σ',H',I',q⟩:=q
  exact h2 pins s1 σ' H' D I' q
 |ret v=>exact q
 |brk=>exact q
 |cont=>exact q
theorem Zk (h1:PS X st t):PSs X [st] t:=by
 intro pins s σ H D I h
 refine wpAny_execs_cons (thn (h1 pins s σ H D I h) fun f s1 q=>?_)
 cases f with
 |next=>exact wpAny_execs_nil q
 |ret v=>exact q
 |brk=>exact q
 |cont=>exact q
theorem Inv.quiet {pins:List (Addr×Obj)}{σ:St}{H:Hp}{s:Shared} (I:Inv X pins σ H s):interactive X.env=false:=by simp[interactive,I.ok.kind]
noncomputable def Zcz (te:TE):TS:=fun D σ H=>te σ H fun _ H1=>D.nx σ H1
theorem ZN (he:PE X e te) (hs:swapsWith e none pos.line X.env=pure false:=by rfl):PS X (.Expr e pos) (Zcz te):=by
 intro pins s σ H D I h
 exact wpAny_Expr_any (thn (he pins s σ H _ I h) fun v s1 ⟨x,H1,I1,r1,q1⟩=>⟨σ,H1,I1,q1⟩) I.quiet hs
noncomputable def ZjG (te:TE):TS:=fun D σ H=>te σ H D.rt
theorem Z1 (he:PE X e te):PS X (.Return (some e) pos) (ZjG te):=by
 intro pins s σ H D I h
 exact wpAny_Return_some (thn (he pins s σ H _ I h) fun v s1 ⟨x,H1,I1,r1,q1⟩=>⟨x,σ,H1,I1,r1,q1⟩)
noncomputable def ZmM (c:TT) (t u:TS):TS:=fun D σ H=>c σ H fun b H1=>if b=true then t D σ H1 else u D σ H1
theorem ZV {c:Expr}{a b:List Stmt}{tc:TT} (hc:PT X c tc) (ha:PSs X a t) (hb:PSs X b u):PS X (.If c a b pos) (ZmM tc t u):=by
 intro pins s σ H D I h
 refine wpAny_If (thn (hc pins s σ H _ I h) fun d s1 ⟨H1,I1,q1⟩=>?_)
 cases d with
 |true=>exact ha pins s1 σ H1 D I1 q1
 |false=>exact hb pins s1 σ H1 D I1 q1
noncomputable def ZeL:TS:=fun _ _ _=>False
theorem Zdt:PS X st ZeL:=fun _ _ _ _ _ _ h=>h.elim
theorem Um {sts:List Stmt}:PSs X sts ZeL:=fun _ _ _ _ _ _ h=>h.elim
end
noncomputable abbrev TG:=V->St->Hp->(St->Hp->Prop)->Prop
noncomputable abbrev TGs:=List V->St->Hp->(St->Hp->Prop)->Prop
def PG (X:Cx) (target:Expr) (t:TG):Prop:=
 ∀(pins:List (Addr×Obj)) (s:Shared) (σ:St) (H:Hp) (v:V) (u:Value) (Q:St->Hp->Prop),Inv X pins σ H s->Jp v u->t v σ H Q ->
  wpAny (model X.prog X.w) X.A (assign target X.env u) (fun _ s'=>∃σ' H',Inv X pins σ' H' s'/\Q σ' H') X.xe s
def PGs (X:Cx) (ts:List Expr) (t:TGs):Prop:=
 ∀(pins:List (Addr×Obj)) (s:Shared) (σ:St) (H:Hp) (vs:List V) (us:List Value) (Q:St->Hp->Prop),Inv X pins σ H s->ZT vs us->t vs σ H Q ->
  wpAny (model X.prog X.w) X.A (assignInOrder ((assignEach ts X.env).map (·.2)) us) (fun _ s'=>∃σ' H',Inv X pins σ' H' s'/\Q σ' H') X.xe s
noncomputable abbrev Zl1:=V->V->V->Hp->(Hp->Prop)->Prop
def ZmE (X:Cx) (t:Zl1):Prop:=
 ∀(pins:List (Addr×Obj)) (s:Shared) (σ:St) (H:Hp) (o i v:V) (ov iv u:Value) (Q:Hp->Prop),Inv X pins σ H s->Jp o ov->Jp i iv->Jp v u->t o i v H Q ->
  wpAny (model X.prog X.w) X.A (setItem ov iv u) (fun _ s'=>∃H',Inv X pins σ H' s'/\Q H') X.xe s
noncomputable abbrev TIp:=V->V->Hp->VK->Prop
def PIp (X:Cx) (op:Operator) (t:TIp):Prop:=
 ∀(pins:List (Addr×Obj)) (s:Shared) (σ:St) (H:Hp) (x y:V) (v u:Value) (Q:VK),Inv X pins σ H s->Jp x v->Jp y u->t x y H Q ->
  wpAny (model X.prog X.w) X.A (inplaceOp op v u) (EP X pins σ Q) X.xe s
section
variable {X:Cx}{pos:Pos}
noncomputable def Zat (i:Nat):TG:=fun v σ H Q=>Q (σ.set i (some v)) H
theorem Jq {i:Nat}{x:Str} (hN:X.N.Nodup) (hi:X.N[i]?=some x) (hx:Loc X.env.scope x) (hf:X.fn x=true\/X.env.scope.names.lookup x=some .local:=by first|exact .inl rfl|exact .inr rfl|assumption):PG X (.Name x pos) (Zat i):=by
 intro pins s σ H v u Q I r h
 exact wpAny_assign_Name (Ug I hN hi hx r (fun s' I'=>⟨_,H,I',h⟩) hf)
noncomputable def ZlF:TGs:=fun vs σ H Q=>vs=[]/\Q σ H
noncomputable def ZfW (t:TG) (u:TGs):TGs:=fun vs σ H Q=>∃v r,vs=v::r/\t v σ H fun σ' H'=>u r σ' H' Q
theorem ZaS:PGs X [] ZlF:=by
 intro pins s σ H vs us Q I r h
 obtain⟨e,h⟩:=h
 subst e
 cases r
 exact assignInOrder_nil ⟨σ,H,I,h⟩
theorem JI {e:Expr}{es:List Expr}{t:TG}{u:TGs} (h1:PG X e t) (h2:PGs X es u)
  (hs:(assignEach (e::es) X.env).map (·.2)=assign e X.env::(assignEach es X.env).map (·.2):=by rfl):PGs X (e::es) (ZfW t u):=by
 intro pins s σ H vs us Q I r h
 obtain⟨v,vr,e1,h⟩:=h
 subst e1
 cases r with
 |cons r rr =>
  rw[hs]
  refine assignInOrder_cons (thn (h1 pins s σ H _ _ _ I r h) fun _ s1 ⟨σ1,H1,I1,q1⟩=>?_)
  exact h2 pins s1 σ1 H1 _ _ Q I1 rr q1
noncomputable def ZlE (K:W.Frag) (n:Nat) (t:TGs):TG:=fun v σ H Q=>∃a xs,v=.ref a/\SqT K H a xs/\xs.length=n/\t xs σ H Q
theorem Zdv {es:List Expr}{k:Nat}{t:TGs}{n:Nat} (hc:X.calm=true) (h:PGs X es t)
  (hn:(assignEach es X.env).length=n:=by rfl) (hst:(assignEach es X.env).findIdx? (·.1)=none:=by rfl):PG X (.Tuple es k pos) (ZlE X.K n t):=by
 intro pins s σ H v u Q I r hw
 obtain⟨a,xs,e1,hq,hl,hw⟩:=hw
 subst e1
 cases r
 obtain⟨its,rv,ht,hz⟩:=I.tuple hq
 refine assign_Tuple_tuple (I.ok.hd hc) ht (by simp[hn,<- hl,rv.length]) hst fun h' hx=>?_
 have I1:Inv X pins σ H { s with heap:=h' }:=I.kept (t':=s.toks) fun b o e=>hx b o (ZtP (Heap.lt_size e)) e
 exact h pins _ σ H xs _ Q I1 (by simpa using rv) hw
noncomputable def Znc (to ti:TE) (t:Zl1):TG:=fun v σ H Q=>to σ H fun o H1=>ti σ H1 fun i H2=>t o i v H2 fun H3=>Q σ H3
theorem ZbI {o i:Expr}{to ti:TE}{t:Zl1} (ho:PE X o to) (hi:PE X i ti) (hs:ZmE X t)
  (ha:∀v,assign (.Subscript o i pos) X.env v=(do
   let ov <- holding [v] (eval o X.env)
   let iv <- holding [v,ov] (eval i X.env)
   standAt pos
   holding [v,ov,iv] (setItem ov iv v)
   release [v,ov,iv] []):=by exact fun _=>rfl):PG X (.Subscript o i pos) (Znc to ti t):=by
 intro pins s σ H v u Q I r h
 rw[ha]
 refine wpAny_bind (wpAny_holding (thn (ho pins s σ H _ I h) fun ov s1 ⟨x,H1,I1,r1,q1⟩=>?_))
 refine wpAny_bind (wpAny_holding (thn (hi pins s1 σ H1 _ I1 q1) fun iv s2 ⟨y,H2,I2,r2,q2⟩=>?_))
 refine wpAny_bind (wpAny_standAt (wpAny_bind (wpAny_holding (thn (hs pins s2 σ H2 x y v ov iv u _ I2 r1 r2 r q2) fun _ s3 ⟨H3,I3,q3⟩=>?_))))
 exact wpAny_release ⟨σ,H3,I3,q3⟩
noncomputable def ZgN (te:TE) (g:TG):TS:=fun D σ H=>te σ H fun x H1=>g x σ H1 D.nx
theorem UN {tg e:Expr}{te:TE}{g:TG} (he:PE X e te) (hg:PG X tg g) (hs:swapsWithSole [tg] e pos.line X.env=pure false:=by rfl) (hw:swappedStores [tg] e X.env=pure none:=by rfl)
  (h1:(assignEach [tg] X.env).map (·.2)=[assign tg X.env]:=by rfl):PS X (.Assign [tg] e pos) (ZgN te g):=by
 intro pins s σ H D I h
 refine wpAny_Assign_stores (thn (he pins s σ H _ I h) fun v s1 ⟨x,H1,I1,r1,q1⟩=>?_) hs hw
 rw[h1]
 exact thn (hg pins s1 σ H1 x v _ I1 r1 q1) fun _ s2 q=>q
theorem Zy {i:Nat}{x:Str}{e:Expr}{te:TE}{pos':Pos} (hN:X.N.Nodup) (hi:X.N[i]?=some x) (hx:Loc X.env.scope x) (he:PE X e te) (hs:swapsWith e (some (.Name x pos')) pos.line X.env=pure false:=by rfl) (hf:X.fn x=true\/X.env.scope.names.lookup x=some .local:=by first|exact .inl rfl|exact .inr rfl|assumption) :
  PS X (.Assign [.Name x pos'] e pos) (ZgN te (Zat i)):=by
 intro pins s σ H D I h
 refine wpAny_Assign_Name (thn (he pins s σ H _ I h) fun v s1 ⟨y,H1,I1,r1,q1⟩=>?_) hs
 exact Ug I1 hN hi hx r1 (fun s2 I2=>⟨_,H1,I2,q1⟩) hf
noncomputable def ZmP (i:Nat) (te:TE) (ti:TIp):TS:=fun D σ H=>∃x,σ[i]?=some (some x)/\te σ H fun y H1=>ti x y H1 fun z H2=>D.nx (σ.set i (some z)) H2
theorem Zkr {i:Nat}{x:Str}{e:Expr}{te:TE}{op:Operator}{ti:TIp}{pos':Pos} (hN:X.N.Nodup) (hi:X.N[i]?=some x) (hx:Loc X.env.scope x) (he:PE X e te) (ho:PIp X op ti) (hf:X.fn x=true\/X.env.scope.names.lookup x=some .local:=by first|exact .inl rfl|exact .inr rfl|assumption) :
  PS X (.AugAssign (.Name x pos') op e pos) (ZmP i te ti):=by
 intro pins s σ H D I h
 obtain⟨v,e1,h⟩:=h
 obtain⟨m,hn,hl⟩:=I.loc
 have vis:Vis X.env.scope x:=by rcases hx with k|k;exact .inl k;exact .inr (.inl k)
 obtain⟨u,r,l⟩:=hl i x v hi e1 vis
 refine wpAny_AugAssign_Name ?_
 have go:wpAny (model X.prog X.w) X.A (eval e X.env) (fun w s₂=>wpAny (model X.prog X.w) X.A (inplaceOp op u w) (fun r s₃=>wpAny (model X.prog X.w) X.A (storeName X.env x r) (fun _=>SP X pins D .next) X.xe s₃) X.xe s₂) X.xe s:=by
  refine thn (he pins s σ H _ I h) fun w s1 ⟨y,H1,I1,r1,q1⟩=>?_
  refine thn (ho pins s1 σ H1 v y u w _ I1 r r1 q1) fun z s2 ⟨zv,H2,I2,r2,q2⟩=>?_
  exact Ug I2 hN hi hx r2 (fun s3 I3=>⟨_,H2,I3,q2⟩) hf
 rcases l with ⟨hk,hm⟩|⟨hk,c,hc,hcell⟩
 ·exact wpAny_loadName_local I.ok.kind hk hn hm go
 ·rcases hk with hk|hk
  ·exact wpAny_loadName_cell I.ok.kind hk hc hcell go
  ·rcases hx with k|k
   ·have:X.env.scope.names.lookup x=some .free:=hk
    rw[k] at this;cases this
   ·have:X.env.scope.names.lookup x=some .free:=hk
    rw[k] at this;cases this
noncomputable def Zkd (to ti te:TE) (tget:V->V->Hp->VK->Prop) (tip:TIp) (tset:Zl1):TS:=fun D σ H=>to σ H fun o H1=>ti σ H1 fun i H2=>tget o i H2 fun x H3=>te σ H3 fun y H4=>tip x y H4 fun z H5=>tset o i z H5 fun H6=>D.nx σ H6
def ZmF (X:Cx) (t:V->V->Hp->VK->Prop):Prop:=
 ∀(pins:List (Addr×Obj)) (s:Shared) (σ:St) (H:Hp) (o i:V) (ov iv:Value) (Q:VK),Inv X pins σ H s->Jp o ov->Jp i iv->t o i H Q ->
  wpAny (model X.prog X.w) X.A (getItem ov iv) (EP X pins σ Q) X.xe s
theorem Zff {o i e:Expr}{to ti te:TE}{tget:V->V->Hp->VK->Prop}{tip:TIp}{tset:Zl1}{op:Operator}{tpos:Pos} (ho:PE X o to) (hi:PE X i ti) (hg:ZmF X tget) (he:PE X e te) (hp:PIp X op tip) (hs:ZmE X tset)
  (ha:∀ov iv new,augStore i ov iv new=(do holding [new,ov,iv] (setItem ov iv new);release [new,ov,iv] [];pure .next):=by intros;rfl):PS X (.AugAssign (.Subscript o i tpos) op e pos) (Zkd to ti te tget tip tset):=by
 intro pins s σ H D I h
 refine wpAny_AugAssign_SubscriptAny (thn (ho pins s σ H _ I h) fun ov s1 ⟨x1,H1,I1,r1,q1⟩=>?_) ha
 refine thn (hi pins s1 σ H1 _ I1 q1) fun iv s2 ⟨x2,H2,I2,r2,q2⟩=>?_
 refine thn (hg pins s2 σ H2 x1 x2 ov iv _ I2 r1 r2 q2) fun old s3 ⟨x3,H3,I3,r3,q3⟩=>?_
 refine thn (he pins s3 σ H3 _ I3 q3) fun v s4 ⟨x4,H4,I4,r4,q4⟩=>?_
 refine thn (hp pins s4 σ H4 x3 x4 old v _ I4 r3 r4 q4) fun new s5 ⟨x5,H5,I5,r5,q5⟩=>?_
 exact thn (hs pins s5 σ H5 x1 x2 x5 ov iv new _ I5 r1 r2 r5 q5) fun _ s6 ⟨H6,I6,q6⟩=>⟨σ,H6,I6,q6⟩
noncomputable def ipI (f:Int->Int->Int):TIp:=fun x y H Q=>∃i j,x=.int i/\y=.int j/\Q (.int (f i j)) H
theorem Zit:PIp X .Add (ipI fun i j=>i+j):=by
 intro pins s σ H x y v u Q I r1 r2 h
 obtain⟨i,j,e1,e2,q⟩:=h
 subst e1;subst e2
 obtain⟨t,rfl⟩:=r1
 obtain⟨t',rfl⟩:=r2
 exact iadd_int ⟨.int _,H,I.tok _,⟨_,rfl⟩,q⟩
theorem ZkN:PIp X .Sub (ipI fun i j=>i-j):=by
 intro pins s σ H x y v u Q I r1 r2 h
 obtain⟨i,j,e1,e2,q⟩:=h
 subst e1;subst e2
 obtain⟨t,rfl⟩:=r1
 obtain⟨t',rfl⟩:=r2
 exact isub_int ⟨.int _,H,I.tok _,⟨_,rfl⟩,q⟩
noncomputable def ZhW (c:TT) (tb:TS):TS:=fun D σ H=>∃W:Nat->St->Hp->Prop,(∃m,W m σ H)/\∀m σ H,W m σ H ->
 c σ H fun b H1=>if b=true then ∃N:St->Hp->Prop,(∀σ' H',N σ' H'->∃m',m'<m/\W m' σ' H')/\tb { D with nx:=N,ct:=N,bk:=D.nx } σ H1 else D.nx σ H1
theorem Zds {c:Expr}{body:List Stmt}{tc:TT}{tb:TS} (hp:PassesOwn (model X.prog X.w) X.A X.env X.xe) (hc:PT X c tc) (hb:PSs X body tb):PS X (.While c body [] pos) (ZhW tc tb):=by
 intro pins s σ H D I h
 obtain⟨W,⟨m0,w0⟩,turn⟩:=h
 refine wpAny_While (codeAny_whileLoop (fun n s'=>∃σ' H',Inv X pins σ' H' s'/\W n σ' H') ?_ m0 ⟨σ,H,I,w0⟩)
 rintro n s1 ⟨σ1,H1,I1,w1⟩
 refine wpAny_passesOwn hp (thn (hc pins s1 σ1 H1 _ I1 (turn n σ1 H1 w1)) fun b s2 ⟨H2,I2,q2⟩=>?_)
 cases b with
 |true =>
  obtain⟨N,hN,q2⟩:=q2
  rw[if_pos rfl]
  refine wpAny_passesOwn hp (thn (hb pins s2 σ1 H2 _ I2 q2) fun f s3 q3=>?_)
  cases f with
  |next =>
   obtain⟨σ3,H3,I3,n3⟩:=q3
   obtain⟨m',hm,w3⟩:=hN σ3 H3 n3
   exact⟨m',hm,σ3,H3,I3,w3⟩
  |cont =>
   obtain⟨σ3,H3,I3,n3⟩:=q3
   obtain⟨m',hm,w3⟩:=hN σ3 H3 n3
   exact⟨m',hm,σ3,H3,I3,w3⟩
  |brk=>exact q3
  |ret v=>exact q3
 |false =>
  rw[if_neg Bool.false_ne_true]
  exact wpAny_execs_nil ⟨σ1,H2,I2,q2⟩
end
structure It where
 go:Nat->Hp->Prop
 yld:Nat->Hp->V->Hp->Prop
 stop:Nat->Hp->Prop
def ZhS (X:Cx) (pins:List (Addr×Obj)) (H:Hp) (b:Addr):Prop:=
 H b=none/\b≠X.env.locals/\b ∉ X.fs/\(b∈X.ex\/X.s₀.heap.objs.size<=b)/\(∀x c,X.env.cells.lookup x=some c->c≠b)/\∀p∈X.pn++pins,p.1≠b
theorem Inv.fpOk {X:Cx}{pins:List (Addr×Obj)}{σ:St}{H H':Hp}{s:Shared}{b:Addr} (I:Inv X pins σ H s) (hb:s.heap.objs.size<=b) (hn:H' b=none):ZhS X pins H' b:=by
 refine⟨hn,ZuC (ZtC I.lt hb),I.nofs hb,.inr (ZtS I.sz hb),fun x c e z=>?_,fun p hp z=>?_⟩
 ·obtain⟨v,q⟩:=I.cell x c e
  exact absurd (ZtC q.lt (by rw[z];exact hb)) (Zuh _)
 ·exact absurd (ZtC (Heap.lt_size (I.pin p hp).1) (by rw[z];exact hb)) (Zuh _)
structure Zl0 (P:Program) (w:World) (K:PySem.W.Frag) (tg:Expr) (J:It) (fp:List Addr) (it:Addr) (tn:Nat->Heap->Prop):Prop where
 mem:it∈fp
 obj:∀i h,tn i h->∀b∈fp,∃o,h.get? b=some o/\∀v,o.data≠.cell v
 keep:∀i h h',tn i h->(∀b∈fp,∀o,h.get? b=some o->h'.get? b=some o)->tn i h'
 item:∀(X:Cx),X.prog=P->X.w=w->X.K=K->X.calm=true->∀(i:Nat) (pins:List (Addr×Obj)) (s:Shared) (σ:St) (H:Hp) (E:Value->Shared->Prop),Inv X pins σ H s->(∀b∈fp,ZhS X pins H b)->tn i s.heap->J.go i H ->
  wpAny (model P w) X.A (pyNext (.ref it)) (fun r s1=>∃u,r=some u /\
   wpAny (model P w) X.A (letOwnedTupleGo tg (.ref it) u) (fun _ s2=>∃x H',Inv X pins σ H' s2/\Jp x u/\J.yld i H x H'/\tn (i+1) s2.heap/\∀b∈fp,H' b=none) E s1) E s
 done:∀(X:Cx),X.prog=P->X.w=w->X.K=K->X.calm=true->∀(i:Nat) (pins:List (Addr×Obj)) (s:Shared) (σ:St) (H:Hp) (E:Value->Shared->Prop),Inv X pins σ H s->(∀b∈fp,ZhS X pins H b)->tn i s.heap->J.stop i H ->
  wpAny (model P w) X.A (pyNext (.ref it)) (fun r s1=>r=none/\Inv X pins σ H s1) E s
 self:∀(A:Around) (i:Nat) (s:Shared) (Q:Value->Shared->Prop) (E:Value->Shared->Prop),tn i s.heap->Q (.ref it) s->wpAny (model P w) A (pyIter (.ref it)) Q E s
noncomputable abbrev TI:=St->Hp->(It->Hp->Prop)->Prop
def PIE (X:Cx) (pins:List (Addr×Obj)) (σ:St) (tg:Expr) (R:It->Hp->Prop) (itv:Value) (s2:Shared):Prop:=
 ∃(it:Addr) (fp:List Addr) (tn:Nat->Heap->Prop) (J:It) (H':Hp),itv=.ref it/\Inv X pins σ H' s2/\Zl0 X.prog X.w X.K tg J fp it tn/\tn 0 s2.heap/\(∀b∈fp,ZhS X pins H' b)/\R J H'
def PI (X:Cx) (tg iter:Expr) (wi:TI):Prop:=
 ∀(pins:List (Addr×Obj)) (s:Shared) (σ:St) (H:Hp) (R:It->Hp->Prop),Inv X pins σ H s->wi σ H R ->
  wpAny (model X.prog X.w) X.A (eval iter X.env) (fun v s1=>wpAny (model X.prog X.w) X.A (pyIter v) (PIE X pins σ tg R) X.xe s1) X.xe s
theorem ZkR {M:Model}{A:Around}{E:Value->Shared->Prop}{s:Shared}{tg:Expr}{it:Addr}{u:Value}{o:Obj}{n:String}{vs:Array Value}{Q:Unit->Shared->Prop} (ho:s.heap.get? it=some o) (hc:o.cls=.type n) (hd:o.data=.fields vs)
  (hn:["enumerate", "zip", "dict_itemiterator", "dict_reverseitemiterator", "odict_iterator", "itertools.zip_longest", "itertools.pairwise"].contains n=false) (hQ:Q () s):wpAny M A (letOwnedTupleGo tg (.ref it) u) Q E s:=by
 unfold letOwnedTupleGo
 cases tg<;>first
  |exact wpAny_pure hQ
  |(cases u<;>first
    |exact wpAny_pure hQ
    |(refine wpAny_bind (wpAny_load ho ?_)
      rw[hc,hd]
      show wpAny M A (if (["enumerate", "zip", "dict_itemiterator", "dict_reverseitemiterator", "odict_iterator", "itertools.zip_longest", "itertools.pairwise"].contains n&&vs[0]?==some (rawInt _))=true then _ else _) Q E s
      rw[if_neg (by intro h;rw[hn,Bool.false_and] at h;cases h)]
      exact wpAny_pure hQ))
noncomputable def Itl (K:W.Frag) (a:Addr):It:=
 ⟨fun i H=>∃xs x,SqL K H a xs/\xs[i]?=some x,fun i H x H'=>H'=H/\∀xs,SqL K H a xs->xs[i]?=some x,fun i H=>∃xs,SqL K H a xs/\xs.length<=i⟩
noncomputable def Itr (lo:Int) (n:Nat):It:=⟨fun i _=>i<n,fun i H x H'=>H'=H/\x=.int (lo+i),fun i _=>n<=i⟩
theorem ZeG {P:Program}{w:World}{K:W.Frag}{tg:Expr} (a it:Addr):Zl0 P w K tg (Itl K a) [it] it (fun i h=>h.IsListIter it a i) where
 mem:=by simp
 obj:=fun i h st b hb=>by
  have e:b=it:=by simpa using hb
  subst e
  obtain⟨o,e,c,d⟩:=st
  exact⟨o,e,fun v z=>by rw[d] at z;cases z⟩
 keep:=fun i h h' st k=>st.at fun o e=>k it (by simp) o e
 item:=by
  intro X hP hw hK hc i pins s σ H E I hf st hg
  subst hP hw hK
  obtain⟨xs,x,hq,hx⟩:=hg
  obtain⟨its,rv,p,hz⟩:=I.list hq
  obtain⟨u,hu,ru⟩:=rv.get hx
  obtain⟨f0,f1,f2,f3,f4,f5⟩:=hf it (by simp)
  refine wpAny_pyNext_list_item st p.isList (x:=u) (by simpa using hu) fun h' st' sb=>?_
  have I1:Inv X pins σ H { s with heap:=h' }:=I.turned (t':=s.toks) (fun b o hb e=>(sb.2 b hb).trans e) f0 f1 f3 f4 f5
  obtain⟨o,e,c,d⟩:=id st'
  exact⟨u,rfl,ZkR (s:={ s with heap:=h' }) e c d (by decide) ⟨x,H,I1,ru,⟨rfl,fun ys hy=>by rw[I.list_inj hy hq];exact hx⟩,st',fun b hb=>(hf b hb).1⟩⟩
 done:=by
  intro X hP hw hK hc i pins s σ H E I hf st hg
  subst hP hw hK
  obtain⟨xs,hq,hx⟩:=hg
  obtain⟨its,rv,p,hz⟩:=I.list hq
  obtain⟨f0,f1,f2,f3,f4,f5⟩:=hf it (by simp)
  have hl:=rv.length
  exact wpAny_pyNext_list_end (I.ok.hd hc) st p.isList (by simp;omega) fun h' eb=>⟨rfl,I.turned (t':=s.toks) (fun b o hb e=>eb b o hb e) f0 f1 f3 f4 f5⟩
 self:=fun _ _ _ _ _ st h=>wpAny_pyIter_listiter st h
theorem Zee {P:Program}{w:World}{K:W.Frag}{tg:Expr} (it:Addr) (lo:Int) (n:Nat):Zl0 P w K tg (Itr lo n) [it] it (fun i h=>IsRangeIter h it (lo+(i:Nat)*1) ((n:Int)-(i:Nat)) 1) where
 mem:=by simp
 obj:=fun i h st b hb=>by
  have e:b=it:=by simpa using hb
  subst e
  exact⟨_,st,fun v z=>by
   have z':Data.fields _=Data.cell v:=z
   cases z'⟩
 keep:=fun i h h' st k=>k it (by simp) _ st
 item:=by
  intro X hP hw hK hc i pins s σ H E I hf st hg
  subst hP hw hK
  obtain⟨f0,f1,f2,f3,f4,f5⟩:=hf it (by simp)
  have W:=Walks.range (prog:=X.prog) (w:=X.w) (I.ok.hd hc) it lo 1 n
  refine W.item i s _ _ hg st fun v h' tk hv st' kk=>?_
  obtain⟨t,rfl⟩:=hv
  have I1:Inv X pins σ H { s with heap:=h',toks:=tk }:=I.turned (fun b o hb e=>kk b o (by simpa using hb) e) f0 f1 f3 f4 f5
  refine⟨_,rfl,ZkR (s:={ s with heap:=h',toks:=tk }) (n := "range_iterator") st' rfl rfl (by decide) ⟨.int (lo+i),H,I1,⟨t, ?_⟩,⟨rfl,rfl⟩,st',fun b hb=>(hf b hb).1⟩⟩
  rw[Int.mul_one]
 done:=by
  intro X hP hw hK hc i pins s σ H E I hf st hg
  subst hP hw hK
  obtain⟨f0,f1,f2,f3,f4,f5⟩:=hf it (by simp)
  exact wpAny_pyNext_range_end (I.ok.hd hc) st (by have:n<=i:=hg;omega) fun h' eb=>⟨rfl,I.turned (t':=s.toks) (fun b o hb e=>eb b o hb e) f0 f1 f3 f4 f5⟩
 self:=fun _ _ _ _ _ st h=>wpAny_pyIter_rangeiter st h
section
variable {X:Cx}{tg:Expr}
noncomputable def Zjg (K:W.Frag) (tl:TE):TI:=fun σ H R=>tl σ H fun x H1=>∃a,x=.ref a/\(∃xs,SqL K H1 a xs)/\R (Itl K a) H1
theorem ZiJ {l:Expr}{tl:TE} (hl:PE X l tl):PI X tg l (Zjg X.K tl):=by
 intro pins s σ H R I h
 refine thn (hl pins s σ H _ I h) fun v s1 ⟨x,H1,I1,r1,q1⟩=>?_
 obtain⟨a,e,⟨xs,hq⟩,q⟩:=q1
 subst e
 cases r1
 obtain⟨its,rv,p,hz⟩:=I1.list hq
 refine wpAny_pyIter_list p.isList ?_
 refine⟨s1.heap.objs.size,[s1.heap.objs.size],_,_,H1,rfl,I1.kept (t':=s1.toks) fun b o e=>Heap.get?_push_of_some _ e,ZeG a _,⟨_,Heap.get?_push_size _ rfl,rfl,rfl⟩,fun b hb=>?_,q⟩
 have e:b=s1.heap.objs.size:=by simpa using hb
 subst e
 exact I1.fpOk (ZtD _) (I1.hok.fresh (ZtD _))
theorem Zdp {pins:List (Addr×Obj)}{σ:St}{H:Hp}{s:Shared}{R:It->Hp->Prop}{E:Value->Shared->Prop}{lo hi:Int}{t u v:Tok}{tk:Nat} (I:Inv X pins σ H s) (h1:-(2^62)<=lo) (h2:lo<2^62) (h3:-(2^62)<=hi) (h4:hi<2^62)
  (q:R (Itr lo (hi-lo).toNat) H):wpAny (model X.prog X.w) X.A (pyIter (.ref s.heap.objs.size)) (PIE X pins σ tg R) E { s with heap:=s.heap.push { cls:=.type "range",data:=.fields #[.int lo t,.int hi u,.int 1 v] },toks:=tk }:=by
 refine wpAny_pyIter_range (IsRange.new ..) (small_one h1 h2 h3 h4) ?_
 have I1:Inv X pins σ H { s with heap:=s.heap.push { cls:=.type "range",data:=.fields #[.int lo t,.int hi u,.int 1 v] },toks:=tk }:=I.kept fun b o e=>Heap.get?_push_of_some _ e
 refine⟨(s.heap.push { cls:=.type "range",data:=.fields #[.int lo t,.int hi u,.int 1 v] }).objs.size,[(s.heap.push { cls:=.type "range",data:=.fields #[.int lo t,.int hi u,.int 1 v] }).objs.size],_,_,H,rfl,
  I1.kept (t':=tk) fun b o e=>Heap.get?_push_of_some _ e,Zee _ lo (hi-lo).toNat, ?_,fun b hb=>?_,q⟩
 ·have e1:lo+((0:Nat):Int)*1=lo:=by simp
  have e2:(((hi-lo).toNat:Nat):Int)-((0:Nat):Int)=Builtin.Range.rangeSize lo hi 1:=by rw[rangeSize_one];split<;>omega
  show IsRangeIter _ _ (lo+((0:Nat):Int)*1) ((((hi-lo).toNat:Nat):Int)-((0:Nat):Int)) 1
  rw[e1,e2]
  exact Heap.get?_push_size _ rfl
 ·have e:b=(s.heap.push { cls:=.type "range",data:=.fields #[.int lo t,.int hi u,.int 1 v] }).objs.size:=by simpa using hb
  subst e
  exact I1.fpOk (ZtD _) (I1.hok.fresh (ZtD _))
noncomputable def ZkP (ta:TA):TI:=fun σ H R=>ta σ H fun vs H1=>∃j:Int,vs=[.int j]/\-(2^62)<=j/\j<2^62/\R (Itr 0 j.toNat) H1
noncomputable def ZkO (ta:TA):TI:=fun σ H R=>ta σ H fun vs H1=>∃i j:Int,vs=[.int i,.int j]/\(-(2^62)<=i/\i<2^62/\-(2^62)<=j/\j<2^62)/\R (Itr i (j-i).toNat) H1
theorem QC {a:Expr}{ta:TA}{p pos:Pos} (hg:Gl X "range") (hm:X.mg "range"=none) (ha:PA X [a] ta) (hs:starEach [a] X.env=[(false,eval a X.env)]:=by rfl):PI X tg (.Call (.Name "range" p) [a] [] pos) (ZkP ta):=by
 intro pins s σ H R I h
 refine Call_ (Za6 I hg hm boot_range (PyProof.Rows.callWith_type1 (thn (ha pos pins s σ H _ I h) fun us s1 ⟨vs,H1,I1,r1,q1⟩=>?_) hs rfl))
 obtain⟨j,e,q1,q2,q⟩:=q1
 subst e
 cases r1 with
 |cons r rr =>
  cases rr
  obtain⟨t,rfl⟩:=r
  exact call_range_1 (Zdp I1 (by omega) (by omega) q1 q2 (by simpa using q))
theorem Zfh {a b:Expr}{ta:TA}{p pos:Pos} (hg:Gl X "range") (hm:X.mg "range"=none) (ha:PA X [a,b] ta) (hs:starEach [a,b] X.env=[(false,eval a X.env),(false,eval b X.env)]:=by rfl) (hs2:starEach [b] X.env=[(false,eval b X.env)]:=by rfl) :
  PI X tg (.Call (.Name "range" p) [a,b] [] pos) (ZkO ta):=by
 intro pins s σ H R I h
 refine Call_ (Za6 I hg hm boot_range (PyProof.Rows.callWith_type1 (thn (ha pos pins s σ H _ I h) fun us s1 ⟨vs,H1,I1,r1,q1⟩=>?_) (by rw[hs,hs2]) (by rw[hs2];rfl)))
 obtain⟨i,j,e,⟨q1,q2,q3,q4⟩,q⟩:=q1
 subst e
 cases r1 with
 |cons r rr =>
  cases rr with
  |cons r' rr =>
   cases rr
   obtain⟨t,rfl⟩:=r
   obtain⟨t',rfl⟩:=r'
   exact call_range_2 (Zdp I1 q1 q2 q3 q4 q)
noncomputable def ZmN (wi:TI) (g:TG) (tb:TS):TS:=fun D σ H=>wi σ H fun J H1=>∃W:Nat->Nat->St->Hp->Prop,(∃m,W 0 m σ H1)/\∀i m σ H,W i m σ H ->
 (J.stop i H/\D.nx σ H)\/(J.go i H/\∃N:St->Hp->Prop,(∀σ' H',N σ' H'->∃m',m'<m/\W (i+1) m' σ' H')/\∀x H',J.yld i H x H'->g x σ H' fun σ2 H2=>tb { D with nx:=N,ct:=N,bk:=D.nx } σ2 H2)
noncomputable def Zdu (fp:List Addr) (h:Heap):List (Addr×Obj):=fp.filterMap fun b=>(h.get? b).map fun o=>(b,o)
theorem VC {fp:List Addr}{h:Heap}{b:Addr}{o:Obj} (hb:b∈fp) (e:h.get? b=some o):(b,o)∈Zdu fp h:=ZuD.mpr ⟨b,hb,by rw[e];rfl⟩
theorem Zf1 {fp:List Addr}{h:Heap}{p:Addr×Obj} (hp:p∈Zdu fp h):p.1∈fp/\h.get? p.1=some p.2:=by
 obtain⟨b,hb,e⟩:=ZuD.mp hp
 cases q:h.get? b with
 |none=>rw[q] at e;cases e
 |some o =>
  rw[q] at e
  have e':(b,o)=p:=Option.some.inj e
  subst e'
  exact⟨hb,q⟩
theorem Inv.pinned {pins:List (Addr×Obj)}{σ:St}{H:Hp}{s:Shared}{fp:List Addr} (I:Inv X pins σ H s) (hf:∀b∈fp,ZhS X pins H b) (ho:∀b∈fp,∃o,s.heap.get? b=some o/\∀v,o.data≠.cell v):Inv X (pins++Zdu fp s.heap) σ H s:=
 I.pins_of fun p hp=>(ZtA.mp hp).elim (fun z=>I.pin p (Zt9 _ z)) fun z=>by
  obtain⟨hb,e⟩:=Zf1 z
  obtain⟨f0,f1,f2,_⟩:=hf p.1 hb
  obtain⟨o,e',d⟩:=ho p.1 hb
  rw[e] at e';cases e'
  exact⟨e,f0,f1,f2,d⟩
theorem Inv.unpinned {pins pl:List (Addr×Obj)}{σ:St}{H:Hp}{s:Shared} (I:Inv X (pins++pl) σ H s):Inv X pins σ H s:=I.pins_of fun p hp=>I.pin p (Zt9 _ (Zt8 _ hp))
theorem QB {iter:Expr}{body:List Stmt}{wi:TI}{g:TG}{tb:TS}{pos:Pos} (hp:PassesOwn (model X.prog X.w) X.A X.env X.xe) (hc:X.calm=true) (hi:PI X tg iter wi) (hg:PG X tg g) (hb:PSs X body tb)
  (hs:∀x,foldedSetIterable iter X.env x=pure x:=by exact fun _=>rfl):PS X (.For tg iter body [] pos) (ZmN wi g tb):=by
 intro pins s σ H D I h
 refine wpAny_For (thn (hi pins s σ H _ I h) fun v s1 h1=>thn h1 fun itv s2 h2=>?_) hs
 obtain⟨it,fp,tn,J,H2,e,I2,T,st2,f2,W,⟨m0,w0⟩,turn⟩:=h2
 subst e
 have stat:∀{H':Hp},(∀b∈fp,H' b=none)->∀b∈fp,ZhS X pins H' b:=fun hn b hb=>⟨hn b hb,(f2 b hb).2⟩
 refine codeAny_forLoop_any (fun n s'=>∃i σ' H',Inv X pins σ' H' s'/\tn i s'.heap/\(∀b∈fp,H' b=none)/\W i n σ' H') ?_ m0 ⟨0,σ,H2,I2,st2,fun b hb=>(f2 b hb).1,w0⟩
 rintro n s3 ⟨i,σ3,H3,I3,st3,fr3,w3⟩
 rcases turn i n σ3 H3 w3 with ⟨stop,qn⟩|⟨go,N,hN,step⟩
 ·refine wpAny_passesOwn hp (thn (T.done X rfl rfl rfl hc i pins s3 σ3 H3 X.xe I3 (stat fr3) st3 stop) fun r s4 ⟨hr,I4⟩=>?_)
  subst hr
  exact wpAny_execs_nil ⟨σ3,H3,I4,qn⟩
 ·refine wpAny_passesOwn hp (thn (T.item X rfl rfl rfl hc i pins s3 σ3 H3 X.xe I3 (stat fr3) st3 go) fun r s4 ⟨u,hr,h4⟩=>?_)
  subst hr
  refine wpAny_passesOwn hp (thn h4 fun _ s5 ⟨x,H5,I5,r5,y5,st5,fr5⟩=>?_)
  have I5':=I5.pinned (stat fr5) (T.obj _ _ st5)
  refine wpAny_passesOwn hp (thn (hg _ s5 σ3 H5 x u _ I5' r5 (step x H5 y5)) fun _ s6 ⟨σ6,H6,I6,q6⟩=>?_)
  refine wpAny_passesOwn hp (thn (hb _ s6 σ6 H6 _ I6 q6) fun f s7 q7=>?_)
  have again:∀{σ7:St}{H7:Hp},Inv X (pins++Zdu fp s5.heap) σ7 H7 s7->N σ7 H7->∃m,m<n/\∃i σ' H',Inv X pins σ' H' s7/\tn i s7.heap/\(∀b∈fp,H' b=none)/\W i m σ' H':=fun {σ7 H7} I7 n7=>by
   obtain⟨m',hm,w7⟩:=hN σ7 H7 n7
   refine⟨m',hm,i+1,σ7,H7,I7.unpinned,T.keep _ _ _ st5 fun b hb o e=>(I7.pin (b,o) (Zt9 _ (Zt9 _ (VC hb e)))).1,fun b hb=>?_,w7⟩
   obtain⟨o,e,d⟩:=T.obj _ _ st5 b hb
   exact(I7.pin (b,o) (Zt9 _ (Zt9 _ (VC hb e)))).2.1
  cases f with
  |next=>obtain⟨σ7,H7,I7,n7⟩:=q7;exact again I7 n7
  |cont=>obtain⟨σ7,H7,I7,n7⟩:=q7;exact again I7 n7
  |brk=>obtain⟨σ7,H7,I7,q7⟩:=q7;exact⟨σ7,H7,I7.unpinned,q7⟩
  |ret v=>obtain⟨x7,σ7,H7,I7,r7,q7⟩:=q7;exact⟨x7,σ7,H7,I7.unpinned,r7,q7⟩
end
noncomputable abbrev R2:=V->V->Hp->VK->Prop
def OpR (X:Cx) (f:Value->Value->Sem Value) (r:R2):Prop:=
 ∀(pins:List (Addr×Obj)) (s:Shared) (σ:St) (H:Hp) (x y:V) (v u:Value) (Q:VK),Inv X pins σ H s->Jp x v->Jp y u->r x y H Q ->
  wpAny (model X.prog X.w) X.A (f v u) (EP X pins σ Q) X.xe s
def UnR (X:Cx) (f:Value->Sem Value) (r:V->Hp->VK->Prop):Prop:=
 ∀(pins:List (Addr×Obj)) (s:Shared) (σ:St) (H:Hp) (x:V) (v:Value) (Q:VK),Inv X pins σ H s->Jp x v->r x H Q ->
  wpAny (model X.prog X.w) X.A (f v) (EP X pins σ Q) X.xe s
def Vg (X:Cx) (f:Value) (r:List V->Hp->VK->Prop):Prop:=
 ∀(pins:List (Addr×Obj)) (s:Shared) (σ:St) (H:Hp) (xs:List V) (us:List Value) (Q:VK),Inv X pins σ H s->ZT xs us->r xs H Q ->
  wpAny (model X.prog X.w) X.A (call f us) (EP X pins σ Q) X.xe s
noncomputable def tOp (r:R2) (ta tb:TE):TE:=fun σ H Q=>ta σ H fun x H1=>tb σ H1 fun y H2=>r x y H2 Q
noncomputable def tUn (r:V->Hp->VK->Prop) (ta:TE):TE:=fun σ H Q=>ta σ H fun x H1=>r x H1 Q
noncomputable def rI (C:Int->Int->Prop) (g:Int->Int->V):R2:=fun x y H Q=>∃i j,x=.int i/\y=.int j/\C i j/\Q (g i j) H
noncomputable def rI0 (g:Int->Int->V):R2:=fun x y H Q=>∃i j,x=.int i/\y=.int j/\Q (g i j) H
def rU (g:Int->V):V->Hp->VK->Prop:=fun x H Q=>∃i,x=.int i/\Q (g i) H
section
variable {X:Cx}{a b:Expr}{ta tb:TE}{pos:Pos}
theorem ZmC (ha:PE X a ta) (hb:PE X b tb) {pins:List (Addr×Obj)}{s:Shared}{σ:St}{H:Hp}{R:V->V->Hp->Prop} (I:Inv X pins σ H s)
  (h:ta σ H fun x H1=>tb σ H1 fun y H2=>R x y H2) {Q:Value->Shared->Prop}{f:Value->Value->Sem Value}
  (hf:∀v u s2 x y H2,Inv X pins σ H2 s2->Jp x v->Jp y u->R x y H2->wpAny (model X.prog X.w) X.A (f v u) Q X.xe s2) :
  wpAny (model X.prog X.w) X.A (eval a X.env) (fun v s₁=>wpAny (model X.prog X.w) X.A (eval b X.env) (fun u s₂=>wpAny (model X.prog X.w) X.A (f v u) Q X.xe s₂) X.xe s₁) X.xe s:=by
 refine thn (ha pins s σ H _ I h) fun v s1 ⟨x,H1,I1,r1,q1⟩=>?_
 refine thn (hb pins s1 σ H1 _ I1 q1) fun u s2 ⟨y,H2,I2,r2,q2⟩=>?_
 exact hf v u s2 x y H2 I2 r1 r2 q2
theorem ZF {op:Operator}{r:R2} (ho:OpR X (binaryOp op) r) (ha:PE X a ta) (hb:PE X b tb):PE X (.BinOp a op b pos) (tOp r ta tb):=by
 intro pins s σ H Q I h
 exact wpAny_BinOp (ZmC ha hb I h fun v u s2 x y H2 I2 rx ry q=>ho pins s2 σ H2 x y v u Q I2 rx ry q)
theorem QD {op:UnaryOp}{r:V->Hp->VK->Prop} (ho:UnR X (unaryOp op) r) (ha:PE X a ta):PE X (.UnaryOp op a pos) (tUn r ta):=by
 intro pins s σ H Q I h
 exact UnaryOp_ (thn (ha pins s σ H _ I h) fun v s1 ⟨x,H1,I1,r1,q1⟩=>ho pins s1 σ H1 x v Q I1 r1 q1)
theorem opI {f:Value->Value->Sem Value}{C:Int->Int->Prop}{g:Int->Int->Int}
  (rule:∀(i j:Int) (t u:Tok) (s:Shared) (Q:Value->Shared->Prop) (E:Value->Shared->Prop),C i j->Q (.int (g i j) s.toks) { s with toks:=s.toks+1 }->wpAny (model X.prog X.w) X.A (f (.int i t) (.int j u)) Q E s) :
  OpR X f (rI C fun i j=>.int (g i j)):=by
 intro pins s σ H x y v u Q I rx ry h
 obtain⟨i,j,rfl,rfl,hc,q⟩:=h
 obtain⟨t,rfl⟩:=rx
 obtain⟨t',rfl⟩:=ry
 exact rule i j t t' s _ _ hc ⟨.int (g i j),H,I.tok _,⟨_,rfl⟩,q⟩
theorem Znb {f:Value->Value->Sem Value}{g:Int->Int->Int}
  (rule:∀(i j:Int) (t u:Tok) (s:Shared) (Q:Value->Shared->Prop) (E:Value->Shared->Prop),Q (.int (g i j) s.toks) { s with toks:=s.toks+1 }->wpAny (model X.prog X.w) X.A (f (.int i t) (.int j u)) Q E s) :
  OpR X f (rI0 fun i j=>.int (g i j)):=by
 intro pins s σ H x y v u Q I rx ry h
 obtain⟨i,j,rfl,rfl,q⟩:=h
 obtain⟨t,rfl⟩:=rx
 obtain⟨t',rfl⟩:=ry
 exact rule i j t t' s _ _ ⟨.int (g i j),H,I.tok _,⟨_,rfl⟩,q⟩
theorem ZlD {f:Value->Value->Sem Value}{g:Int->Int->Bool}
  (rule:∀(i j:Int) (t u:Tok) (s:Shared) (Q:Value->Shared->Prop) (E:Value->Shared->Prop),Q (.bool (g i j)) s->wpAny (model X.prog X.w) X.A (f (.int i t) (.int j u)) Q E s) :
  OpR X f (rI0 fun i j=>.bl (g i j)):=by
 intro pins s σ H x y v u Q I rx ry h
 obtain⟨i,j,rfl,rfl,q⟩:=h
 obtain⟨t,rfl⟩:=rx
 obtain⟨t',rfl⟩:=ry
 exact rule i j t t' s _ _ ⟨.bl (g i j),H,I,rfl,q⟩
def ZjP (i j:Int):Prop:=0<=j/\j<=1000000/\i.natAbs<2^64
theorem Uq:OpR X (binaryOp .Add) (rI0 fun i j=>.int (i+j)):=Znb fun _ _ _ _ _ _ _ q=>add_int q
theorem UP:OpR X (binaryOp .Sub) (rI0 fun i j=>.int (i-j)):=Znb fun _ _ _ _ _ _ _ q=>sub_int q
theorem Ju:OpR X (binaryOp .Mod) (rI (fun _ j=>0<j) fun i j=>.int (i%j)):=opI fun i j _ _ _ _ _ hc q=>by
 have h1:(0:Int)<j:=hc
 exact mod_int' (by omega) (by rw[Int.fmod_eq_emod_of_nonneg i (by omega)];exact q)
theorem Zfx:OpR X (binaryOp .Pow) (rI ZjP fun i j=>.int (i^j.toNat)):=opI fun _ _ _ _ _ _ _ hc q=>pow_int_small hc.1 hc.2.1 hc.2.2 q
theorem unI {f:Value->Sem Value}{g:Int->Int}
  (rule:∀(i:Int) (t:Tok) (s:Shared) (Q:Value->Shared->Prop) (E:Value->Shared->Prop),Q (.int (g i) s.toks) { s with toks:=s.toks+1 }->wpAny (model X.prog X.w) X.A (f (.int i t)) Q E s) :
  UnR X f (rU fun i=>.int (g i)):=by
 intro pins s σ H x v Q I rx h
 obtain⟨i,rfl,q⟩:=h
 obtain⟨t,rfl⟩:=rx
 exact rule i t s _ _ ⟨.int (g i),H,I.tok _,⟨_,rfl⟩,q⟩
theorem Vv:UnR X (unaryOp .USub) (rU fun i=>.int (-i)):=unI fun _ _ _ _ _ q=>neg_int q
variable {c:Expr}
theorem ZkV {pins:List (Addr×Obj)}{σ:St}{H:Hp}{s:Shared}{Q:VK}{k k':Bool} (I:Inv X pins σ H s) (q:Q (.bl k) H) (e:k=k'):EP X pins σ Q (.bool k') s:=by
 subst e
 exact⟨.bl k,H,I,rfl,q⟩
theorem Zhl:OpR X (compareOp .Lt) (rI0 fun i j=>.bl (decide (i<j))):=ZlD fun _ _ _ _ _ _ _ q=>lt_int q
theorem Zmg:OpR X (compareOp .LtE) (rI0 fun i j=>.bl (decide (i<=j))):=ZlD fun _ _ _ _ _ _ _ q=>le_int q
theorem Zk4:OpR X (compareOp .Gt) (rI0 fun i j=>.bl (decide (j<i))):=ZlD fun _ _ _ _ _ _ _ q=>gt_int q
theorem Zhm:OpR X (compareOp .GtE) (rI0 fun i j=>.bl (decide (j<=i))):=ZlD fun _ _ _ _ _ _ _ q=>ge_int q
theorem Zk3:OpR X (compareOp .Is) (fun x y H Q=>y=.non/\Q (.bl (decide (x=.non))) H):=by
 intro pins s σ H x y v u Q I rx ry h
 obtain⟨rfl,q⟩:=h
 cases ry
 refine is_none_gen (ZkV I q ?_)
 cases x<;>first
  |(cases rx;rfl)
  |(obtain⟨t,rfl⟩:=rx;rfl)
theorem Z9 (b:Expr) {op:CmpOp} (h:op≠.In:=by decide) (h2:op≠.NotIn:=by decide):behindInMarks op b=false:=by
 have e1:(op==CmpOp.In)=false:=by cases op<;>first|rfl|exact absurd rfl h
 have e2:(op==CmpOp.NotIn)=false:=by cases op<;>first|rfl|exact absurd rfl h2
 cases b<;>simp[behindInMarks,e1,e2]
theorem ZaU {op:CmpOp}{r:R2} (ho:OpR X (compareOp op) r) (ha:PE X a ta) (hb:PE X b tb) (hm:behindInMarks op b=false):PE X (.Compare a [op] [b] pos) (tOp r ta tb):=by
 intro pins s σ H Q I h
 exact wpAny_Compare1 (ZmC ha hb I h fun v u s2 x y H2 I2 rx ry q=>ho pins s2 σ H2 x y v u Q I2 rx ry q) hm
noncomputable def ZjV (t:TE):TT:=fun σ H Q=>t σ H fun x H'=>∃k,x=.bl k/\Q k H'
theorem Zx {op:CmpOp}{r:R2} (ho:OpR X (compareOp op) r) (ha:PE X a ta) (hb:PE X b tb) (hm:behindInMarks op b=false):PT X (.Compare a [op] [b] pos) (ZjV (tOp r ta tb)):=by
 intro pins s σ H Q I h
 refine wpAny_isTrue_Compare1 (thn (ha pins s σ H _ I h) fun v s1 ⟨x,H1,I1,r1,q1⟩=>thn (hb pins s1 σ H1 _ I1 q1) fun u s2 ⟨y,H2,I2,r2,q2⟩ =>
  thn (ho pins s2 σ H2 x y v u _ I2 r1 r2 q2) fun c s3 ⟨z,H3,I3,r3,k,e,q3⟩=>?_) hm
 subst e
 cases r3
 exact wpAny_truthy_bool ⟨H3,I3,q3⟩
theorem Za5:(sizeLine:Nat)<2^63:=by rw[sizeLine_eq];decide
theorem ZaJ {x:V}{us:List Value} (r:ZT [x] us):∃u,us=[u]/\Jp x u:=by
 cases r with
 |cons r1 r2=>cases r2;exact⟨_,rfl,r1⟩
theorem ZjS {x y:V}{us:List Value} (r:ZT [x,y] us):∃u w',us=[u,w']/\Jp x u/\Jp y w':=by
 cases r with
 |cons r1 r2 =>
  cases r2 with
  |cons r3 r4=>cases r4;exact⟨_,_,rfl,r1,r3⟩
theorem Zgw:Vg X (.type "int") (fun xs H Q=>(∃i,xs=[.int i]/\Q (.int i) H)\/∃k,xs=[.bl k]/\Q (.int (if k then 1 else 0)) H):=by
 intro pins s σ H xs us Q I r h
 rcases h with ⟨i,rfl,q⟩|⟨k,rfl,q⟩
 ·obtain⟨u,rfl,t,rfl⟩:=ZaJ r
  exact call_int_int ⟨.int i,H,I,⟨_,rfl⟩,q⟩
 ·obtain⟨u,rfl,r1⟩:=ZaJ r
  cases r1
  exact call_int_bool ⟨.int (if k then 1 else 0),H,I.tok _,⟨_,rfl⟩,q⟩
end
structure Ziz (h:Heap) (x dx C:Addr) (mA:Str->Option Value):Prop where
 obj:h.get? x=some (PySem.W.instObj C dx)
 ns:h.Ns1 dx mA
 ne:dx≠x
theorem ZbT {h:Heap}{dx:Addr}{mA:Str->Option Value} (n:h.Ns1 dx mA):∃od,h.get? dx=some od/\∀name,PySem.W.lookIn name od=some (mA name):=by
 obtain⟨o,es,ep,ho,hd,hk,_,hm⟩:=n
 refine⟨o,ho,fun name=>?_⟩
 have e:=hm name
 unfold nsFind findBy at e
 rw[<- Array.find?_toList] at e
 unfold PySem.W.lookIn
 rw[hd]
 dsimp only
 split
 ·rename_i y q
  rw[q] at e
  exact congrArg some e
 ·rename_i q
  rw[q] at e
  have a:es.toList.any (·.refKey)=false:=by
   rw[List.any_eq_false]
   intro y hy
   obtain⟨z,t,hkey⟩:=hk y (Array.mem_toList_iff.mp hy)
   simp[DictEntry.refKey,hkey]
  have a':¬es.toList.any (·.refKey)=true:=by rw[a];exact Bool.false_ne_true
  rw[if_neg a']
  exact congrArg some e
theorem Ziz.look {h:Heap}{x dx C:Addr}{mA:Str->Option Value} (I:Ziz h x dx C mA):∃od,PySem.W.InstAt h x (PySem.W.instObj C dx) C (some od)/\∀name,PySem.W.lookIn name od=some (mA name):=
 let ⟨od,ho,hl⟩:=ZbT I.ns
 ⟨od,⟨I.obj,rfl,rfl,ho⟩,hl⟩
section
variable {prog:Program}{w:World}{A:Around}{E:Value->Shared->Prop}{s:Shared}{K:W.Frag}{x dx C f:Addr}{mA:Str->Option Value}{name:Str}{v:Value}
theorem Zjj {expr:Bool}{Q:Value->Shared->Prop} (X:K.In s.heap) (I:Ziz s.heap x dx C mA) (hg:PySem.W.plainGet K C name=true) (hh:PySem.W.hasDictIn K C=true)
  (ha:PySem.W.findIn K (.ref C) name=some none) (hv:mA name=some v) (hv':PySem.W.handedIn v=true) (h:Q v { s with toks:=s.toks+1 }) :
  wpAny (model prog w) A (getAttr (.ref x) name expr) Q E s:=by
 obtain⟨od,J,hl⟩:=I.look
 exact PySem.W.get_value X J (PySem.W.plainGet_of hg).1 (PySem.W.findObj_own hh ha rfl (by rw[hl,hv])) hv' h
theorem Qu {pl:Sem Bool}{Q:Value×List Value->Shared->Prop} (X:K.In s.heap) (I:Ziz s.heap x dx C mA) (hg:PySem.W.plainGet K C name=true)
  (hf:PySem.W.findIn K (.ref C) name=some (some (.ref f))) (ht:PySem.W.isFn K (.ref f)=true) (hv:mA name=none) (h:Q (.ref f,[.ref x]) s) :
  wpAny (model prog w) A (getMethod (.ref x) name pl) Q E s:=by
 obtain⟨od,J,hl⟩:=I.look
 exact PySem.W.method_fn X J (PySem.W.plainGet_of hg).1 (PySem.W.plainGet_of hg).2 hf (beq_iff_eq.mp ht) (by show (PySem.W.lookIn name od).map (·.isSome)=some false;rw[hl,hv];rfl) h
theorem ZiB {ns:List Str}{Q:Unit->Shared->Prop} (X:K.In s.heap) (I:Ziz s.heap x dx C mA)
  (hs:PySem.W.findIn K (.ref C) "__setattr__"=some (some (.builtin "object.__setattr__"))) (hp:PySem.W.plainOver K C=true) (ht:PySem.W.takerIn K C name=some none) (hh:PySem.W.hasDictIn K C=true)
  (hw:PySem.Within mA ns) (hsz:ns.length<=sizeLine)
  (h:∀h',Ziz h' x dx C (fun y=>if y=name then some v else mA y)->Heap.SameBut dx s.heap h'->Q () { s with heap:=h',toks:=s.toks+2 }) :
  wpAny (model prog w) A (setAttr (.ref x) name v) Q E s:=by
 obtain⟨od,J,hl⟩:=I.look
 refine PySem.W.set_plain X J hs (PySem.W.osa_open (s:={ s with toks:=s.toks+1 }) (r:=none) X J hp ht fun b=>?_)
 obtain⟨cd,hc,hd'⟩:=PySem.W.any_some hh
 have hx:s.heap.get? x=some ⟨.ref C,some dx,.plain,#[]⟩:=I.obj
 refine wpAny_bind (wpAny_pure (wpAny_bind (wpAny_bind (wpAny_loadPart hx (wpAny_bind (PySem.W.Looks.here (s:={ s with toks:=s.toks+1 }) (PySem.W.looks_clsIn X hc) ?_))))))
 rw[hd']
 refine wpAny_pure (a:=some dx) (wpAny_bind (wpAny_pure (wpAny_bind ?_)))
 refine wpAny_nsSet1 (s:={ s with toks:=s.toks+1 }) I.ns fun h' hn2 hs2=>?_
 obtain⟨oD,esD,epD,hoD,hdD,hcD⟩:=hn2.count (PySem.Within.cons name v hw)
 refine wpAny_bind (wpAny_lookBehind hoD (by rw[hdD];exact pastItsLine_dict (ZtS hcD (by rw[ZtK];omega))) ?_)
 exact wpAny_pure (h _ ⟨(hs2.2 _ (Ne.symm I.ne)).trans I.obj,hn2,I.ne⟩ hs2)
theorem Zhq {R:Result->Shared->Prop}{vs:List Value}{kw:List (Str×Value)} (X:K.In s.heap) (hm:PySem.W.makesIn K C=true)
  (hi:PySem.W.findIn K (.ref C) "__init__"=some (some (.ref f))) (hf:PySem.W.typeIn K (.ref f)=some (.type "function"))
  (h:codeAny (model prog w) (A.under (.builtin "type.__call__" ⟨.ref C::vs,kw⟩)) (.call (.ref f) ⟨.ref (s.heap.objs.size+1)::vs,kw⟩) (PySem.W.InitBack (s.heap.objs.size+1) R)
   { s with heap:=(s.heap.push PySem.W.emptyDict).push (PySem.W.instObj C s.heap.objs.size) }) :
  codeAny (model prog w) A (.call (.ref C) ⟨vs,kw⟩) R s:=by
 obtain⟨hh,g,d,t,os⟩:=s
 exact PySem.W.make_core (PySem.W.makes_of X hm) (PySem.W.looks_findIn X hi) (fun self=>PySem.W.bind_fn X self hf) (.inl rfl) h
end
noncomputable def Zay (f:Str) (v:V):List (Str×V)->List (Str×V)
 |[]=>[(f,v)]
 |(g,x)::r=>if g=f then (g,v)::r else (g,x)::Zay f v r
theorem QO (f g:Str) (v:V):∀fs:List (Str×V),(Zay f v fs).lookup g=if g=f then some v else fs.lookup g
 |[]=>by
  show Zuy g [(f,v)]=_
  by_cases h:g=f
  ·have hb:(g==f)=true:=beq_iff_eq.mpr h
   simp only[Zuy,hb,if_pos h]
  ·have hb:(g==f)=false:=beq_eq_false_iff_ne.mpr h
   simp only[Zuy,hb,if_neg h]
 |(k,x)::r=>by
  have ih:=QO f g v r
  rw[show Zay f v ((k,x)::r)=(if k=f then (k,v)::r else (k,x)::Zay f v r) from rfl]
  by_cases hk:k=f
  ·rw[if_pos hk]
   by_cases h:g=k
   ·have hb:(g==k)=true:=beq_iff_eq.mpr h
    simp only[Zuy,hb,if_pos (h.trans hk)]
   ·have hb:(g==k)=false:=beq_eq_false_iff_ne.mpr h
    simp only[Zuy,hb,if_neg (fun e:g=f=>h (e.trans hk.symm))]
  ·rw[if_neg hk]
   by_cases h:g=k
   ·have hb:(g==k)=true:=beq_iff_eq.mpr h
    simp only[Zuy,hb,if_neg (fun e:g=f=>hk (h.symm.trans e))]
   ·have hb:(g==k)=false:=beq_eq_false_iff_ne.mpr h
    simp only[Zuy,hb]
    exact ih
theorem QS (f:Str) (v:V):∀fs:List (Str×V),f∈(Zay f v fs).map (·.1)/\∀g,g∈fs.map (·.1)->g∈(Zay f v fs).map (·.1)
 |[]=>⟨by simp[Zay],fun g h=>by simp at h⟩
 |(k,x)::r=>by
  obtain⟨i1,i2⟩:=QS f v r
  rw[show Zay f v ((k,x)::r)=(if k=f then (k,v)::r else (k,x)::Zay f v r) from rfl]
  by_cases hk:k=f
  ·rw[if_pos hk]
   subst hk
   exact⟨by simp,fun g h=>by simpa using h⟩
  ·rw[if_neg hk]
   refine⟨?_,fun g h=>?_⟩
   ·rw[ZtI]
    exact ZtM _ i1
   ·rw[ZtI] at h ⊢
    rcases ZtE.mp h with e|e
    ·exact ZtE.mpr (.inl e)
    ·exact ZtM _ (i2 g e)
theorem QQ (f:Str) (v:V):∀fs:List (Str×V),(Zay f v fs).length<=fs.length+1
 |[]=>by simp[Zay]
 |(k,x)::r=>by
  have ih:=QQ f v r
  rw[show Zay f v ((k,x)::r)=(if k=f then (k,v)::r else (k,x)::Zay f v r) from rfl]
  by_cases hk:k=f
  ·rw[if_pos hk,ZtK,ZtK];omega
  ·rw[if_neg hk,ZtK,ZtK];omega
theorem ZaF.some_of {v:V}{o:Option Value} (r:ZaF (some v) o):∃u,o=some u/\Jp v u:=by
 cases o with
 |none=>exact(show False from r).elim
 |some u=>exact⟨u,rfl,r⟩
theorem ZaF.none_of {o:Option Value} (r:ZaF none o):o=none:=by
 cases o with
 |none=>rfl
 |some u=>exact(show False from r).elim
theorem ZfQ {v:V}{u:Value} (r:Jp v u):PySem.W.handedIn u=true:=by
 cases v with
 |non=>cases (show u=Value.none from r);rfl
 |bl b=>cases (show u=Value.bool b from r);rfl
 |int i=>obtain⟨t,e⟩:=(show ∃t,u=Value.int i t from r);cases e;rfl
 |str x=>obtain⟨t,e⟩:=(show ∃t,u=Value.str x t from r);cases e;rfl
 |byt b=>obtain⟨t,e⟩:=(show ∃t,u=Value.bytes b t from r);cases e;rfl
 |flt b=>obtain⟨t,e⟩:=(show ∃t,u=Value.float b t from r);cases e;rfl
 |ref a=>cases (show u=Value.ref a from r);rfl
 |ty n=>cases (show u=Value.type n from r);rfl
section
variable {P:Program}{w:World}{H:Hp}{h:Heap}{a C dx:Addr}{fs:List (Str×V)}
theorem Zjf (hok:HOk P w H h) (e:H a=some (.ins C dx fs)):∃mA,Ziz h a dx C mA/\(∀f,ZaF (fs.lookup f) (mA f))/\PySem.Within mA (fs.map (·.1))/\fs.length<=1000/\H dx=some (.own a):=by
 obtain⟨d,z,ne,ob,mA,n,r,q⟩:=(show Jz P w H h a (.ins C dx fs) from hok a _ e)
 exact⟨mA,⟨ob,n,ne⟩,r,q,z,d⟩
end
structure Cls (K:PySem.W.Frag) (C:Addr):Prop where
 pg:PySem.W.plainGet K C Str.empty=true
 hd:PySem.W.hasDictIn K C=true
 po:PySem.W.plainOver K C=true
 sa:PySem.W.findIn K (.ref C) "__setattr__"=some (some (.builtin "object.__setattr__"))
theorem Cls.get {K:W.Frag}{C:Addr} (c:Cls K C) (f:Str):PySem.W.plainGet K C f=true:=c.pg
def Zam (K:W.Frag) (C:Addr) (f:Str):Prop:=PySem.W.findIn K (.ref C) f=some none
theorem Zam.taker {K:W.Frag}{C:Addr}{f:Str} (n:Zam K C f):PySem.W.takerIn K C f=some none:=by
 unfold PySem.W.takerIn
 rw[show PySem.W.findIn K (.ref C) f=some none from n]
 rfl
structure Znk (K:PySem.W.Frag) (C:Addr) (m:Str) (f:Addr):Prop where
 at_:PySem.W.findIn K (.ref C) m=some (some (.ref f))
 fn:PySem.W.isFn K (.ref f)=true
 kp:PySem.W.keepIn K (.ref f)=true
section
variable {X:Cx}{pins:List (Addr×Obj)}{σ:St}{H:Hp}{s:Shared}{a C dx:Addr}{fs:List (Str×V)}{f:Str}{A:Around}{E:Value->Shared->Prop}
theorem Zeh {y:V}{u:Value}{Q:Unit->Shared->Prop} (I:Inv X pins σ H s) (e:H a=some (.ins C dx fs)) (c:Cls X.K C) (n:Zam X.K C f) (hl:fs.length<1000) (ry:Jp y u)
  (h:∀s',Inv X pins σ (upd H a (.ins C dx (Zay f y fs))) s'->Q () s'):wpAny (model X.prog X.w) A (setAttr (.ref a) f u) Q E s:=by
 obtain⟨mA,O,r,wi,_,ho⟩:=Zjf I.hok e
 have hz:(fs.map (·.1)).length<=sizeLine:=by rw[Zt7,sizeLine_eq];omega
 refine ZiB I.kIn O c.sa c.po n.taker c.hd wi hz fun h' O' sb=>h _ ?_
 have hd:∃o,h'.get? dx=some o:=let ⟨o,_,_,e',_⟩:=O'.ns;⟨o,e'⟩
 refine I.write (x:=a) (e:=dx) (by rw[e];exact True.intro) (.inr ho) (fun b q hb z=>(sb.2 b hb).trans z) hd ?_
 refine⟨by rw[Zq O.ne];exact ho, ?_,O.ne,O'.obj,_,O'.ns,fun g=>?_,fun g hg=>?_⟩
 ·have:=QQ f y fs;omega
 ·show ZaF ((Zay f y fs).lookup g) (if g=f then some u else mA g)
  rw[QO]
  by_cases q:g=f
  ·rw[if_pos q,if_pos q];exact ry
  ·rw[if_neg q,if_neg q];exact r g
 ·by_cases q:g=f
  ·rw[q];exact(QS f y fs).1
  ·refine(QS f y fs).2 g (wi g fun z=>hg ?_)
   show (if g=f then some u else mA g)=none
   rw[if_neg q];exact z
theorem Inv.made (I:Inv X pins σ H s):Inv X pins σ (upd (upd H s.heap.objs.size (.own (s.heap.objs.size+1))) (s.heap.objs.size+1) (.ins C s.heap.objs.size []))
  { s with heap:=(s.heap.push PySem.W.emptyDict).push (PySem.W.instObj C s.heap.objs.size) }:=by
 have e1:(s.heap.push PySem.W.emptyDict).get? s.heap.objs.size=some PySem.W.emptyDict:=Heap.get?_push_size s.heap rfl
 have e2:((s.heap.push PySem.W.emptyDict).push (PySem.W.instObj C s.heap.objs.size)).get? (s.heap.objs.size+1)=some (PySem.W.instObj C s.heap.objs.size):=by
  have:=Heap.get?_push_size (s.heap.push PySem.W.emptyDict) (o:=PySem.W.instObj C s.heap.objs.size) rfl
  rwa [Heap.size_push] at this
 have e3:(s.heap.push PySem.W.emptyDict).Ns s.heap.objs.size (fun _=>none):=⟨PySem.W.emptyDict,#[],_,e1,rfl,(fun e he=>absurd he (by simp)),fun _=>rfl⟩
 have I1:=I.laid (a:=s.heap.objs.size) (o:=.own (s.heap.objs.size+1)) (h':=s.heap.push PySem.W.emptyDict) (t':=s.toks) (fun b u q=>Heap.get?_push_of_some _ q) (ZtD _) ⟨_,e1⟩
 refine I1.laid (a:=s.heap.objs.size+1) (o:=.ins C s.heap.objs.size []) (t':=s.toks) (fun b u q=>Heap.get?_push_of_some _ q) (Nat.le_of_eq (Heap.size_push _ _)) ?_
 have ne:s.heap.objs.size≠s.heap.objs.size+1:=ZtP (Zus _)
 refine⟨by rw[Zq ne,Z0],Zuk _,ne,e2,fun _=>none,(Heap.Ns1.of_empty e3).at fun o q=>Heap.get?_push_of_some _ q,fun _=>True.intro,fun y hy=>absurd rfl hy⟩
theorem Zj5 {prog:Program}{w:World}{env:Env}{e:Expr}{f:Str}{pos:Pos}{s:Shared}{Q:Value->Shared->Prop} (hb:attributeBase e f env (eval e env)=eval e env)
  (h:wpAny (model prog w) A (eval e env) (fun o s₁=>wpAny (model prog w) A (getAttr o f true) Q E s₁) E s):wpAny (model prog w) A (eval (.Attribute e f pos) env) Q E s:=
 Attribute_any_ h (by rw[arm_eval_Attribute,hb])
end
noncomputable def ZlS (K:W.Frag) (ta tv:TE) (f:Str):TS:=fun D σ H=>tv σ H fun y H1=>ta σ H1 fun x H2=>∃a C dx fs,x=.ref a/\H2 a=some (.ins C dx fs)/\Cls K C/\Zam K C f/\fs.length<1000 /\
 D.nx σ (upd H2 a (.ins C dx (Zay f y fs)))
section
variable {X:Cx}{o value:Expr}{f:Str}{pos pos':Pos}{ta tv:TE}
theorem Zkq (ha:PE X o ta) (hv:PE X value tv) (hs:swapsWith value (some (.Attribute o f pos')) pos.line X.env=pure false):PS X (.Assign [.Attribute o f pos'] value pos) (ZlS X.K ta tv f):=by
 intro pins s σ H D I h
 refine plainObj_wpAny_Assign_Attribute (thn (hv pins s σ H _ I h) fun u s1 ⟨y,H1,I1,ry,q⟩=>thn (ha pins s1 σ H1 _ I1 q) fun ov s2 ⟨x,H2,I2,rx,a,C,dx,fs,ex,ea,c,n,l,q2⟩=>?_) hs
 subst ex
 obtain rfl:ov=Value.ref a:=rx
 exact Zeh I2 ea c n l ry fun s3 I3=>⟨σ,_,I3,q2⟩
end
structure Vu (k:Nat) (A:Around):Prop where
 hd:A.handled=none
 dp:A.depth+3*k+5<recursionLimit
 un:A.units+16*k+200<cLine
theorem Vu.mono {j k:Nat}{A:Around} (r:Vu k A) (h:j<=k):Vu j A:=⟨r.hd,by have:=r.dp;omega,by have:=r.un;omega⟩
theorem Vu.deeper {k:Nat}{A:Around} (r:Vu (k+1) A) (env:Env):Vu k (A.deeper env):=
 ⟨r.hd,by have:=r.dp;show A.depth+1+3*k+5<_;omega,by have:=r.un;show A.units+3+16*k+200<_;omega⟩
theorem Zet {A:Around}{C:Addr}{us:List Value}{kw:List (Str×Value)}:(A.under (.builtin "type.__call__" ⟨.ref C::us,kw⟩)).depth=A.depth+1:=by
 first|rfl|simp[Around.under,Code.weight,Code.isCreation,Code.isGuard,Code.isCaller,Code.frames,Code.isFrame,guardIds]
theorem Zes {A:Around}{C:Addr}{us:List Value}{kw:List (Str×Value)}:(A.under (.builtin "type.__call__" ⟨.ref C::us,kw⟩)).units=A.units+1:=by
 first|rfl|simp[Around.under,Code.cUnits,Code.frames,Code.isFrame]
theorem Vu.make {k:Nat}{A:Around} (r:Vu (k+1) A) (C:Addr) (us:List Value) (kw:List (Str×Value)):Vu k (A.under (.builtin "type.__call__" ⟨.ref C::us,kw⟩)):=
 ⟨r.hd,by have:=r.dp;rw[Zet];omega,by have:=r.un;rw[Zes];omega⟩
theorem Vu.depth {k:Nat}{A:Around} (r:Vu k A):A.depth<recursionLimit:=by have:=r.dp;omega
theorem Vu.units {k:Nat}{A:Around} (r:Vu k A):A.units+64<cLine:=by have:=r.un;omega
noncomputable def Zcx:TA:=fun _ H Q=>Q [] H
noncomputable def J4 (ta:TE) (tr:TA):TA:=fun σ H Q=>ta σ H fun x H1=>tr σ H1 fun xs H2=>Q (x::xs) H2
section
variable {X:Cx}{e:Expr}{es:List Expr}{te:TE}{t:TA}{pos:Pos}
theorem Zf:PA X [] Zcx:=fun _ _ _ _ H Q I h=>Calls.spliced_nil ⟨[],H,I,.nil,h⟩
theorem Za (ha:PE X e te) (hr:PA X es t) (hs:starEach (e::es) X.env=(false,eval e X.env)::starEach es X.env:=by rfl):PA X (e::es) (J4 te t):=by
 intro pos pins s σ H Q I h
 rw[hs]
 show wpAny _ _ (spliced ((false,eval e X.env)::backTo pos (starEach es X.env))) _ _ s
 refine Calls.spliced_cons (thn (ha pins s σ H _ I h) fun u s1 ⟨x,H1,I1,r1,q1⟩=>?_)
 exact thn (hr pos pins s1 σ H1 _ I1 q1) fun us s2 ⟨xs,H2,I2,r2,q2⟩=>⟨x::xs,H2,I2,.cons r1 r2,q2⟩
noncomputable def ZjU (t:TA):TE:=fun σ H Q=>t σ H fun xs H1=>xs.length<=sizeLine/\∀p,H1 p=none->Q (.ref p) (upd H1 p (.tup xs))
noncomputable def Zl7 (t:TA):TE:=fun σ H Q=>t σ H fun xs H1=>xs.length<=sizeLine/\∀p,H1 p=none->Q (.ref p) (upd H1 p (.lst xs))
theorem JJ {x1} (h:PA X es t):PE X (.Tuple es x1 pos) (ZjU t):=by
 intro pins s σ H Q I hq
 refine wpAny_Tuple_spliced (thn (h pos pins s σ H _ I hq) fun us s1 ⟨xs,H1,I1,r,z,q⟩=>⟨by rw[<- r.length];exact z, ?_⟩)
 have hf:H1 s1.heap.objs.size=none:=I1.hok.fresh (ZtD _)
 refine⟨.ref s1.heap.objs.size,upd H1 s1.heap.objs.size (.tup xs),I1.laid (t':=s1.toks) (fun b u e=>Heap.get?_push_of_some _ e) (ZtD _) ?_,rfl,q _ hf⟩
 exact⟨z,us,r,⟨_,Heap.get?_push_size _ rfl,rfl,_,rfl⟩⟩
theorem Jt (h:PA X es t):PE X (.List es pos) (Zl7 t):=by
 intro pins s σ H Q I hq
 refine wpAny_List_spliced (thn (h pos pins s σ H _ I hq) fun us s1 ⟨xs,H1,I1,r,z,q⟩=>⟨by rw[<- r.length];exact z, ?_⟩)
 have hf:H1 s1.heap.objs.size=none:=I1.hok.fresh (ZtD _)
 refine⟨.ref s1.heap.objs.size,upd H1 s1.heap.objs.size (.lst xs),I1.laid (t':=s1.toks) (fun b u e=>Heap.get?_push_of_some _ e) (ZtD _) ?_,rfl,q _ hf⟩
 exact⟨z,us,0,r,Heap.get?_push_size _ rfl⟩
end
noncomputable abbrev Sp:=List V->Hp->VK->XK->Prop
noncomputable abbrev CXT:=List Env->Hp->Shared->XK->Value->Shared->Prop
structure ZjF (P:Program) (w:World) (K:PySem.W.Frag) (mg:Str->Option Value) (base:Heap) (A:Around) (outer:List Env) (s:Shared) (H:Hp):Prop where
 frames:A.frames=some outer
 mod:Mod K mg base
 bs:∀b o,base.get? b=some o->s.heap.get? b=some o/\H b=none
 bsz:base.objs.size<=s.heap.objs.size
 funs:s.heap.FunFrames base outer
 frf:∀b∈frs outer,H b=none
 hok:HOk P w H s.heap
 bare:AllBare s.gens
def CE (outer:List Env) (P:Program) (w:World) (H:Hp) (s:Shared) (Q:VK) (u:Value) (s':Shared):Prop:=
 ∃v H',s'.os=s.os/\AllBare s'.gens/\Un (frs outer) [] H H' s.heap s'.heap/\HOk P w H' s'.heap/\Jp v u/\Q v H'
def CR (CX:CXT) (outer:List Env) (P:Program) (w:World) (H:Hp) (s:Shared) (Q:VK) (E:XK) (r:Result) (s':Shared):Prop:=
 match r with
 |.ok (.ret u)=>CE outer P w H s Q u s'
 |.ok _=>False
 |.error e=>CX outer H s E e s'
structure Jd (P:Program) (w:World) (K:PySem.W.Frag) (mg:Str->Option Value) (base:Heap) (CX:CXT) (k:Nat) (f:Addr) (fd:FuncData) (ps:List Str) (sp:Sp):Prop where
 len:∀vs H Q E,sp vs H Q E->vs.length=ps.length
 run:∀(A:Around) (outer:List Env) (s:Shared) (H:Hp) (args:Args) (us:List Value) (vs:List V) (Q:VK) (E:XK),Vu k A->ZjF P w K mg base A outer s H->BindsTo s fd args (ps.zip us)->ZT vs us->sp vs H Q E ->
  codeAny (model P w) A (.call (.ref f) args) (CR CX outer P w H s Q E) s
theorem Jd.mono {P:Program}{w:World}{K:W.Frag}{mg:Str->Option Value}{base:Heap}{CX:CXT}{j k:Nat}{f:Addr}{fd:FuncData}{ps:List Str}{sp:Sp} (F:Jd P w K mg base CX j f fd ps sp) (h:j<=k) :
  Jd P w K mg base CX k f fd ps sp:=⟨F.len,fun A outer s H args us vs Q E hr=>F.run A outer s H args us vs Q E (hr.mono h)⟩
theorem ZjF.make {P:Program}{w:World}{K:W.Frag}{mg:Str->Option Value}{base:Heap}{A:Around}{outer:List Env}{s:Shared}{H:Hp} (e:ZjF P w K mg base A outer s H) (C:Addr) (us:List Value) (kw:List (Str×Value)) :
  ZjF P w K mg base (A.under (.builtin "type.__call__" ⟨.ref C::us,kw⟩)) outer s H:=⟨by first|exact e.frames|(simpa[Around.under,Code.envs,Code.isFrame,pushEnvs] using e.frames),e.mod,e.bs,e.bsz,e.funs,e.frf,e.hok,e.bare⟩
section
variable {X:Cx}{pins:List (Addr×Obj)}{σ:St}{H:Hp}{s s':Shared}
theorem Inv.env0 (I:Inv X pins σ H s):ZjF X.prog X.w X.K X.mg X.base X.A X.stack s H:=
 ⟨I.ok.frames,I.ok.mod,I.bs,ZtS I.ok.bsz I.sz,I.stack,I.stkFree,I.hok,I.bare⟩
theorem Inv.after {Q:VK}{u:Value} (I:Inv X pins σ H s) (h:CE X.stack X.prog X.w H s Q u s'):EP X pins σ Q u s':=by
 obtain⟨v,H',os,bare,un,hok,r,q⟩:=h
 obtain⟨hh,g,d,t,os'⟩:=s'
 obtain rfl:os'=s.os:=os
 exact⟨v,H',I.call (h':=hh) (g':=g) (d':=d) (t':=t) (ch:=[]) un hok bare (fun b z=>absurd z (by simp)),r,q⟩
end
noncomputable def Zkc (sp:Sp) (dvs:List V) (E:XK) (t:TA):TE:=fun σ H Q=>t σ H fun vs H1=>sp (vs++dvs) H1 Q E
def UK (K:W.Frag) (fd:FuncData) (ps:List Str) (ds:List Value):Prop:=
 ∀(s:Shared) (us:List Value),K.In s.heap->(us++ds).length=ps.length->BindsTo s fd ⟨us,[]⟩ (ps.zip (us++ds))
theorem UK.all {K:W.Frag}{fd:FuncData}{ps:List Str} (h:∀us:List Value,us.length=ps.length->bindArgs fd ⟨us,[]⟩=pure (ps.zip us)):UK K fd ps []:=fun s us _ hl=>by
 rw[ZtW] at hl ⊢
 exact .of_eq (h us hl)
def Zcw (CX:CXT) (X:Cx) (E:XK):Prop:=∀(pins:List (Addr×Obj)) (σ:St) (H:Hp) (s:Shared) (e:Value) (s':Shared),Inv X pins σ H s->CX X.stack H s E e s'->X.xe e s'
section
variable {X:Cx}{CX:CXT}{k:Nat}{f C:Addr}{fd:FuncData}{ps:List Str}{sp:Sp}{dvs:List V}{ds:List Value}{E:XK}{x:Str}{p pos:Pos}{e:Expr}{es:List Expr}{t:TA}
theorem ZbC {pins:List (Addr×Obj)}{σ:St}{H:Hp}{s:Shared}{Q:VK}{us:List Value}{vs:List V} (F:Jd X.prog X.w X.K X.mg X.base CX k f fd ps sp) (hr:Vu k X.A) (hb:UK X.K fd ps ds) (hd:ZT dvs ds) (hx:Zcw CX X E)
  (I:Inv X pins σ H s) (r:ZT vs us) (h:sp (vs++dvs) H Q E):wpAny (model X.prog X.w) X.A (call (.ref f) us) (EP X pins σ Q) X.xe s:=by
 have r2:ZT (vs++dvs) (us++ds):=r.append hd
 have hl:(us++ds).length=ps.length:=by rw[<- r2.length];exact F.len _ _ _ _ h
 refine wpAny_call (codeAny_mono (F.run X.A X.stack s H ⟨us,[]⟩ (us++ds) (vs++dvs) Q E hr I.env0 (hb s us I.kIn hl) r2 h) fun r s' hq=>?_)
 cases r with
 |error e=>exact hx pins σ H s e s' I hq
 |ok fl =>
  cases fl with
  |ret u=>exact I.after hq
  |next=>exact False.elim hq
  |brk=>exact False.elim hq
  |cont=>exact False.elim hq
theorem ZiM (F:Jd X.prog X.w X.K X.mg X.base CX k f fd ps sp) (hr:Vu k X.A) (hg:Gl X x) (hm:X.mg x=some (.ref f)) (hk:PySem.W.keepIn X.K (.ref f)=true) (hb:UK X.K fd ps ds) (hd:ZT dvs ds) (hx:Zcw CX X E)
  (ha:PA X (e::es) t) (hdb:(x==("__debug__":Str))=false:=by decide) (he:starEach (e::es) X.env=(false,eval e X.env)::starEach es X.env:=by rfl) (hpl:(backTo pos (starEach es X.env)).any (·.1)=false:=by rfl) :
  PE X (.Call (.Name x p) (e::es) [] pos) (Zkc sp dvs E t):=by
 intro pins s σ H Q I h
 refine wpAny_Call_Name_kw (Ua I hg hm ?_ hdb)
 refine PySem.W.callWith_K (h₀:=X.base) I.ok.mod.kin hk (thn (ha pos pins s σ H _ I h) fun us s1 ⟨vs,H1,I1,r,q⟩=>⟨I1.kIn, ?_⟩) he hpl
 exact ZbC F hr hb hd hx I1 r q
theorem ZgZ (F:Jd X.prog X.w X.K X.mg X.base CX k f fd ps sp) (hr:Vu k X.A) (hg:Gl X x) (hm:X.mg x=some (.ref f)) (hk:PySem.W.keepIn X.K (.ref f)=true) (hb:UK X.K fd ps ds) (hd:ZT dvs ds) (hx:Zcw CX X E)
  (hdb:(x==("__debug__":Str))=false:=by decide):PE X (.Call (.Name x p) [] [] pos) (Zkc sp dvs E Zcx):=by
 intro pins s σ H Q I h
 refine wpAny_Call_Name_kw (Ua I hg hm ?_ hdb)
 exact PySem.W.callWith_K0 I.kIn hk (ZbC (us:=[]) F hr hb hd hx I .nil h)
structure Mk (K:PySem.W.Frag) (C f:Addr):Prop where
 makes:PySem.W.makesIn K C=true
 init:PySem.W.findIn K (.ref C) "__init__"=some (some (.ref f))
 fn:PySem.W.isFn K (.ref f)=true
 kp:PySem.W.keepIn K (.ref C)=true
theorem ZgT {pins:List (Addr×Obj)}{σ:St}{H:Hp}{s:Shared}{Q:VK}{us:List Value}{vs:List V} (M:Mk X.K C f) (F:Jd X.prog X.w X.K X.mg X.base CX k f fd ps sp) (hr:Vu (k+1) X.A) (hb:UK X.K fd ps ds) (hd:ZT dvs ds)
  (hx:Zcw CX X E) (I:Inv X pins σ H s) (r:ZT vs us)
  (h:∀x dx,H x=none->H dx=none->dx≠x->sp (.ref x::(vs++dvs)) (upd (upd H dx (.own x)) x (.ins C dx [])) (fun v H2=>v=.non/\Q (.ref x) H2) E) :
  wpAny (model X.prog X.w) X.A (call (.ref C) us) (EP X pins σ Q) X.xe s:=by
 have hq:=h (s.heap.objs.size+1) s.heap.objs.size (I.hok.fresh (Nat.le_succ _)) (I.hok.fresh (ZtD _)) (ZtP (Zus _))
 have I2:=Inv.made (C:=C) I
 have r2:ZT (V.ref (s.heap.objs.size+1)::(vs++dvs)) (Value.ref (s.heap.objs.size+1)::(us++ds)):=.cons rfl (r.append hd)
 have hl:(Value.ref (s.heap.objs.size+1)::us++ds).length=ps.length:=by
  have e:=r2.length
  rw[F.len _ _ _ _ hq] at e
  exact e.symm
 refine wpAny_call (Zhq (f:=f) I.kIn M.makes M.init (beq_iff_eq.mp M.fn) (codeAny_mono (F.run _ X.stack _ _ ⟨Value.ref (s.heap.objs.size+1)::us,[]⟩ (Value.ref (s.heap.objs.size+1)::(us++ds)) _ _ E (hr.make C us [])
  (I2.env0.make C us []) (hb _ (Value.ref (s.heap.objs.size+1)::us) I2.kIn hl) r2 hq) fun r s' hq'=>?_))
 cases r with
 |error e=>exact hx pins σ _ _ e s' I2 hq'
 |ok fl =>
  cases fl with
  |ret u =>
   obtain⟨v,H',I3,rv,ev,q3⟩:=I2.after hq'
   subst ev
   exact⟨rv,⟨V.ref (s.heap.objs.size+1),H',I3,rfl,q3⟩⟩
  |next=>exact False.elim hq'
  |brk=>exact False.elim hq'
  |cont=>exact False.elim hq'
end
structure Zs (N P:List Str) (sc:Scope):Prop where
 kind:sc.kind=.function
 co:sc.isCoroutine=false
 gen:sc.isGenerator=false
 nd:N.Nodup
 pre:N.take P.length=P
 par:∀x∈P,sc.names.lookup x=some .local\/sc.names.lookup x=some .cell
 nofree:∀y∈sc.names,y.2≠.free
theorem Zcr {kindOf:Str->Option NameKind}{x:Str}:∀{binds:List (Str×Value)}{m:Str->Option Value},(∀v,(x,v) ∉ binds)->bindL kindOf binds m x=m x
 |[],_,_=>rfl
 |(n,v)::r,m,h=>by
  unfold bindL
  rw[Zcr fun w hw=>h w (ZtM _ hw)]
  split
  ·have:x≠n:=by rintro rfl;exact h v Zuc
   simp[this]
  ·rfl
theorem Zct {kindOf:Str->Option NameKind}{x:Str}:∀{binds:List (Str×Value)}{m:Str->Option Value},(∀v,(x,v) ∉ binds)->bindC kindOf binds m x=m x
 |[],_,_=>rfl
 |(n,v)::r,m,h=>by
  unfold bindC
  rw[Zct fun w hw=>h w (ZtM _ hw)]
  split
  ·rfl
  ·have:x≠n:=by rintro rfl;exact h v Zuc
   simp[this]
theorem Zcs {kindOf:Str->Option NameKind}{x:Str}{v:Value}:∀{P:List Str}{vs:List Value}{i:Nat}{m:Str->Option Value},P.Nodup->P[i]?=some x->vs[i]?=some v->kindOf x=some .local ->
  bindL kindOf (P.zip vs) m x=some v
 |[],_,_,_,_,h,_,_=>by simp at h
 |_::_,[],_,_,_,_,h,_=>by simp at h
 |p::P,w::vs,0,m,nd,h1,h2,hk=>by
  simp at h1 h2;subst h1;subst h2
  show bindL kindOf ((p,w)::P.zip vs) m p=_
  unfold bindL
  rw[Zcr fun v hv=>(ZuA.mp nd).1 (ZuK hv).1,if_pos hk]
  simp
 |p::P,w::vs,i+1,m,nd,h1,h2,hk=>by
  show bindL kindOf ((p,w)::P.zip vs) m x=_
  unfold bindL
  exact Zcs (i:=i) (ZuA.mp nd).2 (by simpa using h1) (by simpa using h2) hk
theorem Zcu {kindOf:Str->Option NameKind}{x:Str}{v:Value}:∀{P:List Str}{vs:List Value}{i:Nat}{m:Str->Option Value},P.Nodup->P[i]?=some x->vs[i]?=some v->kindOf x≠some .local ->
  bindC kindOf (P.zip vs) m x=some v
 |[],_,_,_,_,h,_,_=>by simp at h
 |_::_,[],_,_,_,_,h,_=>by simp at h
 |p::P,w::vs,0,m,nd,h1,h2,hk=>by
  simp at h1 h2;subst h1;subst h2
  show bindC kindOf ((p,w)::P.zip vs) m p=_
  unfold bindC
  rw[Zct fun v hv=>(ZuA.mp nd).1 (ZuK hv).1,if_neg hk]
  simp
 |p::P,w::vs,i+1,m,nd,h1,h2,hk=>by
  show bindC kindOf ((p,w)::P.zip vs) m x=_
  unfold bindC
  exact Zcu (i:=i) (ZuA.mp nd).2 (by simpa using h1) (by simpa using h2) hk
noncomputable def VN (N:List Str) (vs:List V):St:=vs.map some++List.replicate (N.length-vs.length) none
noncomputable def Zby (CX:CXT) (P:Program) (w:World) (K:W.Frag) (mg:Str->Option Value) (base:Heap) (N:List Str) (qual:Str) (scope:Scope) (f:Addr) (cd:Value) (A:Around) (outer:List Env) (s:Shared) (H:Hp) (E:XK):Cx where
 prog:=P
 w:=w
 K:=K
 mg:=mg
 base:=base
 A:=A.deeper (envOfC qual scope s.heap.objs.size f cd)
 N:=N
 s₀:=s
 H₀:=H
 env:=envOfC qual scope s.heap.objs.size f cd
 outer:=outer
 stack:=envOfC qual scope s.heap.objs.size f cd::outer
 ex:=[]
 calm:=true
 fn:=fun _=>true
 pn:=[]
 xe:=fun e s'=>wpAny (model P w) (A.deeper (envOfC qual scope s.heap.objs.size f cd)) (leaving (envOfC qual scope s.heap.objs.size f cd) e) (fun _ s''=>CX outer H s E e s'') (fun e' s''=>CX outer H s E e' s'') s'
theorem Zea {sc:Scope}{n:Nat}{x:Str} (h:sc.names.lookup x=some .cell):∃c,(cellsFrom n sc.names []).lookup x=some c:=by
 have q:=PySem.W.cellsFrom_some sc.names n [] (.inl h)
 exact Zuz.mp q
theorem ZfM {CX:CXT}{P:Program}{w:World}{K:W.Frag}{mg:Str->Option Value}{base:Heap}{N ps:List Str}{qual:Str}{scope:Scope}{f:Addr}{cd:Value}{A:Around}{outer:List Env}{s s1:Shared}{H:Hp}{E:XK}{us:List Value}{vs:List V}
  (S:Zs N ps scope) (hd:A.handled=none) (e0:ZjF P w K mg base A outer s H) (hl:vs.length=ps.length) (r:ZT vs us)
  (x:InCallC s s.heap.objs.size (bindL (envOfC qual scope s.heap.objs.size f cd).kindOf (ps.zip us) fun _=>none) (cellsFrom (s.heap.objs.size+1) scope.names []) (bindC (envOfC qual scope s.heap.objs.size f cd).kindOf (ps.zip us) fun _=>none) s1) :
  Inv (Zby CX P w K mg base N qual scope f cd A outer s H E) [] (VN N vs) H s1:=by
 have hpl:ps.length<=N.length:=by have:=congrArg List.length S.pre;rw[Zu4] at this;omega
 obtain⟨h1,tk,rfl,hk⟩:=x.done
 have noA:∀b:Addr,b ∉ (Zby CX P w K mg base N qual scope f cd A outer s H E).ex:=fun b z=>absurd (show b∈([]:List Addr) from z) (by simp)
 refine⟨⟨e0.mod,S.kind,rfl,rfl,ZtD _,fun y z c h1 h2=>?_,fun y hy=>?_,fun y c _ h=>?_,fun _=>hd,Around.frames_deeper e0.frames,.inr ⟨rfl,rfl⟩,fun b z=>absurd z (noA b),e0.bs,e0.bsz,fun b _ _=>noA b,fun b z=>absurd z (noA b),e0.funs,e0.frf⟩,
  rfl,e0.bare,Un.kept hk,⟨_,x.toInCall.ns,fun i y v h1 h2 h3=>?_⟩,fun y c h=>⟨_,x.cell y c h⟩,e0.hok.fresh (ZtD _),fun y c h=>?_,fun p hp=>absurd (show p∈([]:List (Addr×Obj)) from hp) (by simp),e0.hok.kept hk, ?_⟩
 ·exact name_of_addr x.apart (PySem.mem_of_lookup h1) (PySem.mem_of_lookup h2)
 ·have hy:scope.names.lookup y=some .cell\/scope.names.lookup y=some .free:=hy
  rcases hy with hy|hy
  ·exact Zea hy
  ·exact absurd rfl (S.nofree _ (PySem.mem_of_lookup hy))
 ·exact Nat.le_of_lt (x.above y c (PySem.mem_of_lookup h))
 ·have hi:i<vs.length:=by
   unfold VN at h2
   by_cases hi:i<vs.length
   ·exact hi
   ·rw[ZtQ (by simpa using hi)] at h2
    rw[List.getElem?_replicate] at h2
    split at h2<;>cases h2
  have ha:vs[i]?=some v:=by
   unfold VN at h2
   rw[ZtG (by simpa using hi),ZtL] at h2
   cases e:vs[i]? with
   |none=>rw[e] at h2;cases h2
   |some a=>rw[e] at h2;cases h2;rfl
  obtain⟨u,hu,rv⟩:=r.get ha
  have hp:ps[i]?=some y:=by
   rw[<- S.pre,List.getElem?_take_of_lt (by omega)];exact h1
  have ndP:ps.Nodup:=by rw[<- S.pre];exact S.nd.sublist (List.take_sublist _ _)
  refine⟨u,rv, ?_⟩
  rcases S.par y (Zug hp) with k|k
  ·exact .inl ⟨k,Zcs ndP hp hu k⟩
  ·obtain⟨c,e⟩:=Zea (n:=s.heap.objs.size+1) k
   refine .inr ⟨.inl k,c,e, ?_⟩
   have q:=x.cell y c e
   rw[Zcu ndP hp hu (by show scope.names.lookup y≠_;rw[k];decide)] at q
   exact q
 ·exact e0.hok.fresh (Nat.le_of_lt (x.above y c (PySem.mem_of_lookup h)))
 ·unfold VN
  show _=N.length
  rw[Zud,Zt7,List.length_replicate]
  omega
theorem ZkS {CX:CXT}{P:Program}{w:World}{K:W.Frag}{mg:Str->Option Value}{base:Heap}{k:Nat}{f:Addr}{name qual:Str}{params:Arguments}{body:List Stmt}{scope:Scope}{dV kV doc pm cdv ct oc:Value}{an od:Option Addr}
  {osl:Array (Option Value)}{N ps:List Str}{sp:Sp} (lk:K.lookup f=some ⟨oc,od,.func (PySem.W.fnOf name qual params body scope dV kV doc pm an cdv ct),osl⟩) (hcd:PySem.W.codeIn K cdv qual=true) (S:Zs N ps scope)
  (len:∀vs H Q E,sp vs H Q E->vs.length=ps.length)
  (hbody:∀(A:Around) (outer:List Env) (s:Shared) (H:Hp) (vs:List V) (Q:VK) (E:XK),Vu k (A.deeper (envOfC qual scope s.heap.objs.size f cdv))->sp vs H Q E ->
   ∃t,PSs (Zby CX P w K mg base N qual scope f cdv A outer s H E) body t/\t { nx:=fun _ H'=>Q .non H',rt:=Q } (VN N vs) H) :
  Jd P w K mg base CX (k+1) f (PySem.W.fnOf name qual params body scope dV kV doc pm an cdv ct) ps sp:=by
 refine⟨len,fun A outer s H args us vs Q E hr e0 hb r hsp=>?_⟩
 have hl:=len _ _ _ _ hsp
 have KX:K.In s.heap:=e0.mod.kin.keeps fun b o e=>(e0.bs b o e).1
 have lim:s.heap.NoLimit:=e0.mod.nolimit.keeps fun b o e=>(e0.bs b o e).1
 have hkind:∀y∈ps.zip us,scope.names.lookup y.1=some .local\/(scope.names.lookup y.1=some .cell/\((cellsFrom (s.heap.objs.size+1) scope.names []).lookup y.1).isSome=true):=fun⟨n,v⟩ hy=>by
  rcases S.par n (ZuK hy).1 with q|q
  ·exact .inl q
  ·exact .inr ⟨q,PySem.W.cellsFrom_some _ _ _ (.inl q)⟩
 refine codeAny_call_function hr.depth (KX _ _ lk) rfl S.co S.gen rfl (PySem.W.codeRec_of KX hcd) (hb _ _ _ _ ?_)
 refine wpAny_newFunctionEnv_cells S.kind hkind fun env he s1 x=>?_
 subst he
 refine⟨lim.keeps x.toInCall.keep,codeAny_func ?_⟩
 obtain⟨t,ht,hq⟩:=hbody A outer s H vs Q E (hr.deeper _) hsp
 have I:Inv (Zby CX P w K mg base N qual scope f cdv A outer s H E) [] (VN N vs) H s1:=ZfM S hr.hd e0 hl r x
 refine wpAny_mono (ht [] s1 (VN N vs) H _ I hq) (fun fl s' hs=>?_) fun e s' hs=>hs
 have fin:∀{σ':St}{H':Hp}{v:V}{u:Value},Inv (Zby CX P w K mg base N qual scope f cdv A outer s H E) [] σ' H' s'->Jp v u->Q v H'->CE outer P w H s Q u s':=
  fun {σ' H' v u} J rv q=>⟨v,H',J.os,J.bare,J.base,J.hok,rv,q⟩
 cases fl with
 |ret u =>
  obtain⟨v,σ',H',J,rv,q⟩:=hs
  exact fin J rv q
 |next =>
  obtain⟨σ',H',J,q⟩:=hs
  exact fin (v:=V.non) (u:=Value.none) J rfl q
 |brk =>
  obtain⟨_,_,_,q⟩:=hs
  exact False.elim q
 |cont =>
  obtain⟨_,_,_,q⟩:=hs
  exact False.elim q
section
variable {X:Cx}{x:Str}{p pos:Pos}{e:Expr}{es:List Expr}{t:TA}{id T:String}{r:List V->Hp->VK->Prop}
noncomputable def tCB (r:List V->Hp->VK->Prop) (t:TA):TE:=fun σ H Q=>t σ H fun vs H1=>r vs H1 Q
theorem Zv (hc:Vg X (.builtin id) r) (hg:Gl X x) (hm:X.mg x=none) (hv:bootBuiltins x=some (.builtin id)) (ha:PA X (e::es) t) (hn:x ≠ "__name__":=by decide) (hdb:(x==("__debug__":Str))=false:=by decide)
  (he:starEach (e::es) X.env=(false,eval e X.env)::starEach es X.env:=by rfl) (hpl:(backTo pos (starEach es X.env)).any (·.1)=false:=by rfl):PE X (.Call (.Name x p) (e::es) [] pos) (tCB r t):=by
 intro pins s σ H Q I h
 refine wpAny_Call_Name_kw (Za6 I hg hm hv ?_ hn hdb)
 exact PyProof.Rows.callWith_builtin1 (thn (ha pos pins s σ H _ I h) fun us s1 ⟨vs,H1,I1,r1,q1⟩=>hc pins s1 σ H1 vs us Q I1 r1 q1) he hpl
theorem J1 (hc:Vg X (.type T) r) (hg:Gl X x) (hm:X.mg x=none) (hv:bootBuiltins x=some (.type T)) (ha:PA X (e::es) t) (hn:x ≠ "__name__":=by decide) (hdb:(x==("__debug__":Str))=false:=by decide)
  (he:starEach (e::es) X.env=(false,eval e X.env)::starEach es X.env:=by rfl) (hpl:(backTo pos (starEach es X.env)).any (·.1)=false:=by rfl):PE X (.Call (.Name x p) (e::es) [] pos) (tCB r t):=by
 intro pins s σ H Q I h
 refine wpAny_Call_Name_kw (Za6 I hg hm hv ?_ hn hdb)
 exact PyProof.Rows.callWith_type1 (thn (ha pos pins s σ H _ I h) fun us s1 ⟨vs,H1,I1,r1,q1⟩=>hc pins s1 σ H1 vs us Q I1 r1 q1) he hpl
end
end L2
namespace HT
open PySem PyProof.Rows
noncomputable def ZbU:List Int->List Int->Bool
 |[],[]=>false
 |[],_::_=>true
 |_::_,[]=>false
 |x::xs,y::ys=>if x=y then ZbU xs ys else decide (x<y)
theorem Zeu (x y:Int) (xs ys:List Int):ZbU (x::xs) (y::ys)=if x=y then ZbU xs ys else decide (x<y):=rfl
section
open PySem.SeqAt
open PySem.AutoSeq1 (wpAny_loadPart')
open PySem.MeetsSeq PySem.MeetsSeq2 PySem.MeetsSeq3
end
section
noncomputable def sIx (n d:Nat):Option Int->Nat
 |none=>d
 |some v=>if v<0 then (v+(n:Int)).toNat else min v.toNat n
end
end HT
namespace L2
open PySem PySem.Spec PyProof.Rows
noncomputable abbrev TO:=St->Hp->(Option Int->Hp->Prop)->Prop
def PO (X:Cx) (e:Option Expr) (t:TO):Prop:=
 ∀(pins:List (Addr×Obj)) (s:Shared) (σ:St) (H:Hp) (Q:Option Int->Hp->Prop),Inv X pins σ H s->t σ H Q ->
  wpAny (model X.prog X.w) X.A (evalPart e X.env) (fun u s'=>∃o H',Inv X pins σ H' s'/\IsPart u o/\Q o H') X.xe s
noncomputable def ZeK:TO:=fun _ H Q=>Q none H
noncomputable def ZjW (t:TE):TO:=fun σ H Q=>t σ H fun x H1=>∃i,x=.int i/\Q (some i) H1
theorem Za8 {ns:List Int}:∀{us:List Value},ZT (ns.map V.int) us->IntsAre us ns:=by
 induction ns with
 |nil=>intro us r;rw[Zu0] at r;cases r;exact .nil
 |cons n ns ih =>
  intro us r
  rw[ZtI] at r
  cases r with
  |cons r1 r2 =>
   obtain⟨t,e⟩:=r1
   subst e
   exact .cons n t (ih r2)
section
variable {X:Cx}{e:Expr}{te:TE}{lo hi:Option Expr}{tl th:TO}{pos p2:Pos}
theorem ZiI:PO X none ZeK:=by
 intro pins s σ H Q I h
 rw[evalPart_none]
 exact wpAny_pure ⟨none,H,I,.none,h⟩
theorem ZiH (h:PE X e te):PO X (some e) (ZjW te):=by
 intro pins s σ H Q I hw
 rw[evalPart_some]
 refine thn (h pins s σ H _ I hw) fun u s1 ⟨x,H1,I1,r1,q1⟩=>?_
 obtain⟨i,rfl,q⟩:=q1
 obtain⟨t,rfl⟩:=r1
 exact⟨some i,H1,I1,.int i t,q⟩
def SlR (X:Cx) (r:V->Option Int->Option Int->Hp->VK->Prop):Prop:=
 ∀(pins:List (Addr×Obj)) (s:Shared) (σ:St) (H:Hp) (x:V) (v vl vu:Value) (lo hi:Option Int) (sl:Addr) (Q:VK),Inv X pins σ H s->Jp x v->s.heap.IsSliceOf sl vl vu .none->IsPart vl lo->IsPart vu hi->r x lo hi H Q ->
  ∃T id,typeLookup (.type T) "__getitem__"=pure (some (.builtin id))/\s.TypeIs v T/\wpAny (model X.prog X.w) X.A (getItem v (.ref sl)) (EP X pins σ Q) X.xe s
noncomputable def tSl (r:V->Option Int->Option Int->Hp->VK->Prop) (te:TE) (tl th:TO):TE:=fun σ H Q=>te σ H fun x H1=>tl σ H1 fun l H2=>th σ H2 fun u H3=>r x l u H3 Q
theorem ZgW {r:V->Option Int->Option Int->Hp->VK->Prop} (hr:SlR X r) (he:PE X e te) (hl:PO X lo tl) (hu:PO X hi th):PE X (.Subscript e (.Slice lo hi none p2) pos) (tSl r te tl th):=by
 intro pins s σ H Q I h
 refine Subscript_ (thn (he pins s σ H _ I h) fun v s1 ⟨x,H1,I1,r1,q1⟩=>?_)
 refine wpAny_Slice (thn (hl pins s1 σ H1 _ I1 q1) fun vl s2 ⟨l,H2,I2,pl,q2⟩=>thn (hu pins s2 σ H2 _ I2 q2) fun vu s3 ⟨u,H3,I3,pu,q3⟩=>?_)
 rw[evalPart_none]
 refine wpAny_pure ?_
 have I4:Inv X pins σ H3 { s3 with heap:=s3.heap.push { cls:=.type "slice",data:=.fields #[vl,vu,.none] } }:=I3.kept (t':=s3.toks) fun b ob q=>Heap.get?_push_of_some _ q
 obtain⟨T,id,hT,ht,hg⟩:=hr pins { s3 with heap:=s3.heap.push { cls:=.type "slice",data:=.fields #[vl,vu,.none] } } σ H3 x v vl vu l u s3.heap.objs.size Q I4 r1 (Heap.IsSliceOf.new ..) pl pu q3
 show wpAny (model X.prog X.w) X.A (subscriptTail e (.Slice lo hi none p2) v (.ref s3.heap.objs.size)) (EP X pins σ Q) X.xe { s3 with heap:=s3.heap.push { cls:=.type "slice",data:=.fields #[vl,vu,.none] } }
 exact tail_any (ops:=[.ref s3.heap.objs.size,v]) ht hT hg (by with_unfolding_all rfl)
noncomputable def ZjN (xs:List V) (lo hi:Option Int):List V:=(xs.drop (HT.sIx xs.length 0 lo)).take (HT.sIx xs.length xs.length hi-HT.sIx xs.length 0 lo)
theorem ZcS (xs:List V) (lo hi:Option Int):(ZjN xs lo hi).length<=xs.length:=by
 unfold ZjN
 rw[Zu4,List.length_drop]
 omega
end
noncomputable def ixN (n:Nat) (i:Int):Option Nat:=if 0<=i then (if i<n then some i.toNat else none) else if -(n:Int)<=i then some (i+n).toNat else none
noncomputable def atI {α:Type} (xs:List α) (i:Int):Option α:=(ixN xs.length i).bind fun j=>xs[j]?
theorem ZfJ {n:Nat}{i:Int}{j:Nat} (h:ixN n i=some j):seqIndex? i n=some j/\j<n/\-(n:Int)<=i/\i<n:=by
 unfold ixN at h
 by_cases h0:0<=i
 ·rw[if_pos h0] at h
  by_cases h1:i<n
  ·rw[if_pos h1] at h
   have e:i.toNat=j:=Option.some.inj h
   exact⟨by rw[seqIndex_of h0 h1,e],by omega,by omega,h1⟩
  ·rw[if_neg h1] at h;cases h
 ·rw[if_neg h0] at h
  by_cases h1:-(n:Int)<=i
  ·rw[if_pos h1] at h
   have e:(i+n).toNat=j:=Option.some.inj h
   exact⟨by rw[seqIndex_neg (by omega) h1,e],by omega,h1,by omega⟩
  ·rw[if_neg h1] at h;cases h
theorem Zbu {α:Type}{xs:List α}{i:Int}{v:α} (h:atI xs i=some v):∃j,seqIndex? i xs.length=some j/\xs[j]?=some v/\j<xs.length/\-(xs.length:Int)<=i/\i<xs.length:=by
 unfold atI at h
 cases e:ixN xs.length i with
 |none=>rw[e] at h;cases h
 |some j =>
  rw[e] at h
  obtain⟨h1,h2,h3,h4⟩:=ZfJ e
  exact⟨j,h1,h,h2,h3,h4⟩
def ZjA (b:Expr):Prop:=∀o i,subscripted b false o i=operate [o,i] (getItem o i)
def IxR (X:Cx) (r:R2):Prop:=
 ∀(value slice:Expr) (pins:List (Addr×Obj)) (s:Shared) (σ:St) (H:Hp) (x y:V) (v u:Value) (Q:VK),Inv X pins σ H s->Jp x v->Jp y u->r x y H Q ->
  subscripted slice false v u=operate [v,u] (getItem v u)->wpAny (model X.prog X.w) X.A (subscriptTail value slice v u) (EP X pins σ Q) X.xe s
def MtR (X:Cx) (id:String) (r:V->List V->Hp->VK->Prop):Prop:=
 ∀(pins:List (Addr×Obj)) (s:Shared) (σ:St) (H:Hp) (x:V) (xs:List V) (v:Value) (us:List Value) (Q:VK),Inv X pins σ H s->Jp x v->ZT xs us->r x xs H Q ->
  wpAny (model X.prog X.w) X.A (call (.builtin id) (v::us)) (EP X pins σ Q) X.xe s
section
variable {X:Cx}{a b:Expr}{ta tb:TE}{pos:Pos}
theorem IxR.or {r r':R2} (h:IxR X r) (h':IxR X r'):IxR X (fun x y H Q=>r x y H Q\/r' x y H Q):=by
 intro value slice pins s σ H x y v u Q I rx ry q hs
 rcases q with q|q
 ·exact h value slice pins s σ H x y v u Q I rx ry q hs
 ·exact h' value slice pins s σ H x y v u Q I rx ry q hs
theorem ZO {r:R2} (hr:IxR X r) (ha:PE X a ta) (hb:PE X b tb) (hs:ZjA b):PE X (.Subscript a b pos) (tOp r ta tb):=by
 intro pins s σ H Q I h
 exact Subscript_ (ZmC ha hb I h fun v u s2 x y H2 I2 rx ry q=>hr a b pins s2 σ H2 x y v u Q I2 rx ry q (hs _ _))
noncomputable def Zkl (K:W.Frag):R2:=fun x y H Q=>∃p xs i v,x=.ref p/\y=.int i/\SqL K H p xs/\atI xs i=some v/\Q v H
noncomputable def ZmV (K:W.Frag):R2:=fun x y H Q=>∃p xs i v,x=.ref p/\y=.int i/\SqT K H p xs/\atI xs i=some v/\Q v H
noncomputable def ZmW:R2:=fun x y H Q=>∃z i c,x=.str z/\y=.int i/\z.length<=sizeLine/\atI z.cps.toList i=some c/\Q (.str ⟨#[c]⟩) H
theorem Zjd:IxR X (Zkl X.K):=by
 intro value slice pins s σ H x y v u Q I rx ry h hs
 obtain⟨p,xs,i,z,rfl,rfl,hq,he,q⟩:=h
 cases rx
 obtain⟨t,rfl⟩:=ry
 obtain⟨its,r,pl,hz⟩:=I.list hq
 obtain⟨j,h1,h2,h3,h4,h5⟩:=Zbu he
 obtain⟨w,ew,rw'⟩:=r.get h2
 have hl:=r.length
 have hn:=Za5
 have fin:EP X pins σ Q w s:=⟨z,H,I,rw',q⟩
 by_cases h0:0<=i
 ·have hj:i.toNat=j:=by
   rw[seqIndex_of h0 h5] at h1
   exact Option.some.inj h1
  exact item_listR pl.isList h0 (by omega) (by rw[hj];simpa using ew) fin hs
 ·have hj:(i+(its.toArray.size:Int)).toNat=j:=by
   rw[seqIndex_neg (by omega) h4] at h1
   rw[ZtB,<- hl]
   exact Option.some.inj h1
  exact subscriptTail_builtinR (x:=w) pl.isList.typeIs slot_list_getitem.lookup
   (wpAny_getItem_list_neg (Q:=fun r s'=>r=w/\EP X pins σ Q r s') pl.isList (by omega) (by rw[ZtB]<;>omega) (by omega) (by rw[hj];simpa using ew) ⟨rfl,fin⟩) hs
theorem ZkJ:IxR X (ZmV X.K):=by
 intro value slice pins s σ H x y v u Q I rx ry h hs
 obtain⟨p,xs,i,z,rfl,rfl,hq,he,q⟩:=h
 cases rx
 obtain⟨t,rfl⟩:=ry
 obtain⟨its,r,pl,hz⟩:=I.tuple hq
 obtain⟨j,h1,h2,h3,h4,h5⟩:=Zbu he
 obtain⟨w,ew,rw'⟩:=r.get h2
 have hl:=r.length
 have hn:=Za5
 have fin:EP X pins σ Q w s:=⟨z,H,I,rw',q⟩
 exact subscriptTail_builtinR (x:=w) pl.typeIs slot_tuple_getitem.lookup
  (getItem_tuple (j:=j) (Q:=fun r s'=>r=w/\EP X pins σ Q r s') pl (by omega) (by omega) (by rw[ZtB,<- hl];exact h1) (by simpa using ew) ⟨rfl,fin⟩) hs
theorem ZkK:IxR X ZmW:=by
 intro value slice pins s σ H x y v u Q I rx ry h hs
 obtain⟨z,i,c,rfl,rfl,hz,he,q⟩:=h
 obtain⟨t,rfl⟩:=rx
 obtain⟨t',rfl⟩:=ry
 obtain⟨j,h1,h2,h3,h4,h5⟩:=Zbu he
 have hl:z.cps.toList.length=z.length:=by simp[Str.length]
 rw[hl] at h1 h4 h5
 have hn:=Za5
 exact tail_any (typeIs_str s z t) slot_str_getitem.lookup (getItem_str (c:=c) (by
  have e1:decide (i < -(2^63:Int))=false:=decide_eq_false (by omega)
  have e2:decide (i ≥ 2^63)=false:=decide_eq_false (by omega)
  rw[e1,e2,Bool.or_false]) (by rw[h1];simpa using h2) ⟨.str ⟨#[c]⟩,H,I.tok _,⟨_,rfl⟩,q⟩) hs
noncomputable def rIx (K:W.Frag):R2:=fun x y H Q=>Zkl K x y H Q\/ZmV K x y H Q\/ZmW x y H Q
theorem ZkL:IxR X (rIx X.K):=Zjd.or (ZkJ.or ZkK)
theorem Zer (its:List Value) (n j:Nat) (u:Value):Obj.mapSeq (·.setIfInBounds j u) { cls:=.type "list",data:=.seq its.toArray n }={ cls:=.type "list",data:=.seq (its.set j u).toArray n }:=by
 simp[Obj.mapSeq]
theorem Inv.lst {pins:List (Addr×Obj)}{σ:St}{H:Hp}{s:Shared}{p:Addr}{xs:List V} (I:Inv X pins σ H s) (h:H p=some (.lst xs)) :
  ∃(its:List Value) (n:Nat),ZT xs its/\s.heap.get? p=some { cls:=.type "list",data:=.seq its.toArray n }/\xs.length<=sizeLine:=by
 obtain⟨z,its,n,r,e⟩:=I.hok p _ h
 exact⟨its,n,r,e,z⟩
theorem Inv.lstUpd {pins:List (Addr×Obj)}{σ:St}{H:Hp}{s:Shared}{p:Addr}{xs ys:List V}{its its':List Value}{n n':Nat}{f:Obj->Obj} (I:Inv X pins σ H s) (h:H p=some (.lst xs))
  (ho:s.heap.get? p=some { cls:=.type "list",data:=.seq its.toArray n }) (hf:f { cls:=.type "list",data:=.seq its.toArray n }={ cls:=.type "list",data:=.seq its'.toArray n' }) (r:ZT ys its') (hz:ys.length<=sizeLine) (t:Nat) :
  Inv X pins σ (upd H p (.lst ys)) { s with heap:=s.heap.update p f,toks:=t }:=by
 have e:(s.heap.update p f).get? p=some { cls:=.type "list",data:=.seq its'.toArray n' }:=by
  rw[Heap.get?_update_self f ho (by rw[hf]<;>rfl),hf]
 refine I.write (x:=p) (e:=p) (by rw[h];trivial) (.inl rfl) (fun b u hb q=>(Heap.get?_update_other _ _ (Ne.symm hb)).trans q) ⟨_,e⟩ ?_
 exact⟨hz,its',n',r,e⟩
def ZiD:V->V->V->Hp->(Hp->Prop)->Prop:=fun o i v H Q=>∃p xs k j,o=.ref p/\i=.int k/\H p=some (.lst xs)/\ixN xs.length k=some j/\Q (upd H p (.lst (xs.set j v)))
theorem Vi:ZmE X ZiD:=by
 intro pins s σ H o i v ov iv u Q I ro ri rv h
 obtain⟨p,xs,k,j,rfl,rfl,hp,hj,q⟩:=h
 cases ro
 obtain⟨t,rfl⟩:=ri
 obtain⟨its,n,r,ho,hz⟩:=I.lst hp
 obtain⟨h1,h2,h3,h4⟩:=ZfJ hj
 have hl:=r.length
 have hn:=Za5
 have I':Inv X pins σ (upd H p (.lst (xs.set j v))) { s with heap:=s.heap.update p (Obj.mapSeq (·.setIfInBounds j u)) }:=
  I.lstUpd hp ho (Zer its n j u) (r.set rv j) (by rw[Zul];exact hz) s.toks
 by_cases h0:0<=k
 ·have hk:k.toNat=j:=by
   rw[seqIndex_of h0 h4] at h1
   exact Option.some.inj h1
  exact PySem.W.ki_setAt ho h0 (by omega) (by rw[ZtB,<- hl];exact h4) (by rw[hk];exact⟨_,I',q⟩)
 ·have hk:(k+(its.toArray.size:Int)).toNat=j:=by
   rw[seqIndex_neg (by omega) h3] at h1
   rw[ZtB,<- hl]
   exact Option.some.inj h1
  exact PySem.W.ki_setBack ho (by omega) (by rw[ZtB,<- hl];exact h3) (by omega) (by rw[hk];exact⟨_,I',q⟩)
theorem Zb9 (lo hi:Option Int) (n:Nat):(sliceBounds lo hi none n).1=((HT.sIx n 0 lo:Nat):Int)/\(sliceBounds lo hi none n).2.1=((HT.sIx n n hi:Nat):Int)/\(sliceBounds lo hi none n).2.2=1:=by
 refine⟨?_, ?_,rfl⟩
 ·cases lo with
  |none=>simp[sliceBounds,HT.sIx]
  |some i =>
   simp only[sliceBounds,HT.sIx,Option.getD_none,show (1:Int)>0 by decide,if_true]
   by_cases h:i<0
   ·simp only[h,if_true]<;>omega
   ·simp only[h,if_false]<;>omega
 ·cases hi with
  |none=>simp[sliceBounds,HT.sIx]
  |some i =>
   simp only[sliceBounds,HT.sIx,Option.getD_none,show (1:Int)>0 by decide,if_true]
   by_cases h:i<0
   ·simp only[h,if_true]<;>omega
   ·simp only[h,if_false]<;>omega
theorem ZaN (its:List Value) (lo hi:Option Int):slicePick its.toArray lo hi none=((its.drop (HT.sIx its.length 0 lo)).take (HT.sIx its.length its.length hi-HT.sIx its.length 0 lo)).toArray:=by
 obtain⟨h1,h2,h3⟩:=Zb9 lo hi its.toArray.size
 unfold slicePick
 rw[h1,h2,h3]
 simp only[sliceRange_one,pick_run,ZtB]<;>rfl
def ZlV (K:W.Frag):V->Option Int->Option Int->Hp->VK->Prop:=fun x lo hi H Q=>∃a xs,x=.ref a/\SqL K H a xs/\∀p,H p=none->Q (.ref p) (upd H p (.lst (ZjN xs lo hi)))
theorem ZiA:SlR X (ZlV X.K):=by
 intro pins s σ H x v vl vu lo hi sl Q I rx hs pl pu h
 obtain⟨a,xs,rfl,hx,q⟩:=h
 cases rx
 obtain⟨its,r,ht,hz⟩:=I.list hx
 have hlen:=r.length
 refine⟨"list",_,slot_list_getitem.lookup,ht.isList.typeIs, ?_⟩
 refine wpAny_getItem_list_slice ht.isList hs pl pu .none (by simp) ?_ (by rw[ZtB]<;>omega)
 rw[ZaN,<- hlen]
 refine⟨.ref s.heap.objs.size,_,I.laid (t':=s.toks) (o:=.lst (ZjN xs lo hi)) (fun b ob q=>Heap.get?_push_of_some _ q) (ZtD _) ?_,rfl,q _ (I.hok.fresh (ZtD _))⟩
 exact⟨ZtS (ZcS xs lo hi) hz,_,0,(r.drop (HT.sIx xs.length 0 lo)).take (HT.sIx xs.length xs.length hi-HT.sIx xs.length 0 lo),Heap.get?_push_size _ rfl⟩
theorem Zco:Vg X (.builtin "len") (fun xs H Q=>∃p ys,xs=[.ref p]/\(SqL X.K H p ys\/SqT X.K H p ys)/\Q (.int ys.length) H):=by
 intro pins s σ H xs us Q I r h
 obtain⟨p,ys,rfl,hq,q⟩:=h
 obtain⟨u,rfl,rx⟩:=ZaJ r
 cases rx
 have hn:=Za5
 rcases hq with hq|hq
 ·obtain⟨its,r',pl,hz⟩:=I.list hq
  have hlen:=r'.length
  exact Calls.call_len_list pl.isList (by simp only[ZtB]<;>omega) ⟨.int ys.length,H,I.tok _,⟨s.toks+1,by rw[ZtB,hlen]⟩,q⟩
 ·obtain⟨its,r',pl,hz⟩:=I.tuple hq
  have hlen:=r'.length
  exact len_tuple pl (by simp only[ZtB]<;>omega) ⟨.int ys.length,H,I.tok _,⟨s.toks+1,by rw[ZtB,hlen]⟩,q⟩
theorem Zcn:Vg X (.type "list") (fun xs H Q=>∃p ys,xs=[.ref p]/\(SqL X.K H p ys\/SqT X.K H p ys)/\∀l,H l=none->Q (.ref l) (upd H l (.lst ys))):=by
 intro pins s σ H xs us Q I r h
 obtain⟨p,ys,rfl,hq,q⟩:=h
 obtain⟨u,rfl,rx⟩:=ZaJ r
 cases rx
 have fin:∀(its:List Value),ZT ys its->ys.length<=sizeLine->∀(h':Heap) (c':Nat),(∀b o',s.heap.get? b=some o'->h'.get? b=some o') ->
   h'.get? s.heap.objs.size=some { cls:=.type "list",dict:=none,data:=.seq its.toArray c',slots:=#[] }->EP X pins σ Q (.ref s.heap.objs.size) { s with heap:=h' }:=fun its r' hz h' c' kp e =>
  ⟨.ref s.heap.objs.size,_,I.laid (t':=s.toks) kp (ZtD _) (show Jz X.prog X.w _ h' _ (.lst ys) from ⟨hz,its,c',r',e⟩),rfl,q _ (I.hok.fresh (ZtD _))⟩
 rcases hq with hq|hq
 ·obtain⟨its,r',pl,hz⟩:=I.list hq
  have hlen:=r'.length
  obtain⟨o,ho,hc,n,hd⟩:=pl.isList
  exact call_list_seq p (.inl rfl) ho hc hd (fun h' c' kp e=>fin its r' hz h' c' kp e) (by simp only[ZtB]<;>omega)
 ·obtain⟨its,r',pl,hz⟩:=I.tuple hq
  have hlen:=r'.length
  obtain⟨o,ho,hc,n,hd⟩:=pl
  exact call_list_seq p (.inr rfl) ho hc hd (fun h' c' kp e=>fin its r' hz h' c' kp e) (by simp only[ZtB]<;>omega)
theorem Zbq:Vg X (.type "tuple") (fun xs H Q=>∃p ys,xs=[.ref p]/\((SqL X.K H p ys/\∀l,H l=none->Q (.ref l) (upd H l (.tup ys)))\/(SqT X.K H p ys/\Q (.ref p) H))):=by
 intro pins s σ H xs us Q I r h
 obtain⟨p,ys,rfl,h⟩:=h
 obtain⟨u,rfl,rx⟩:=ZaJ r
 cases rx
 rcases h with ⟨hq,q⟩|⟨hq,q⟩
 ·obtain⟨its,r',pl,hz⟩:=I.list hq
  have hlen:=r'.length
  refine call_tuple_list pl.isList (fun h' kp=>?_) (by simp only[ZtB]<;>omega)
  have I1:Inv X pins σ H { s with heap:=h' }:=I.kept (t':=s.toks) kp
  have I2:Inv X pins σ (upd H h'.objs.size (.tup ys)) { s with heap:=h'.push { cls:=.type "tuple",data:=.seq its.toArray } }:=
   I1.laid (t':=s.toks) (fun b o e=>Heap.get?_push_of_some _ e) (ZtD _) (show Jz X.prog X.w _ _ _ (.tup ys) from ⟨hz,its,r',IsTup.new _ _⟩)
  exact⟨.ref h'.objs.size,_,I2,rfl,q _ (I1.hok.fresh (ZtD _))⟩
 ·obtain⟨its,r',pl,hz⟩:=I.tuple hq
  exact call_tuple_same pl ⟨.ref p,H,I,rfl,q⟩
def tyV (K:W.Frag) (T:String) (x:V) (H:Hp):Prop:=match x with
 |.str _=>T = "str"
 |.int _=>T = "int"
 |.ref p=>(T = "list"/\∃xs,SqL K H p xs)\/(T = "tuple"/\∃o,K.lookup p=some o/\o.cls=.type "tuple"/\o.dict=none) \/
   (T = "dict"/\((∃kvs,H p=some (.dK kvs))\/∃kvs,H p=some (.dT kvs)))\/(T = "set"/\∃S n,H p=some (.set S n))
 |_=>False
theorem ZhU {pins:List (Addr×Obj)}{σ:St}{H:Hp}{s:Shared}{T:String}{x:V}{v:Value} (I:Inv X pins σ H s) (r:Jp x v) (ty:tyV X.K T x H) :
  s.TypeIs v T/\∀a,v=.ref a->∃ob,s.heap.get? a=some ob/\ob.dict=none:=by
 cases x with
 |str z =>
  obtain⟨t,rfl⟩:=r
  cases (show T = "str" from ty)
  exact⟨typeIs_str s z t,fun _ e=>nomatch e⟩
 |int i =>
  obtain⟨t,rfl⟩:=r
  cases (show T = "int" from ty)
  exact⟨typeIs_int s i t,fun _ e=>nomatch e⟩
 |ref p =>
  cases r
  rcases ty with ⟨rfl,xs,hq⟩|⟨rfl,o,hk,hc,hd⟩|⟨rfl,hk⟩|⟨rfl,S,n,hk⟩
  ·obtain⟨its,_,pl,_⟩:=I.list hq
   refine⟨pl.isList.typeIs,fun a e=>?_⟩
   cases e
   obtain⟨o,n,e,c,hd,_⟩:=pl
   exact⟨o,e,hd⟩
  ·refine⟨⟨o,I.kIn p o hk,hc⟩,fun a e=>?_⟩
   cases e
   exact⟨o,I.kIn _ o hk,hd⟩
  ·have z:∃o,s.heap.get? p=some o/\o.ExactDict:=by
    rcases hk with ⟨kvs,hk⟩|⟨kvs,hk⟩
    ·obtain⟨_,_,_,_,o,_,_,e,ex,_⟩:=I.hok p _ hk
     exact⟨o,e,ex⟩
    ·obtain⟨_,_,_,_,o,_,_,e,ex,_⟩:=I.hok p _ hk
     exact⟨o,e,ex⟩
   obtain⟨o,e,ex⟩:=z
   refine⟨⟨o,e,ex.1⟩,fun a e2=>?_⟩
   cases e2
   exact⟨o,e,ex.2.1⟩
  ·obtain⟨o,_,_,_,e,ex,_⟩:=I.hok p _ hk
   refine⟨⟨o,e,ex.1⟩,fun a e2=>?_⟩
   cases e2
   exact⟨o,e,ex.2.1⟩
 |_=>exact False.elim ty
noncomputable def Zl8 (K:W.Frag) (T:String) (r:V->List V->Hp->VK->Prop) (to:TE):TE:=fun σ H Q=>to σ H fun x H1=>tyV K T x H1/\r x [] H1 Q
noncomputable def tBM (K:W.Frag) (T:String) (r:V->List V->Hp->VK->Prop) (to:TE) (t:TA):TE:=fun σ H Q=>to σ H fun x H1=>tyV K T x H1/\t σ H1 fun xs H2=>r x xs H2 Q
variable {o e:Expr}{es:List Expr}{to:TE}{t:TA}{name:Str}{apos cpos:Pos}{T id:String}{r:V->List V->Hp->VK->Prop}
theorem QF (pa:PlainAttrs T) (slot:Slot T name id) (hty:typeOf (.builtin id)=pure (.type "method_descriptor")) (hm:MtR X id r) (ho:PE X o to)
  (hbase:attributeBase o name X.env (eval o X.env)=eval o X.env:=by rfl) (hline:(apos.endLine==cpos.line)=true:=by rfl):PE X (.Call (.Attribute o name apos) [] [] cpos) (Zl8 X.K T r to):=by
 intro pins s σ H Q I h
 refine wpAny_Call_method0_late hbase hline (thn (ho pins s σ H _ I h) fun v s1 ⟨x,H1,I1,r1,ty,q1⟩=>?_)
 obtain⟨h1,h2⟩:=ZhU I1 r1 ty
 exact⟨T,id,pa,slot,hty,h1,h2,Calls.callWith_builtin rfl (PySem.evalArgs_none (hm pins s1 σ H1 x [] v [] Q I1 r1 .nil q1))⟩
theorem Vr (pa:PlainAttrs T) (slot:Slot T name id) (hty:typeOf (.builtin id)=pure (.type "method_descriptor")) (hm:MtR X id r) (ho:PE X o to) (ha:PA X (e::es) t)
  (hbase:attributeBase o name X.env (eval o X.env)=eval o X.env:=by rfl)
  (hfew:((backTo cpos (starEach (e::es) X.env)).all (fun x=>!x.1)&&(backToKw cpos (keywordEach [] X.env)).all (fun x=>x.1.isSome)
   && decide ((e::es).length+([]:List Keyword).length+(if ([]:List Keyword).isEmpty then 0 else 1)<30))=true:=by rfl)
  (hline:(apos.endLine==cpos.line)=true:=by rfl) (hs:starEach (e::es) X.env=(false,eval e X.env)::starEach es X.env:=by rfl) (hplain:(backTo cpos (starEach es X.env)).any (·.1)=false:=by rfl) :
  PE X (.Call (.Attribute o name apos) (e::es) [] cpos) (tBM X.K T r to t):=by
 intro pins s σ H Q I h
 refine wpAny_Call_method_late hbase hfew hline rfl (thn (ho pins s σ H _ I h) fun v s1 ⟨x,H1,I1,r1,ty,q1⟩=>?_)
 obtain⟨h1,h2⟩:=ZhU I1 r1 ty
 refine⟨T,id,pa,slot,hty,h1,h2, ?_⟩
 have hA:=ha cpos pins s1 σ H1 _ I1 q1
 rw[hs] at hA ⊢
 refine Calls.callWith_builtin (by show (false || (backTo cpos (starEach es X.env)).any (·.1))=false;rw[hplain]<;>rfl) (Calls.evalArgs_plain ?_)
 exact thn hA fun us s2 ⟨vs,H2,I2,r2,q2⟩=>hm pins s2 σ H2 x vs v us Q I2 r1 r2 q2
end
def MtM (X:Cx) (id:String) (r:V->List V->Hp->VK->Prop):Prop:=
 ∀(pins:List (Addr×Obj)) (s:Shared) (σ:St) (H:Hp) (x:V) (xs:List V) (v:Value) (us:List Value) (Q:VK),Inv X pins σ H s->Jp x v->ZT xs us->r x xs H Q ->
  wpAny (model X.prog X.w) X.A (call (.builtin id) (v::us)) (EP X pins σ Q) X.xe s
theorem ZT.one:∀{x:V}{us:List Value},ZT [x] us->∃u,us=[u]/\Jp x u
 |_,_,.cons r .nil=>⟨_,rfl,r⟩
theorem ZT.zero:∀{us:List Value},ZT [] us->us=[]
 |_,.nil=>rfl
theorem ZT.dropLast {xs:List V}{us:List Value} (h:ZT xs us):ZT xs.dropLast us.dropLast:=by
 induction h with
 |nil=>exact .nil
 |cons r t ih =>
  cases t with
  |nil=>exact .nil
  |cons q t'=>exact .cons r ih
theorem ZT.rep {xs:List V}{us:List Value} (h:ZT xs us):∀k:Nat,ZT (List.replicate k xs).flatten (List.replicate k us).flatten
 |0=>.nil
 |k+1=>by
  rw[ZtY,ZtY,Zup,Zup]
  exact ZT.append h (ZT.rep h k)
theorem Ze2 {α:Type} (l:List α):l.eraseIdx (l.length-1)=l.dropLast:=by
 induction l with
 |nil=>rfl
 |cons a r ih =>
  cases r with
  |nil=>rfl
  |cons b r =>
   have e:(a::b::r).length-1=((b::r).length-1)+1:=by
    have h1:(a::b::r).length=r.length+2:=rfl
    have h2:(b::r).length=r.length+1:=rfl
    omega
   rw[e,List.eraseIdx_cons_succ,ih]
   all_goals rfl
theorem Zce (its:List Value):∀(k:Nat) (acc:List Value),
  List.foldl (fun x1 x2=>x1++x2) acc.toArray (List.replicate k its.toArray)=(acc++(List.replicate k its).flatten).toArray
 |0,acc=>by simp
 |k+1,acc=>by
  have e:acc.toArray++its.toArray=(acc++its).toArray:=by simp
  have e2:(acc++its)++(List.replicate k its).flatten=acc++(List.replicate (k+1) its).flatten:=by
   rw[ZtY,Zup,ZuF]
  rw[<- e2,<- Zce its k (acc++its),<- e,ZtY,List.foldl_cons]
section
variable {X:Cx}{pins:List (Addr×Obj)}{σ:St}{H:Hp}{s:Shared}{l:Addr}{xs ys:List V}
theorem Inv.lset {its its':List Value}{n:Nat}{f:Array Value->Array Value}{t':Nat} (I:Inv X pins σ H s) (hH:H l=some (.lst xs))
  (e:s.heap.get? l=some { cls:=.type "list",data:=.seq its.toArray n }) (hf:f its.toArray=its'.toArray) (hv:ZT ys its') (hz:ys.length<=sizeLine) :
  Inv X pins σ (upd H l (.lst ys)) { s with heap:=s.heap.update l (Obj.mapSeq f),toks:=t' }:=by
 have q:=PySem.IsL.update e f
 rw[hf] at q
 refine I.write (x:=l) (e:=l) (by rw[hH];exact trivial) (.inl rfl) (fun b' u hb hu=>(Heap.get?_update_other s.heap (Obj.mapSeq f) (Ne.symm hb)).trans hu) ⟨_,q⟩ ?_
 exact⟨hz,its',_,hv,q⟩
theorem Inv.lnew {its:List Value}{t':Nat} (I:Inv X pins σ H s) (hv:ZT ys its) (hz:ys.length<=sizeLine) :
  Inv X pins σ (upd H s.heap.objs.size (.lst ys)) { s with heap:=s.heap.push { cls:=.type "list",data:=.seq its.toArray },toks:=t' }:=
 I.laid (fun _ _ q=>Heap.get?_push_of_some _ q) (ZtD _) ⟨hz,its,0,hv,Heap.get?_push_size _ rfl⟩
theorem Inv.fresh (I:Inv X pins σ H s):H s.heap.objs.size=none:=I.hok.fresh (ZtD _)
theorem Inv.lstM (I:Inv X pins σ H s) (hH:H l=some (.lst xs)):xs.length<=sizeLine/\∃(its:List Value) (n:Nat),ZT xs its/\xs.length=its.length/\s.heap.get? l=some { cls:=.type "list",data:=.seq its.toArray n }:=by
 obtain⟨z,its,n,r,e⟩:=I.hok l _ hH
 exact⟨z,its,n,r,r.length,e⟩
theorem Zhn {n:Nat} (h:n<=sizeLine):Builtin.List.listTooLong n=false:=by
 unfold Builtin.List.listTooLong
 exact decide_eq_false (by omega)
end
section
variable {X:Cx}
def ZaP:V->List V->Hp->VK->Prop:=fun x vs H Q=>∃l xs y,x=.ref l/\vs=[y]/\H l=some (.lst xs)/\xs.length<sizeLine/\Q .non (upd H l (.lst (xs++[y])))
theorem ZL:MtM X "list.append" ZaP:=by
 intro pins s σ H x vs v us Q I rx rv h
 obtain⟨l,xs,y,rfl,rfl,hH,hz,q⟩:=h
 cases rx
 obtain⟨u,rfl,ru⟩:=rv.one
 obtain⟨z,its,n,r,hl,e⟩:=I.lstM hH
 refine call_meets F.slot_list_append ⟨_,e,rfl⟩ F.entry_list_append (F.args_list_append_2 _ _) (PySem.list_append l its.toArray n u (by rw[ZtB];omega)) ⟨e, ?_⟩
 refine⟨.non,_,I.lset (its':=its++[u]) hH e (by simp) (r.append (.cons ru .nil)) ?_,rfl,q⟩
 rw[Zud,List.length_singleton]
 omega
def ZlW:V->List V->Hp->VK->Prop:=fun x vs H Q=>∃l xs y,x=.ref l/\vs=[]/\H l=some (.lst xs)/\xs[xs.length-1]?=some y/\Q y (upd H l (.lst xs.dropLast))
theorem Za2:MtM X "list.pop" ZlW:=by
 intro pins s σ H x vs v us Q I rx rv h
 obtain⟨l,xs,y,rfl,rfl,hH,hy,q⟩:=h
 cases rx
 have hus:=rv.zero
 subst hus
 obtain⟨z,its,n,r,hl,e⟩:=I.lstM hH
 obtain⟨u,hu,ru⟩:=r.get hy
 have hy':its.toArray[its.toArray.size-1]?=some u:=by
  show its.toArray[its.length-1]?=some u
  rw[<- Array.getElem?_toList,<- hl]
  exact hu
 refine call_meets F.slot_list_pop ⟨_,e,rfl⟩ F.entry_list_pop (F.args_list_pop_1 _) (MeetsSeq.list_pop_last l its.toArray n u hy' (by rw[ZtB];omega)) ⟨e, ?_⟩
 refine⟨y,_,I.lset (its':=its.dropLast) hH e ?_ r.dropLast ?_,ru,q⟩
 ·show its.toArray.eraseIdxIfInBounds (its.toArray.size-1)=its.dropLast.toArray
  rw[ZtB,List.eraseIdxIfInBounds_toArray,Ze2]
 ·rw[List.length_dropLast]
  omega
def Zid:V->List V->Hp->VK->Prop:=fun x vs H Q=>∃l xs,x=.ref l/\vs=[]/\H l=some (.lst xs)/\Q .non (upd H l (.lst []))
theorem Zhp:MtM X "list.clear" Zid:=by
 intro pins s σ H x vs v us Q I rx rv h
 obtain⟨l,xs,rfl,rfl,hH,q⟩:=h
 cases rx
 have hus:=rv.zero
 subst hus
 obtain⟨z,its,n,r,hl,e⟩:=I.lstM hH
 refine call_meets F.slot_list_clear ⟨_,e,rfl⟩ F.entry_list_clear (F.args_list_clear_1 _) (AutoSeq1.list_clear_list_0 l its.toArray n (by rw[ZtB];omega)) ⟨e, ?_⟩
 exact⟨.non,_,I.lset (its':=[]) (ys:=[]) hH e rfl .nil (Zuk _),rfl,q⟩
noncomputable def ZmU:R2:=fun x y H Q=>∃l k xs,x=.ref l/\y=.int k/\H l=some (.lst xs)/\-(2^63)<=k/\k<2^63/\xs.length*k.toNat<=sizeLine /\
 ∀p,H p=none->Q (.ref p) (upd H p (.lst (List.replicate k.toNat xs).flatten))
theorem ZfB {α:Type} (xs:List α) (k:Nat):(List.replicate k xs).flatten.length=k*xs.length:=by
 induction k with
 |zero=>simp
 |succ k ih=>rw[ZtY,Zup,Zud,ih,Nat.succ_mul,Nat.add_comm]
theorem Zk2:OpR X (binaryOp .Mult) ZmU:=by
 intro pins s σ H x y v u Q I rx ry h
 obtain⟨l,k,xs,rfl,rfl,hH,h1,h2,hz,q⟩:=h
 cases rx
 obtain⟨t,rfl⟩:=ry
 obtain⟨z,its,n,r,hl,e⟩:=I.lstM hH
 have hlen:its.toArray.size*k.toNat<=sizeLine:=by rw[ZtB,<- hl];exact hz
 have hcap:¬its.toArray.size*k.toNat>(2^63-1)/8:=by
  have:(sizeLine:Nat)<=(2^63-1)/8:=by decide
  omega
 have hfit:¬(!Builtin.List.listFitsIndex k)=true:=by
  rw[fitsIndex_both h1 h2]
  exact Bool.false_ne_true
 have hlong:¬Builtin.List.listTooLong (its.toArray.size*k.toNat)=true:=by
  rw[Zhn hlen]
  exact Bool.false_ne_true
 have hnew:List.foldl (fun x1 x2=>x1++x2) #[] (List.replicate (if its.toArray.isEmpty=true then 0 else k.toNat) its.toArray)=(List.replicate k.toNat its).flatten.toArray:=by
  have f0:∀m:Nat,List.foldl (fun x1 x2=>x1++x2) #[] (List.replicate m its.toArray)=(List.replicate m its).flatten.toArray:=fun m=>by
   have:=Zce its m []
   rw[ZuL] at this
   exact this
  rw[f0]
  cases its with
  |nil=>simp
  |cons a r'=>rw[if_neg (by simp)]
 refine wpAny_binaryOp_repeat_ref (T := "list") (U := "int") (by decide) ⟨_,e,rfl⟩ (fun s'=>typeIs_int s' k t) noFill_list_mul F.fills_int_mul F.slot_int_rmul repeat_list F.slot_int_index.lookup
  (call_meets F.slot_int_rmul (typeIs_int s k t) F.entry_int_rmul (F.args_int_rmul_2 _ _) (int___rmul___int_list k t l its.toArray n)
   ⟨e,rfl,⟨_,e,rfl⟩,call_meets F.slot_list_mul ⟨_,e,rfl⟩ F.entry_list_mul (F.args_list_mul_2 _ _) (AutoListH.list___mul___list_int_3 l its.toArray n k t hfit hcap hlong) ⟨e, ?_⟩⟩)
 rw[hnew]
 exact⟨.ref _,_,I.lnew (t':=s.toks) (r.rep k.toNat) (by rw[ZfB,Nat.mul_comm];exact hz),rfl,q _ I.fresh⟩
end
section
set_option maxRecDepth 100000 in
end
section
end
end L2
namespace Att
open PySem PySem.W PySem.Calls PyProof.Rows
theorem QU {P:Params}{h:Heap}:∀(ns:List Int) (vs:List Value),WellAll P h vs (ns.map WData.int)->IntsAre vs ns:=by
 intro ns
 induction ns with
 |nil =>
  intro vs w
  rw[Zu0] at w
  cases w
  exact .nil
 |cons n ns ih =>
  intro vs w
  rw[ZtI] at w
  cases w with
  |cons a b =>
   cases a
   exact .cons _ _ (ih _ b)
theorem ZeY {l:OpenLaw}{n:Nat} (hn:l.most=some n) {P:Params}{h:Heap}{args:List WData}{vals:List Value}
  (hpre:l.row.toRowW.claim.pre args=true) (hwl:WellAll P h vals args) :
  ∃a vs ns,vals=[Value.ref a]/\args=[WData.list (ns.map WData.int)]/\h.get? a=some { cls:=.type "list",data:=.seq vs.toArray }/\IntsAre vs ns/\ns.length<=n:=by
 have hsh:WShape.hasAll [] args [.list .int]=true:=(pre_splitW hpre).1
 have hc:l.pre.holds [] { args:=args }=true:=(pre_splitW hpre).2
 obtain⟨d,r,rfl,h1,h2⟩:=hasAllW_cons hsh
 obtain rfl:=hasAllW_nil h2
 obtain⟨xs,rfl,h3⟩:=hasW_list h1
 obtain⟨ns,rfl⟩:=items_int h3
 have hlen:ns.length<=n:=by
  unfold OpenLaw.pre at hc
  have h4:(WTm.not (.lt (.lit (.int (n:Int))) (.len (.arg 0)))).holds [] { args:=[.list (ns.map .int)] }=true:=by
   have h4:=(holds_andW hc).1
   rw[hn] at h4
   exact h4
  have h5:=condW_of h4 (w_not (w_lt w_lit (w_len_list (w_arg rfl))))
  rw[Zt7] at h5
  refine Nat.le_of_not_lt fun q=>?_
  have q':(n:Int)<((ns.length:Nat):Int):=by omega
  first
   |(rw[decide_eq_true q'] at h5;exact absurd h5 (by decide))
   |(simp at h5;omega)
 cases hwl with
 |cons w1 w2 =>
  cases w2
  cases w1 with
  |list ho hall=>exact⟨_,_,ns,rfl,rfl,ho,QU ns _ hall,hlen⟩
theorem Zfg (l:OpenLaw) (args:List WData):l.row.toRowW.claim.post args (.bool true) args=true:=
 postW_of (r:=l.row.toRowW) (X:=(true==true))
  (show WShape.has [] (.bool true) .bool=true by first|rfl|decide|simp[WShape.has,WShape.arms,WShape.armsAll])
  (show (WTm.eq .res (.lit (.bool true))).value [] { args:=args,res:=some (.bool true),after:=args }=some (.bool (true==true)) from w_eq_bool (w_res rfl) w_lit) rfl
theorem ZcX {l:OpenLaw}{n:Nat}{q:Program}{loose:List Str}{XP:(Str->Option Value)->Heap->Prop}{YP:World->Heap->Prop}{d:DefRec}
  (hn:l.most=some n) (hdf:d.params.defaults=[])
  (call:∀(w:World) (s₀ s₁:Shared) (mg mb:Str->Option Value) (fa:Addr) (o:Obj) (pm cd doc:Value) (a:Addr) (vs:List Value) (ns:List Int),
   Ground q loose [] XP w s₀ mg mb s₁.heap->YP w s₁.heap ->
   s₁.heap.get? fa=some o->o.data=.func (docDef d.name d.params d.body d.scope pm cd doc)->s₁.heap.CodeRec cd d.name->mg d.name=some (.ref fa) ->
   s₁.heap.get? a=some { cls:=.type "list",data:=.seq vs.toArray }->IntsAre vs ns->ns.length<=n->s₁.gens=#[] ->
   codeAny (model l.prog w) callerA (.call (.ref fa) ⟨[.ref a],[]⟩) (fun r s'=>r=.ok (.ret (.bool true))/\OldK s₁.heap s'.heap/\s'.os=s₁.os/\AllBare s'.gens) s₁) :
  WalkO q loose XP YP l.row.toRowW d [] (fun f vs=>PySem.call f vs):=by
 intro w s₀ s₁ mg mb G Y fa o pm cd doc dV kV ho hd hcd hD hmg hg args vals as hpre hlay hrd hwl hlo
 obtain rfl:dV=.none:=Dflts.none hD hdf
 obtain rfl:kV=.none:=Dflts.noKw hD
 obtain⟨a,vs,ns,rfl,rfl,hobj,hints,hlen⟩:=ZeY hn hpre hwl
 refine enter_call (codeAny_mono (call w s₀ s₁ mg mb fa o pm cd doc a vs ns G Y ho (fd_plain hd) hcd hmg hobj hints hlen hg) fun r s' hq=>?_)
 obtain⟨rfl,h2,h3,h4⟩:=hq
 exact⟨.inl ⟨.bool true,.bool true,[],rfl,fun _=>rfl,.bool true,Zfg l _,fun _=>⟨List.Pairwise.nil,fun _ hm=>(nomatch hm)⟩⟩,h2,h3,h4⟩
section
end
end Att
namespace L2
open PySem PySem.Spec PyProof.Rows
theorem Zbz:∀{vs:List Value}{ns:List Int},IntsAre vs ns->ZT (ns.map V.int) vs
 |_,_,.nil=>.nil
 |_,_,.cons n t h=>.cons ⟨t,rfl⟩ (Zbz h)
def Zl3 (H:Hp):Prop:=∀b,H b=none\/∃o xs,H b=some (.frz o (.lst xs))
theorem Zht {P:Program}{w:World}{K:W.Frag}{mg mb:Str->Option Value}{CX:CXT}{k:Nat}{fa a:Addr}{fd:FuncData}{x:Str}{sp:Sp}{s₁:Shared}{vs:List Value}{ns:List Int}
  (KX:K.In s₁.heap) (hns:s₁.heap.Ns mainGlobals mg) (hb:s₁.heap.Ns builtinsNs mb) (hbb:∀x:Str,x ≠ "__name__"->mb x=bootBuiltins x) (hlim:s₁.heap.NoLimit) (hg:s₁.gens=#[])
  (ha:s₁.heap.get? a=some { cls:=.type "list",data:=.seq vs.toArray }) (hi:IntsAre vs ns) (hl:ns.length<=sizeLine) (hr:Vu k callerA)
  (F:∀base:Heap,K.In base->base.Ns mainGlobals mg->Jd P w K mg base CX k fa fd [x] sp) (hbind:∀(s:Shared) (u:Value),BindsTo s fd ⟨[u],[]⟩ [(x,u)])
  (hsp:∀H:Hp,Zl3 H->SqL K H a (ns.map V.int)->sp [.ref a] H (fun v _=>v=.bl true) fun _ _ _=>False)
  (hCX:∀H e s',CX [] H s₁ (fun _ _ _=>False) e s'->False) :
  codeAny (model P w) callerA (.call (.ref fa) ⟨[.ref a],[]⟩) (fun r s'=>r=.ok (.ret (.bool true))/\OldK s₁.heap s'.heap/\s'.os=s₁.os/\AllBare s'.gens) s₁:=by
 have rv:=Zbz hi
 have lenV:=hi.length
 have core:∀H:Hp,Zl3 H->SqL K H a (ns.map V.int)->HOk P w H s₁.heap->(∀b,H b≠none->b=a)->(H a≠none->K.lookup a=none) ->
   codeAny (model P w) callerA (.call (.ref fa) ⟨[.ref a],[]⟩) (fun r s'=>r=.ok (.ret (.bool true))/\OldK s₁.heap s'.heap/\s'.os=s₁.os/\AllBare s'.gens) s₁:=by
  intro H hO hS hok hA hK
  have base_of:∀{b:Addr}{o:Obj},s₁.heap.get? b=some o->H b=none->(Zh1 s₁.heap H).get? b=some o:=fun e n=>Zh0 e n
  have noA:∀{b:Addr}{o:Obj}{es:Array DictEntry}{ep:Nat},s₁.heap.get? b=some o->o.data=.dict es ep->H b=none:=fun {b o es ep} e d=>by
   cases q:H b with
   |none=>rfl
   |some u =>
    have e':b=a:=hA b (by rw[q];simp)
    subst e'
    rw[ha] at e;cases e
    have d':Data.seq vs.toArray _=Data.dict es ep:=d
    cases d'
  have nsK:∀{b:Addr}{m:Str->Option Value},s₁.heap.Ns b m->(Zh1 s₁.heap H).Ns b m:=fun {b m} ⟨o,es,ep,e,d,r⟩=>⟨o,es,ep,base_of e (noA e d),d,r⟩
  have hKb:K.In (Zh1 s₁.heap H):=fun b o e=>base_of (KX b o e) (by
   cases q:H b with
   |none=>rfl
   |some u =>
    have e':b=a:=hA b (by rw[q];simp)
    subst e'
    rw[hK (by rw[q];simp)] at e;cases e)
  have hM:Mod K mg (Zh1 s₁.heap H):=⟨hKb,nsK hns,⟨mb,nsK hb,hbb⟩,let ⟨mc,h1,h2⟩:=hlim;⟨mc,nsK h1,h2⟩⟩
  have e0:ZjF P w K mg (Zh1 s₁.heap H) callerA [] s₁ H:=⟨rfl,hM,fun b o e=>ZiU e,Nat.le_of_eq (ZfP _ _),trivial,fun b hb=>absurd (show b∈([]:List Addr) from hb) (by simp),hok,.of_eq hg⟩
  refine codeAny_mono ((F _ hKb (nsK hns)).run callerA [] s₁ H ⟨[.ref a],[]⟩ [.ref a] [.ref a] _ _ hr e0 (hbind s₁ (.ref a)) (.cons rfl .nil) (hsp H hO hS)) fun r s' h=>?_
  cases r with
  |error e=>exact(hCX H e s' h).elim
  |ok fl =>
   cases fl with
   |next=>exact False.elim h
   |brk=>exact False.elim h
   |cont=>exact False.elim h
   |ret u =>
    obtain⟨v,H',os,bare,un,hok',r',q⟩:=h
    have q':v=.bl true:=q
    subst q'
    obtain rfl:u=Value.bool true:=r'
    refine⟨rfl,OldK.of_keep fun b o e=>?_,os,bare⟩
    cases q:H b with
    |none=>exact un.keep b o e q (by intro z;exact absurd (show b∈([]:List Addr) from z) (by simp)) (by simp)
    |some u =>
     rcases hO b with z|⟨ob,xs,z⟩
     ·rw[q] at z;cases z
     ·have z2:=un.frzs b ob _ z
      obtain⟨e1,_⟩:=hok b _ z
      obtain⟨e2,_⟩:=hok' b _ z2
      rw[e] at e1;cases e1
      exact e2
 cases hk:K.lookup a with
 |some o =>
  have e:=KX a o hk
  rw[ha] at e
  cases e
  refine core (fun _=>none) (fun _=>.inl rfl) (.inr ⟨_,vs.toArray,_,hk,rfl,rfl,rfl,by rw[ZtB,lenV];exact hl,by simpa using rv⟩) (fun b u z=>by have z':(none:Option HO)=some u:=z;cases z') (fun b z=>absurd rfl z) fun z=>absurd rfl z
 |none =>
  refine core (fun b=>if b=a then some (.frz { cls:=.type "list",data:=.seq vs.toArray } (.lst (ns.map V.int))) else none) (fun b=>?_) (.inl (.inr ⟨{ cls:=.type "list",data:=.seq vs.toArray },if_pos rfl⟩)) (fun b u z=>?_) (fun b z=>?_) fun _=>hk
  ·by_cases hb:b=a
   ·exact .inr ⟨_,_,if_pos hb⟩
   ·exact .inl (if_neg hb)
  ·by_cases hb:b=a
   ·have z':=(if_pos hb).symm.trans z
    cases z'
    subst hb
    exact⟨ha,by rw[Zt7];exact hl,vs,_,rv,ha⟩
   ·have z':=(if_neg hb).symm.trans z
    cases z'
  ·by_cases hb:b=a
   ·exact hb
   ·exact absurd (if_neg hb) z
noncomputable abbrev KOf {K:W.Frag}{h:Heap} (_:K.In h):W.Frag:=K
theorem Zi5 {l:PySem.W.OpenLaw}{n k:Nat}{q:Program}{loose:List Str}{XP:(Str->Option Value)->Heap->Prop}{YP:World->Heap->Prop}{d:DefRec}{K:Params->W.Frag}{CX:World->CXT}{sp:World->Sp}{x:Str}
  (hn:l.most=some n) (hn2:n<=sizeLine) (hdf:d.params.defaults=[]) (hr:Vu k callerA)
  (hY:∀(w:World) (h:Heap),YP w h->(K w.params).In h)
  (F:∀(w:World) (mg:Str->Option Value) (fa:Addr) (h:Heap),(K w.params).In h->h.Ns mainGlobals mg->mg d.name=some (.ref fa) ->
   ∃fd:FuncData,(∀(s:Shared) (u:Value),BindsTo s fd ⟨[u],[]⟩ [(x,u)]) /\
    ∀base:Heap,(K w.params).In base->base.Ns mainGlobals mg->Jd l.prog w (K w.params) mg base (CX w) k fa fd [x] (sp w))
  (hsp:∀(w:World) (H:Hp) (a:Addr) (ns:List Int),ns.length<=n->Zl3 H->SqL (K w.params) H a (ns.map V.int)->sp w [.ref a] H (fun v _=>v=.bl true) fun _ _ _=>False)
  (hCX:∀(w:World) (H:Hp) (s:Shared) (e:Value) (s':Shared),CX w [] H s (fun _ _ _=>False) e s'->False) :
  PySem.W.WalkO q loose XP YP l.row.toRowW d [] (fun f vs=>PySem.call f vs):=by
 refine Att.ZcX hn hdf fun w s₀ s₁ mg mb fa o pm cd doc a vs ns G Y ho hd hcd hmg hobj hints hlen hg=>?_
 have KX:=hY w _ Y
 obtain⟨fd,hb,hF⟩:=F w mg fa _ KX G.T.g hmg
 exact Zht KX G.T.g G.T.b G.T.builtins G.T.nolimit hg hobj hints (ZtS hlen hn2) hr hF hb (fun H hO hS=>hsp w H a ns hlen hO hS) fun H e s'=>hCX w H s₁ e s'
theorem ZgJ {l:PySem.W.OpenLaw}{n k:Nat}{q:Program}{loose:List Str}{XP:(Str->Option Value)->Heap->Prop}{YP:World->Heap->Prop}{d:DefRec}{K:Params->W.Frag}{CX:CXT}{sp:W.Frag->Sp}{x:Str}
  (hn:l.most=some n) (hn2:n<=sizeLine) (hdf:d.params.defaults=[]) (hr:Vu k callerA)
  (hY:∀(w:World) (h:Heap),YP w h->(K w.params).In h)
  (F:∀(w:World) (mg:Str->Option Value) (fa:Addr) (h:Heap),(K w.params).In h->h.Ns mainGlobals mg->mg d.name=some (.ref fa) ->
   ∃fd:FuncData,(∀(s:Shared) (u:Value),BindsTo s fd ⟨[u],[]⟩ [(x,u)]) /\
    ∀base:Heap,(K w.params).In base->base.Ns mainGlobals mg->Jd l.prog w (K w.params) mg base CX k fa fd [x] (sp (K w.params)))
  (hsp:∀(K:PySem.W.Frag) (H:Hp) (a:Addr) (ns:List Int),ns.length<=n->Zl3 H->SqL K H a (ns.map V.int)->sp K [.ref a] H (fun v _=>v=.bl true) fun _ _ _=>False)
  (hCX:∀(H:Hp) (s:Shared) (e:Value) (s':Shared),CX [] H s (fun _ _ _=>False) e s'->False) :
  PySem.W.WalkO q loose XP YP l.row.toRowW d [] (fun f vs=>PySem.call f vs):=
 Zi5 (K:=K) (CX:=fun _=>CX) (sp:=fun w=>sp (K w.params)) hn hn2 hdf hr hY F (fun w H a ns h1 h2 h3=>hsp (K w.params) H a ns h1 h2 h3) fun _ H s e s'=>hCX H s e s'
noncomputable def ZY (s:Stmt) (j:Nat):Stmt:=match s with
 |.ClassDef _ _ _ body _ _ _ _ _ _ _=>body.getD j (.Pass ⟨0,0,0,0⟩)
 |_=>.Pass ⟨0,0,0,0⟩
noncomputable def Zo (s:Stmt):Arguments:=match s with
 |.FunctionDef _ a _ _ _ _ _ _ _ _=>a
 |_=>{ posonlyargs:=[],args:=[],vararg:=none,kwonlyargs:=[],kw_defaults:=[],kwarg:=none,defaults:=[] }
noncomputable def Zn (s:Stmt):List Stmt:=match s with
 |.FunctionDef _ _ b _ _ _ _ _ _ _=>b
 |_=>[]
noncomputable def Zd (s:Stmt):Scope:=match s with
 |.FunctionDef _ _ _ _ _ _ sc _ _ _=>sc
 |_=>{ kind:=.function,names:=[],isGenerator:=false,isCoroutine:=false }
noncomputable abbrev CX0:CXT:=fun _ _ _ _ _ _=>False
noncomputable abbrev E0:XK:=fun _ _ _=>False
theorem Zen {X:Cx}:Zcw CX0 X E0:=fun _ _ _ _ _ _ _ h=>h.elim
structure Fun (K:PySem.W.Frag) (x qual:Str) (st:Stmt) (f:Addr) (fd:FuncData):Prop where
 ex:∃(oc:Value) (od:Option Addr) (kV doc pm:Value) (an:Option Addr) (cdv ct:Value) (osl:Array (Option Value)),
  fd=PySem.W.fnOf x qual (Zo st) (Zn st) (Zd st) .none kV doc pm an cdv ct/\K.lookup f=some ⟨oc,od,.func fd,osl⟩/\PySem.W.codeIn K cdv qual=true
 kp:PySem.W.keepIn K (.ref f)=true
section
variable {P:Program}{w:World}{K:W.Frag}{mg:Str->Option Value}{base:Heap}
theorem Fun.ok {x qual:Str}{st:Stmt}{f:Addr}{fd:FuncData}{N ps:List Str}{k:Nat}{sp:Sp} (F:Fun K x qual st f fd) (S:Zs N ps (Zd st)) (len:∀vs H Q E,sp vs H Q E->vs.length=ps.length)
  (hbody:∀(cdv:Value) (A:Around) (outer:List Env) (s:Shared) (H:Hp) (vs:List V) (Q:VK) (E:XK),Vu k (A.deeper (envOfC qual (Zd st) s.heap.objs.size f cdv))->sp vs H Q E ->
   ∃t,PSs (Zby CX0 P w K mg base N qual (Zd st) f cdv A outer s H E).nox (Zn st) t/\t { nx:=fun _ H'=>Q .non H',rt:=Q } (VN N vs) H):Jd P w K mg base CX0 (k+1) f fd ps sp:=by
 obtain⟨oc,od,kV,doc,pm,an,cdv,ct,osl,rfl,lk,hcd⟩:=F.ex
 refine ZkS lk hcd S len fun A outer s H vs Q E hr hsp=>?_
 obtain⟨t,h,q⟩:=hbody cdv A outer s H vs Q E hr hsp
 exact⟨t,h.nox,q⟩
theorem Fun.binds {x qual:Str}{st:Stmt}{f:Addr}{fd:FuncData}{ps:List Str} (F:Fun K x qual st f fd)
  (h:∀(kV doc pm:Value) (an:Option Addr) (cdv ct:Value) (us:List Value),us.length=ps.length->bindArgs (PySem.W.fnOf x qual (Zo st) (Zn st) (Zd st) .none kV doc pm an cdv ct) ⟨us,[]⟩=pure (ps.zip us)):UK K fd ps []:=by
 obtain⟨oc,od,kV,doc,pm,an,cdv,ct,osl,rfl,lk,hcd⟩:=F.ex
 exact .all (h kV doc pm an cdv ct)
theorem ZC {x qual:Str}{st:Stmt}{f:Addr}{oc:Value}{od an:Option Addr}{osl:Array (Option Value)}{kV doc pm cdv ct:Value} (l:K.lookup f=some ⟨oc,od,.func (PySem.W.fnOf x qual (Zo st) (Zn st) (Zd st) .none kV doc pm an cdv ct),osl⟩)
  (c:PySem.W.codeIn K cdv qual=true) (k:PySem.W.keepIn K (.ref f)=true):Fun K x qual st f (PySem.W.fnOf x qual (Zo st) (Zn st) (Zd st) .none kV doc pm an cdv ct):=⟨⟨oc,od,kV,doc,pm,an,cdv,ct,osl,rfl,l,c⟩,k⟩
variable {X:Cx}
theorem pv (i:Nat) {x:Str}{pos:Pos} (hN:X.N[i]?=some x:=by rfl) (hv:Vis X.env.scope x:=by first|exact Or.inl rfl|exact Or.inr (Or.inl rfl)|exact Or.inr (Or.inr rfl)) (hd:(x==("__debug__":Str))=false:=by decide)
  (hcd:(x==("__classdict__":Str))=false:=by decide):PE X (.Name x pos) (UA i):=Zkt hN hv hd hcd
end
def Z5 (H H':Hp):Prop:=∀b o,H b=some o->H' b=some o
theorem Z5.refl (H:Hp):Z5 H H:=fun _ _ h=>h
theorem Z5.trans {H H1 H2:Hp} (a:Z5 H H1) (b:Z5 H1 H2):Z5 H H2:=fun c o h=>b c o (a c o h)
theorem Z5.free {H H':Hp} (e:Z5 H H') {l:Addr} (h:H' l=Option.none):H l=Option.none:=by
 cases q:H l with
 |none=>rfl
 |some o =>
  rw[e l o q] at h
  cases h
end L2
set_option maxHeartbeats 4000000
namespace L2
open PySem PySem.Spec PyProof.Rows
noncomputable def ZgF (scope:Scope) (env:Env):List (Str×Addr):=
 ((scope.names.filter fun p=>p.2==.free).reverse).map fun p=>(p.1,(env.cells.lookup p.1).getD 0)
theorem Uu {β:Type}:∀{l:List (Str×β)}{a:Str}{b:β},(a,b)∈l->∃c,l.lookup a=some c
 |[],_,_,h=>absurd h (by simp)
 |(n,v)::r,a,b,h=>by
  cases e:a==n with
  |true=>exact⟨v,by simp[ZtT,e]⟩
  |false =>
   rcases ZtE.mp h with z|z
   ·cases z;simp at e
   ·obtain⟨c,hc⟩:=Uu z
    exact⟨c,by simp[ZtT,e,hc]⟩
theorem Jn {env:Env}:∀{names:List (Str×NameKind)}{y:Str}{k:NameKind},(∀p∈names,p.2≠.cell) ->
  (names.map fun(n,k)=>if (k==NameKind.free&&env.scope.kind==.function&&env.kindOf n==some .cell) then (n,NameKind.cell) else (n,k)).lookup y=some k ->
  (k=.local->names.lookup y=some .local)/\(k=.cell\/k=.free->names.lookup y=some .free)
 |[],_,_,_,h=>by simp at h
 |(n,k0)::r,y,k,nc,h=>by
  have ih:=@Jn env r y k (fun p hp=>nc p (ZtM _ hp))
  have nc0:=nc (n,k0) Zuc
  have h':Zuy y ((if (k0==NameKind.free&&env.scope.kind==.function&&env.kindOf n==some .cell)=true then (n,NameKind.cell) else (n,k0))::(r.map fun(n,k)=>if (k==NameKind.free&&env.scope.kind==.function&&env.kindOf n==some .cell) then (n,NameKind.cell) else (n,k)))=some k:=h
  cases hx:y==n with
  |true =>
   by_cases hc:(k0==NameKind.free&&env.scope.kind==.function&&env.kindOf n==some .cell)=true
   ·rw[if_pos hc] at h'
    simp only[ZtT,hx] at h'
    have hk:NameKind.cell=k:=Option.some.inj h'
    subst hk
    have hf:k0=.free:=by
     simp only[Bool.and_eq_true] at hc
     exact beq_iff_eq.mp hc.1.1
    subst hf
    exact⟨(fun z=>nomatch z),fun _=>by simp[ZtT,hx]⟩
   ·rw[if_neg hc] at h'
    simp only[ZtT,hx] at h'
    have hk:k0=k:=Option.some.inj h'
    subst hk
    refine⟨fun z=>by subst z;simp[ZtT,hx],fun z=>?_⟩
    rcases z with z|z
    ·exact absurd z nc0
    ·subst z;simp[ZtT,hx]
  |false =>
   by_cases hc:(k0==NameKind.free&&env.scope.kind==.function&&env.kindOf n==some .cell)=true
   ·rw[if_pos hc] at h'
    simp only[ZtT,hx] at h'
    have:=ih h'
    simpa[ZtT,hx] using this
   ·rw[if_neg hc] at h'
    simp only[ZtT,hx] at h'
    have:=ih h'
    simpa[ZtT,hx] using this
noncomputable def blk (X:Cx) (scope:Scope) (x:Str) (C:Addr) (ex:List Addr) (s₂:Shared) (H₂:Hp):Cx:=
 { X with N:=X.N++[x],s₀:=s₂,H₀:=H₂,env:=compEnvC scope (ZgF scope X.env) C X.env,outer:=X.stack,ex:=ex,fn:=fun _=>false,pn:=[],xe:=fun _ _=>False }
noncomputable def Zbo (N:List Str) (sc scope:Scope) (x:Str):Bool:=
 (scope.names.all fun p=>!(p.2==.cell))&&(scope.kind==.function)&&(scope.names.all fun p=>!(p.2==.local) || scope.names.lookup p.1==some .local)&&(scope.names.lookup x==some .local)
  && (N.all fun y=>!(scope.names.lookup y==some .local))&&(scope.names.all fun p=>!(p.2==.free) || sc.names.lookup p.1==some .cell || sc.names.lookup p.1==some .free)
structure Zan (N:List Str) (sc scope:Scope) (x:Str):Prop where
 nc:∀p∈scope.names,p.2≠.cell
 kind:scope.kind=.function
 locs:∀p∈scope.names,p.2=.local->scope.names.lookup p.1=some .local
 var:scope.names.lookup x=some .local
 noN:∀y∈N,scope.names.lookup y≠some .local
 fr:∀p∈scope.names,p.2=.free->sc.names.lookup p.1=some .cell\/sc.names.lookup p.1=some .free
theorem Zan.of {N:List Str}{sc scope:Scope}{x:Str} (h:Zbo N sc scope x=true):Zan N sc scope x:=by
 unfold Zbo at h
 simp only[Bool.and_eq_true,ZtX,Bool.or_eq_true,Bool.not_eq_true',beq_iff_eq,beq_eq_false_iff_ne] at h
 obtain⟨⟨⟨⟨⟨h1,h2⟩,h3⟩,h4⟩,h5⟩,h6⟩:=h
 refine⟨h1,h2,fun p hp e=>?_,h4,h5,fun p hp e=>?_⟩
 ·rcases h3 p hp with z|z
  ·exact absurd e z
  ·exact z
 ·rcases h6 p hp with (z|z)|z
  ·exact absurd e z
  ·exact .inl z
  ·exact .inr z
section
variable {X:Cx}{pins:List (Addr×Obj)}{σ:St}{H:Hp}{s:Shared}
theorem Inv.adopt {D:Addr}{ys:List V}{its:List Value}{n:Nat} (I:Inv X pins σ H s) (hn:H D=none) (h1:X.s₀.heap.objs.size<=D) (hL:D≠X.env.locals) (hc:∀x c,X.env.cells.lookup x=some c->c≠D)
  (hp:∀p∈X.pn++pins,p.1≠D) (ho:s.heap.get? D=some { cls:=.type "list",data:=.seq its.toArray n }) (r:ZT ys its) (hz:ys.length<=sizeLine):Inv X pins σ (upd H D (.lst ys)) s:=by
 refine I.step (h':=s.heap) (g':=s.gens) (d':=s.drawn) (t':=s.toks) (ch:=[D]) (fun b hb=>?_) (fun b o _ _ _ e _=>e) (fun b o _ _ _ e _=>⟨o.slots,e⟩) (fun b o hb _ e=>?_) (fun b o _ e=>⟨o,e⟩)
  (fun b xs e=>?_) (fun b o u e=>?_) (fun b ps e=>⟨#[], ?_⟩) (fun m hm=>hm) (fun b u e=>?_) I.bare
 ·have e:b=D:=by simpa using hb
  subst e
  exact⟨.inr h1,hL,hc,hp⟩
 ·rw[Zq (by simpa using hb)];exact e
 ·rw[Zq (Zz e hn)];exact e
 ·rw[Zq (Zz e hn)];exact e
 ·rw[Zq (Zz e hn),e];simp
 ·by_cases hb:b=D
  ·subst hb
   rw[Z0] at e;cases e
   exact⟨hz,its,n,r,ho⟩
  ·rw[Zq hb] at e
   exact(I.hok b u e).stay (fun c v _ q=>q) (fun c q=>by rw[Zq (Zz q hn)];exact q) fun c xs q=>by rw[Zq (Zz q hn)];exact q
variable {s₂:Shared}{H₂:Hp}{scope:Scope}{x:Str}{fp:List Addr}
theorem JE {sc:Zan X.N X.env.scope scope x} (ok:X.Ok) {y:Str}{c:Addr} (h:(ZgF scope X.env).lookup y=some c):X.env.cells.lookup y=some c:=by
 have hm:=PySem.mem_of_lookup h
 unfold ZgF at hm
 obtain⟨p,hp,e⟩:=Zub.mp hm
 have hp':=Zu8.mp (List.mem_reverse.mp hp)
 obtain⟨e1,e2⟩:=Prod.mk.inj e
 have hk:=sc.fr p hp'.1 (beq_iff_eq.mp hp'.2)
 obtain⟨c',hc'⟩:=ok.has p.1 hk
 rw[hc'] at e2
 rw[<- e1,hc']
 exact congrArg some e2
theorem ZdZ {y:Str} (h:scope.names.lookup y=some .free):∃c,(ZgF scope X.env).lookup y=some c:=by
 have hm:=PySem.mem_of_lookup h
 refine Uu (b:=(X.env.cells.lookup y).getD 0) ?_
 unfold ZgF
 exact Zub.mpr ⟨(y,.free),List.mem_reverse.mpr (Zu8.mpr ⟨hm,rfl⟩),rfl⟩
theorem Zln (I:Inv X pins σ H₂ s₂) (sc:Zan X.N X.env.scope scope x) {C:Addr} (hC:s₂.heap.objs.size<=C) (ff:∀b∈fp,ZhS X pins H₂ b) (fo:∀b∈fp,∃o,s₂.heap.get? b=some o):(blk X scope x C fp s₂ H₂).Ok where
 mod:=I.ok.mod
 kind:=sc.kind
 glob:=I.ok.glob
 blt:=I.ok.blt
 above:=hC
 inj:=fun y z c h1 h2=>I.ok.inj y z c (JE (sc:=sc) I.ok h1) (JE (sc:=sc) I.ok h2)
 has:=fun y hy=>by
  have hy':(relabel scope X.env).names.lookup y=some .cell\/(relabel scope X.env).names.lookup y=some .free:=hy
  have hf:scope.names.lookup y=some .free:=by
   rcases hy' with z|z
   ·exact(Jn sc.nc z).2 (.inl rfl)
   ·exact(Jn sc.nc z).2 (.inr rfl)
  exact ZdZ hf
 cab:=fun y c h=>by cases h
 hd:=I.ok.hd
 frames:=I.ok.frames
 stk:=.inl rfl
 exf:=fun b hb=>by
  obtain⟨f0,f1,f2,f3,f4,f5⟩:=ff b hb
  obtain⟨o,ho⟩:=fo b hb
  exact⟨ZtP (ZtC (Heap.lt_size ho) hC),fun y c h=>f4 y c (JE (sc:=sc) I.ok h)⟩
 bs:=I.bs
 bsz:=ZtS I.ok.bsz I.sz
 noex:=fun b o e hb=>by
  obtain⟨f0,f1,f2,f3,f4,f5⟩:=ff b hb
  rcases f3 with z|z
  ·exact I.ok.noex b o e z
  ·exact absurd (ZtC (Heap.lt_size e) (ZtS I.ok.bsz z)) (Zuh _)
 exfs:=fun b hb z=>by
  obtain⟨f0,f1,f2,f3,f4,f5⟩:=ff b hb
  rcases ZtE.mp (I.stkSub b z) with e|e
  ·exact f1 e
  ·exact f2 e
 funs:=I.stack
 frf:=I.stkFree
end
def Zib (σ:St) (te:TE) (J:It) (H1:Hp) (Q:VK):Prop:=∃W:Nat->Nat->List V->Hp->Prop,(∃m,W 0 m [] H1)/\∀i m ys H2,W i m ys H2->ys.length<=sizeLine /\
 ((J.stop i H2/\∀p,H2 p=none->Q (.ref p) (upd H2 p (.lst ys))) \/
  (J.go i H2/\∃N:List V->Hp->Prop,(∀ys' H',N ys' H'->∃m',m'<m/\W (i+1) m' ys' H')/\∀x H3,J.yld i H2 x H3->te (σ++[some x]) H3 fun y H4=>N (ys++[y]) H4))
noncomputable def ZgM (wi:TI) (te:TE):TE:=fun σ H Q=>wi σ H fun J H1=>Zib σ te J H1 Q
section
variable {X:Cx}{pins:List (Addr×Obj)}{σ:St}{s₂:Shared}{H₂:Hp}{scope:Scope}{x:Str}{px:Pos}{elt iter:Expr}{pos:Pos}{te:TE}{J:It}{fp:List Addr}{it:Addr}{tn:Nat->Heap->Prop}
theorem ZdY {E:Value->Shared->Prop}{Q:VK}{RR:Value->Addr->Result->Shared->Prop} (I:Inv X pins σ H₂ s₂) (sc:Zan X.N X.env.scope scope x) (hNd:X.N.Nodup) (hc:X.calm=true)
  (T:Zl0 X.prog X.w X.K (.Name x px) J fp it tn) (st:tn 0 s₂.heap) (ff:∀b∈fp,ZhS X pins H₂ b) (hw:Zib σ te J H₂ Q)
  (he:∀C s₂ H₂ ex,PE (blk X scope x C ex s₂ H₂) elt te)
  (hRR:∀D C s' H' m',s₂.heap.objs.size<=C->Inv X pins σ H' s'->s'.heap.Ns C m'->H' C=none->Q (.ref D) H'->RR (.ref D) C (.ok .next) s') :
  wpAny (model X.prog X.w) X.A (newList []) (fun acc s₃=>wpAny (model X.prog X.w) X.A (newFunctionEnv scope X.env.globals (ZgF scope X.env) [] X.env.qual none .none (some X.env)) (fun cenv s₄ =>
   codeAny (model X.prog X.w) X.A (.compStart (.ListComp elt [⟨.Name x px,iter,[],0⟩] scope pos) 0 (.ref it) acc { cenv with scope:=relabel scope X.env }) (RR acc cenv.locals) s₄) E s₃) E s₂:=by
 refine wpAny_newObj_type (wpAny_newFunctionEnv sc.nc (by intro y hy;simp at hy) (fun h₁ hns₁ hsb₁=>?_) sc.kind)
 dsimp only at hns₁ hsb₁ ⊢
 generalize hP2:s₂.heap.push { cls:=.type "list",dict:=none,data:=.seq ([]:List Value).toArray }=P2 at hns₁ hsb₁ ⊢
 have hCs:P2.objs.size=s₂.heap.objs.size+1:=by rw[<- hP2,Heap.size_push]
 have hCle:s₂.heap.objs.size<=P2.objs.size:=by rw[hCs];exact Nat.le_succ _
 have hDC:s₂.heap.objs.size≠P2.objs.size:=by rw[hCs];exact ZtP (Zus _)
 generalize hCe:P2.objs.size=C at hns₁ hsb₁ hCs hCle hDC ⊢
 generalize hDe:s₂.heap.objs.size=D at hCs hCle hDC ⊢
 have fo:∀b∈fp,∃o,s₂.heap.get? b=some o:=fun b hb=>let ⟨o,e,_⟩:=T.obj _ _ st b hb;⟨o,e⟩
 have flt:∀b∈fp,b<D:=fun b hb=>by obtain⟨o,e⟩:=fo b hb;rw[<- hDe];exact Heap.lt_size e
 have old:∀b o,s₂.heap.get? b=some o->h₁.get? b=some o:=fun b o e=>by
  have hb:=Heap.lt_size e
  exact hsb₁.extBut b o (ZtP (by rw[hCs];exact Nat.lt_succ_of_lt (hDe▸hb))) (Heap.get?_push_of_some _ (hP2▸Heap.get?_push_of_some _ e))
 have hacc:h₁.get? D=some { cls:=.type "list",data:=.seq ([]:List Value).toArray 0 }:=hsb₁.extBut _ _ hDC (Heap.get?_push_of_some _ (hP2▸hDe▸Heap.get?_push_size _ rfl))
 have okB:=Zln (x:=x) (C:=C) I sc (by rw[hDe];exact hCle) ff fo
 have hfreshD:H₂ D=none:=I.hok.fresh (by rw[hDe];exact ZtD _)
 have hfreshC:H₂ C=none:=I.hok.fresh (by rw[hDe];exact hCle)
 have hxN:x ∉ X.N:=fun z=>sc.noN x z sc.var
 have ndB:(X.N++[x]).Nodup:=List.nodup_append.mpr ⟨hNd,by simp,fun a ha b hb=>by
  have:b=x:=by simpa using hb
  subst this;rintro rfl;exact hxN ha⟩
 have I0:Inv (blk X scope x C fp s₂ H₂) [(D,{ cls:=.type "list",data:=.seq ([]:List Value).toArray 0 })] (σ++[none]) H₂ { s₂ with heap:=h₁,toks:=s₂.toks+([]:List (Str×Value)).length }:=by
  refine⟨okB,rfl,I.bare,Un.kept old,⟨_,hns₁,fun i y v e1 e2 e3=>?_⟩,fun y c e=>?_,hfreshC,fun y c e=>I.freeC y c (JE (sc:=sc) I.ok e),fun p hp=>?_,I.hok.kept old,by simp[blk,I.len]⟩
  ·have hi:i<σ.length:=by
    by_cases hi:i<σ.length
    ·exact hi
    ·rw[ZtQ (by omega)] at e2
     have:([none]:St)[i-σ.length]?=some (some v):=e2
     cases hj:i-σ.length with
     |zero=>rw[hj] at this;simp at this
     |succ j=>rw[hj] at this;simp at this
   rw[ZtG hi] at e2
   have e1':(X.N++[x])[i]?=some y:=e1
   rw[ZtG (by rw[<- I.len];exact hi)] at e1'
   have yN:y∈X.N:=Zug e1'
   have e3':(relabel scope X.env).names.lookup y=some .local\/(relabel scope X.env).names.lookup y=some .cell\/(relabel scope X.env).names.lookup y=some .free:=e3
   have hcf:(relabel scope X.env).names.lookup y=some .cell\/(relabel scope X.env).names.lookup y=some .free:=by
    rcases e3' with z|z
    ·exact absurd ((Jn sc.nc z).1 rfl) (sc.noN y yN)
    ·exact z
   have hfree:scope.names.lookup y=some .free:=by
    rcases hcf with z|z
    ·exact(Jn sc.nc z).2 (.inl rfl)
    ·exact(Jn sc.nc z).2 (.inr rfl)
   obtain⟨c,hcl⟩:=ZdZ (X:=X) hfree
   have hcx:=JE (sc:=sc) I.ok hcl
   have hvis:=sc.fr _ (PySem.mem_of_lookup hfree) rfl
   obtain⟨m,hn,hl⟩:=I.loc
   obtain⟨u,ru,hlook⟩:=hl i y v e1' e2 (.inr hvis)
   refine⟨u,ru,.inr ⟨hcf,c,hcl, ?_⟩⟩
   rcases hlook with ⟨k,_⟩|⟨k,c',ec,hcell⟩
   ·have k':X.env.scope.names.lookup y=some .local:=k
    have hv':X.env.scope.names.lookup y=some .cell\/X.env.scope.names.lookup y=some .free:=hvis
    rw[k'] at hv'
    rcases hv' with z|z<;>cases z
   ·rw[hcx] at ec;cases ec
    obtain⟨o,ho,hd⟩:=hcell
    exact⟨o,old _ _ ho,hd⟩
  ·obtain⟨v,o,ho,hd⟩:=I.cell y c (JE (sc:=sc) I.ok e)
   exact⟨v,o,old _ _ ho,hd⟩
  ·have e:p=(D,{ cls:=.type "list",data:=.seq ([]:List Value).toArray 0 }):=by simpa[blk] using hp
   subst e
   exact⟨hacc,hfreshD,hDC,(fun z=>by
    rcases ZtE.mp (I.stkSub D z) with e|e
    ·exact absurd I.lt (by rw[<- e,hDe];exact Zuh _)
    ·exact I.nofs (by rw[hDe];exact ZtD _) e),fun v z=>nomatch z⟩
 obtain⟨W,⟨m0,w0⟩,turn⟩:=hw
 have fpB:∀{H':Hp}{o:Obj},(∀b∈fp,H' b=none)->∀b∈fp,ZhS (blk X scope x C fp s₂ H₂) [(D,o)] H' b:=fun {H' o} hn b hb=>by
  obtain⟨f0,f1,f2,f3,f4,f5⟩:=ff b hb
  obtain⟨g1,g2⟩:=okB.exf b hb
  exact⟨hn b hb,g1,okB.exfs b hb,.inl hb,g2,fun p hp=>by
   have e:p=(D,o):=by simpa[blk] using hp
   subst e
   exact(ZtP (flt b hb)).symm⟩
 have hσ:σ.length=X.N.length:=I.len
 have loop:∀s₃:Shared,s₃={ s₂ with heap:=h₁,toks:=s₂.toks+([]:List (Str×Value)).length } ->
   codeAny (model X.prog X.w) X.A (.compLoop (.ListComp elt [⟨.Name x px,iter,[],0⟩] scope pos) 0 (.ref it) (.ref D) (compEnvC scope (ZgF scope X.env) C X.env)) (RR (.ref D) C) s₃:=by
  rintro s₃ rfl
  refine codeAny_compLoop_tests
   (fun n s'=>∃i ys its k σx H',Inv (blk X scope x C fp s₂ H₂) [(D,{ cls:=.type "list",data:=.seq (List.toArray its) k })] (σ++[σx]) H' s'/\tn i s'.heap/\(∀b∈fp,H' b=none)/\ZT ys its/\W i n ys H') ?_ m0
   ⟨0,[],[],0,none,H₂,I0,T.keep _ _ _ st (fun b hb o e=>old b o e),fun b hb=>(ff b hb).1,.nil,w0⟩
  rintro n s' ⟨i,ys,its,k,σx,H',I',st',fr',rv,w'⟩
  obtain⟨hz,hcase⟩:=turn i n ys H' w'
  have hpinD:=I'.pin (D,{ cls:=.type "list",data:=.seq (List.toArray its) k }) (by simp[blk])
  rcases hcase with ⟨stop,q⟩|⟨go,N,hN,step⟩
  ·refine thn (T.done (blk X scope x C fp s₂ H₂) rfl rfl rfl hc i _ s' _ H' _ I' (fpB fr') st' stop) fun r s4 ⟨hr,I4⟩=>?_
   subst hr
   have pD:=I4.pin (D,{ cls:=.type "list",data:=.seq (List.toArray its) k }) (by simp[blk])
   obtain⟨m4,hn4,_⟩:=I4.loc
   have IX:Inv X pins σ H' s4:=I.call' I4.os I4.base I4.hok I4.bare fun b hb=>by
    obtain⟨f0,f1,f2,f3,f4,f5⟩:=ff b hb
    exact⟨f3,f1,f4,f5⟩
   have IX2:=IX.adopt (D:=D) (ys:=ys) (its:=its) (n:=k) hpinD.2.1 (by rw[<- hDe];exact I.sz) (by rw[<- hDe];exact ZuC I.lt)
    (fun y c e z=>by
     obtain⟨v,o,ho,hd⟩:=I.cell y c e
     have:=Heap.lt_size ho
     rw[hDe,z] at this
     exact Zuh _ this)
    (fun p hp z=>by
     have:=Heap.lt_size (I.pin p hp).1
     rw[hDe,z] at this
     exact Zuh _ this) pD.1 rv hz
   refine hRR D C s4 _ m4 (by rw[hDe];exact hCle) IX2 hn4 ?_ (q D hpinD.2.1)
   rw[Zq (Ne.symm hDC)]
   exact I4.free
  ·refine thn (T.item (blk X scope x C fp s₂ H₂) rfl rfl rfl hc i _ s' _ H' _ I' (fpB fr') st' go) fun r s4 ⟨u,hr,h4⟩=>?_
   subst hr
   show wpAny _ _ (letOwnedTupleGo (.Name x px) (.ref it) u >>= fun _=>assign (.Name x px) (compEnvC scope (ZgF scope X.env) C X.env) u) _ _ s4
   refine wpAny_bind (thn h4 fun _ s5 ⟨y,H5,I5,r5,y5,st5,fr5⟩=>?_)
   have I5':=I5.pinned (fpB fr5) (T.obj _ _ st5)
   refine wpAny_assign_Name ?_
   refine Ug (X:=blk X scope x C fp s₂ H₂) (i:=X.N.length) (x:=x) (v:=y) I5' ndB (by simp[blk]) (.inl (lookup_relabel_local sc.var)) r5 (fun s6 I6=>?_) (.inr (lookup_relabel_local sc.var))
   have eσ:(σ++[σx]).set X.N.length (some y)=σ++[some y]:=by
    rw[<- hσ];simp
   rw[eσ] at I6
   refine wpAny_tests_nil ?_
   simp only[if_true]
   refine wpAny_mono (he C s₂ H₂ fp _ s6 _ H5 _ I6 (step y H5 y5)) (fun u7 s7 h7=>?_) fun _ _ f=>f.elim
   obtain⟨v7,H7,I7,r7,n7⟩:=h7
   have pD7:=I7.pin (D,{ cls:=.type "list",data:=.seq (List.toArray its) k }) (by simp[blk])
   have hlen:=rv.length
   refine append_at (hsz:=by show its.toArray.size<=sizeLine;rw[ZtB,<- hlen];exact hz) pD7.1 fun h8 hs8 hD8=>?_
   obtain⟨m',hm,w8⟩:=hN _ _ n7
   have hD8':h8.get? D=some { cls:=.type "list",data:=.seq (its++[u7]).toArray (k+1) }:=by rw[hD8,List.push_toArray]
   have I8:Inv (blk X scope x C fp s₂ H₂) [] (σ++[some y]) H7 { s7 with heap:=h8 }:=by
    refine(I7.pins_of (pins':=[]) fun p hp=>absurd hp (by simp)).turned (t':=s7.toks) (it:=D) (fun b o hb e=>(hs8.2 b hb).trans e) pD7.2.1 pD7.2.2.1 (.inr (by show s₂.heap.objs.size<=D;rw[hDe];exact ZtD _)) (fun y' c' e' z=>?_) fun p hp=>absurd (show p∈([]:List (Addr×Obj)) from by simpa[blk] using hp) (by simp)
    obtain⟨v,o,ho,hd⟩:=I.cell y' c' (JE (sc:=sc) I.ok e')
    have:=Heap.lt_size ho
    rw[hDe,z] at this
    exact Zuh _ this
   refine⟨m',hm,i+1,ys++[v7],its++[u7],k+1,some y,H7,I8.pins_of fun p hp=>?_, ?_,fun b hb=>?_,rv.append (.cons r7 .nil),w8⟩
   ·have e:p=(D,{ cls:=.type "list",data:=.seq (its++[u7]).toArray (k+1) }):=by simpa using hp
    subst e
    exact⟨hD8',pD7.2.1,pD7.2.2.1,pD7.2.2.2.1,fun v z=>nomatch z⟩
   ·refine T.keep _ _ _ st5 fun b hb o e=>?_
    have hpb:=I7.pin (b,o) (Zt9 _ (Zt9 _ (VC hb e)))
    exact(hs8.2 b (ZtP (flt b hb))).trans hpb.1
   ·obtain⟨o,e,d⟩:=T.obj _ _ st5 b hb
    exact(I7.pin (b,o) (Zt9 _ (Zt9 _ (VC hb e)))).2.1
 exact codeAny_compStart_list (loop _ rfl) (T.self _ 0 _ _ _ (T.keep _ _ _ st fun b hb o e=>old b o e) (loop _ rfl))
theorem QE {wi:TI} (hi:PI X (.Name x px) iter wi) (he:∀C s₂ H₂ ex,PE (blk X scope x C ex s₂ H₂) elt te) (hNd:X.N.Nodup) (hc:X.calm=true)
  (hclos:closureFor scope X.env=pure (ZgF scope X.env):=by rfl) (hchk:Zbo X.N X.env.scope scope x=true:=by rfl) (hs:∀x,foldedSetIterable iter X.env x=pure x:=by exact fun _=>rfl) :
  PE X (.ListComp elt [⟨.Name x px,iter,[],0⟩] scope pos) (ZgM wi te):=by
 intro pins s σ H Q I h
 have sc:=Zan.of hchk
 rw[eval_ListComp]
 refine wpAny_comprehension_free (use:=none) rfl hs hclos sc.kind sc.locs (thn (hi pins s σ H _ I h) fun xv s₁ h₁=>thn h₁ fun itv s₂ h₂=>?_)
 obtain⟨it,fp,tn,J,H2,e,I2,T,st2,f2,q⟩:=h₂
 subst e
 refine ZdY (RR:=fun acc C=>compPost (model X.prog X.w) X.A X.xe none (EP X pins σ Q) acc C) I2 sc hNd hc T st2 f2 q he ?_
 intro D C s' H' m' hC I' hn hC0 hq
 refine⟨m',hn,fun h'' hs''=>⟨.ref D,H', ?_,rfl,hq⟩⟩
 refine I'.turned (t':=s'.toks) (it:=C) (fun b o hb e=>(hs''.2 b hb).trans e) hC0 (ZuC (ZtC I2.lt hC)) (.inr (ZtS I2.sz hC)) (fun y c e z=>?_) fun p hp z=>?_
 ·obtain⟨v,o,ho,hd⟩:=I2.cell y c e
  exact absurd (Heap.lt_size ho) (Nat.not_lt.mpr (by rw[z];exact hC))
 ·exact absurd (Heap.lt_size (I2.pin p hp).1) (Nat.not_lt.mpr (by rw[z];exact hC))
noncomputable def Zdh (i:Nat) (wi:TI) (te:TE):TS:=fun D σ H=>ZgM wi te σ H fun v H'=>D.nx (σ.set i (some v)) H'
theorem Zaz {i:Nat}{y:Str}{py spos:Pos}{wi:TI} (hN:X.N.Nodup) (hi:X.N[i]?=some y) (hit:PI X (.Name x px) iter wi) (he:∀C s₂ H₂ ex,PE (blk X scope x C ex s₂ H₂) elt te) (hc:X.calm=true)
  (hsw:swapsWith (.ListComp elt [⟨.Name x px,iter,[],0⟩] scope pos) (some (.Name y py)) spos.line X.env=pure true:=by rfl) (hy:X.env.scope.names.lookup y=some .local:=by rfl)
  (hclos:closureFor scope X.env=pure (ZgF scope X.env):=by rfl) (hchk:Zbo X.N X.env.scope scope x=true:=by rfl) (hs:∀x,foldedSetIterable iter X.env x=pure x:=by exact fun _=>rfl) :
  PS X (.Assign [.Name y py] (.ListComp elt [⟨.Name x px,iter,[],0⟩] scope pos) spos) (Zdh i wi te):=by
 intro pins s σ H D0 I h
 have sc:=Zan.of hchk
 rw[exec_Assign_Name_used _ _ _ _ hsw]
 refine wpAny_bind (wpAny_standAt (wpAny_bind ?_))
 show wpAny _ X.A (do let _ <- comprehension (.ListComp elt [⟨.Name x px,iter,[],0⟩] scope pos) scope X.env _ (newList []) false (eval iter X.env) (some (assign (.Name y py) X.env))) _ _ s
 refine wpAny_bind (wpAny_mono (wpAny_comprehension_free (use:=some (assign (.Name y py) X.env)) (Q:=fun _ s'=>SP X pins D0 .next s') rfl hs hclos sc.kind sc.locs
  (thn (hit pins s σ H _ I h) fun xv s₁ h₁=>thn h₁ fun itv s₂ h₂=>?_)) (fun _ s' hq=>wpAny_pure (wpAny_pure hq)) fun _ _ e=>e)
 obtain⟨it,fp,tn,J,H2,e,I2,T,st2,f2,q⟩:=h₂
 subst e
 refine ZdY (RR:=fun acc C=>compPost (model X.prog X.w) X.A X.xe (some (assign (.Name y py) X.env)) (fun _ s'=>SP X pins D0 .next s') acc C) I2 sc hN hc T st2 f2 q he ?_
 intro D C s' H' m' hC I' hn hC0 hq
 show wpAny _ X.A (assign (.Name y py) X.env (.ref D)) _ _ _
 have cellC:∀y c,X.env.cells.lookup y=some c->c≠C:=fun y c e z=>by
  obtain⟨v,o,ho,hd⟩:=I2.cell y c e
  exact absurd (Heap.lt_size ho) (Nat.not_lt.mpr (by rw[z];exact hC))
 have locC:C≠X.env.locals:=ZuC (ZtC I2.lt hC)
 refine wpAny_assign_Name (Zb5 (i:=i) (v:=.ref D) I' hN hi (.inl hy) rfl (fun s'' I'' ⟨a,hsa,ha⟩=>?_) (.inr hy))
 have hCa:C≠a:=by
  rcases ha with z|z
  ·rw[z];exact locC
  ·exact(cellC _ _ z).symm
 refine⟨m',hn.sameBut hsa hCa,fun h'' hs''=>⟨σ.set i (some (.ref D)),H', ?_,hq⟩⟩
 refine I''.turned (t':=s''.toks) (it:=C) (fun b o hb e=>(hs''.2 b hb).trans e) hC0 locC (.inr (ZtS I2.sz hC)) cellC fun p hp z=>?_
 exact absurd (Heap.lt_size (I2.pin p hp).1) (Nat.not_lt.mpr (by rw[z];exact hC))
end
end L2
namespace HL
open PySem PyProof.Rows
section
open PySem.SeqAt
open PySem.AutoSeq1 (wpAny_loadPart')
open PySem.MeetsSeq PySem.MeetsSeq2 PySem.MeetsSeq3 SeqRoads2
end
section
end
end HL
namespace L2
open PySem PySem.Spec PyProof.Rows
section
variable {X:Cx}
theorem ZhN (hc:X.calm=true):Vg X (.builtin "sum") (fun xs H Q=>∃p,∃ns:List Int,xs=[.ref p]/\SqL X.K H p (ns.map V.int)/\Q (.int ns.sum) H):=by
 intro pins s σ H xs us Q I r h
 obtain⟨p,ns,rfl,hq,q⟩:=h
 obtain⟨u,rfl,rx⟩:=ZaJ r
 cases rx
 obtain⟨its,r',pl,hz⟩:=I.list hq
 have hi:IntsAre its ns:=Za8 r'
 obtain⟨xs,hx⟩:=hi.allInts.items
 have hl':s.heap.IsList p (intItems xs):=hx▸pl.isList
 refine sum_intListG (I.ok.hd hc) hl' fun h' tk t' hk=>?_
 have e1:ns=xs.toList.map (·.1):=by
  rw[<- nums_intItems,<- hx]
  exact(show numsOf its.toArray.toList=ns from hi.numsOf).symm
 have e2:preSum (numAt xs) xs.size=ns.sum:=by
  rw[preSum_eq,List.take_of_length_le (by simp),e1]
 rw[e2]
 exact⟨.int ns.sum,H,I.kept hk,⟨_,rfl⟩,q⟩
theorem Zal:∀{bs:List Bool}{us:List Value},ZT (bs.map V.bl) us->LSm.BoolsAre us bs
 |[],_,.nil=>.nil
 |b::bs,_,.cons r t=>by
  cases r
  exact .cons b (Zal t)
theorem ZhO (hc:X.calm=true):Vg X (.builtin "all") (fun xs H Q=>∃p,∃bs:List Bool,xs=[.ref p]/\SqL X.K H p (bs.map V.bl)/\Q (.bl (bs.all id)) H):=by
 intro pins s σ H xs us Q I r h
 obtain⟨p,bs,rfl,hq,q⟩:=h
 obtain⟨u,rfl,rx⟩:=ZaJ r
 cases rx
 obtain⟨its,r',pl,hz⟩:=I.list hq
 have hb:=Zal r'
 have hlt:p<s.heap.objs.size:=by obtain⟨_,e,_⟩:=pl.isList;exact Heap.lt_size e
 refine call_all_walk (wpAny_pyIter_list pl.isList ?_)
 refine⟨s.heap.objs.size,[s.heap.objs.size,p],[s.heap.objs.size],its.toArray.size,_,_,fun i=>(bs[i]?).getD true,rfl,Walks.list (A:=X.A.in1) (I.ok.hd hc) _ p (ZtP hlt) its.toArray,
  ⟨⟨_,Heap.get?_push_size _ rfl,rfl,rfl⟩,pl.isList.push _⟩,fun i v s' Q' E' hP hQ=>?_,fun h' tk hk=>?_⟩
 ·obtain⟨b,e,rfl⟩:=hb.get i v (by simpa using hP)
  dsimp only at hQ
  rw[e,ZuH] at hQ
  exact wpAny_truthy_bool hQ
 ·rw[ZtB,hb.length,LSm.range_all]
  exact⟨.bl (bs.all id),H,I.kept (LSm.kept_iter hk),rfl,q⟩
end
end L2
namespace HL
open PySem PyProof.Rows
section
end
section
open PySem.SeqAt
open PySem.AutoSeq1 (wpAny_loadPart')
open PySem.MeetsSeq PySem.MeetsSeq2 PySem.MeetsSeq3
end
end HL
namespace HL
open PySem
end HL
namespace L2
open PySem PySem.Spec PyProof.Rows
section
variable {X:Cx}
theorem Zgu (hc:X.calm=true):Vg X (.builtin "min") (fun xs H Q=>∃p,∃ns:List Int,xs=[.ref p]/\SqL X.K H p (ns.map V.int)/\0<ns.length/\∀m,m∈ns->(∀a∈ns,m<=a)->Q (.int m) H):=by
 intro pins s σ H xs us Q I r h
 obtain⟨p,ns,rfl,hq,hne,q⟩:=h
 obtain⟨u,rfl,rx⟩:=ZaJ r
 cases rx
 obtain⟨its,r',pl,hz⟩:=I.list hq
 have hi:IntsAre its ns:=Za8 r'
 obtain⟨zs,e⟩:=hi.allInts.items
 have hns:ns=zs.toList.map (·.1):=by rw[<- hi.numsOf,<- nums_intItems,<- e]
 have hsz:0<zs.size:=by
  have h3:=hne
  rw[hns,Zt7,Zuj] at h3
  exact h3
 have hl:=pl.isList
 rw[e] at hl
 refine min_intList (I.ok.hd hc) hl hsz fun v h' tk hv hk=>?_
 obtain⟨t,rfl⟩:=intItems_at hv
 obtain⟨h1,h2⟩:=argBest_lt (numAt zs) (zs.size-1)
 refine⟨.int _,H,I.kept hk,⟨_,rfl⟩,q _ ?_ fun a ha=>?_⟩
 ·rw[hns,numAt_eq];exact getD_mem (by rw[Zt7,Zuj];omega)
 ·rw[hns] at ha
  obtain⟨j,hj,rfl⟩:=mem_getD ha
  rw[Zt7,Zuj] at hj
  rw[<- numAt_eq];exact h2 j (by omega)
def Zkk (K:W.Frag):List V->Hp->VK->Prop:=fun xs H Q=>∃p,∃ns:List Int,xs=[.ref p]/\SqL K H p (ns.map V.int)/\0<ns.length/\∀m,m∈ns->(∀a∈ns,m<=a)->Q (.int m) H
end
def Dfn (K:W.Frag) (mg:Str->Option Value) (x:Str) (st:Stmt):Prop:=∃f fd,Fun K x x st f fd/\mg x=some (.ref f)
noncomputable abbrev ZD (x:Str) (st:Stmt) (ps:List Str):Prop:=∀(kV doc pm:Value) (an:Option Addr) (cdv ct:Value) (us:List Value),us.length=ps.length ->
 bindArgs (PySem.W.fnOf x x (Zo st) (Zn st) (Zd st) .none kV doc pm an cdv ct) ⟨us,[]⟩=pure (ps.zip us)
def Ok (P:Program) (w:World) (K:W.Frag) (mg:Str->Option Value) (base:Heap) (k:Nat) (x:Str) (ps:List Str) (sp:Sp):Prop:=
 ∃f fd,Jd P w K mg base CX0 k f fd ps sp/\mg x=some (.ref f)/\PySem.W.keepIn K (.ref f)=true/\UK K fd ps []
theorem Zcy {P:Program}{w:World}{K:W.Frag}{mg:Str->Option Value}{base:Heap}{k:Nat}{x:Str}{st:Stmt}{ps:List Str}{sp:Sp} (d:Dfn K mg x st) (b:ZD x st ps)
  (h:∀{f fd},Fun K x x st f fd->Jd P w K mg base CX0 k f fd ps sp):Ok P w K mg base k x ps sp:=by
 obtain⟨f,fd,F,hm⟩:=d
 exact⟨f,fd,h F,hm,F.kp,F.binds b⟩
section
variable {X:Cx}{k:Nat}{x:Str}{ps:List Str}{sp:Sp}{p pos:Pos}{e:Expr}{es:List Expr}{t:TA}
noncomputable def Vp (sp:Sp) (t:TA):TE:=fun σ H Q=>t σ H fun vs H1=>sp vs H1 Q E0
theorem ZS (G:Ok X.prog X.w X.K X.mg X.base k x ps sp) (hr:Vu k X.A) (hg:Gl X x) (ha:PA X (e::es) t) (hdb:(x==("__debug__":Str))=false:=by decide)
  (he:starEach (e::es) X.env=(false,eval e X.env)::starEach es X.env:=by rfl) (hpl:(backTo pos (starEach es X.env)).any (·.1)=false:=by rfl):PE X (.Call (.Name x p) (e::es) [] pos) (Vp sp t):=by
 obtain⟨f,fd,F,hm,hk,hb⟩:=G
 intro pins s σ H Q I h
 refine ZiM (CX:=CX0) (E:=E0) (dvs:=[]) F hr hg hm hk hb .nil Zen ha hdb he hpl pins s σ H Q I ?_
 have e:(fun vs H1=>sp (vs++[]) H1 Q E0)=fun vs H1=>sp vs H1 Q E0:=by funext vs H1;rw[ZtW]
 show t σ H (fun vs H1=>sp (vs++[]) H1 Q E0)
 rw[e]
 exact h
theorem Zfj (G:Ok X.prog X.w X.K X.mg X.base k x ps sp) (hr:Vu k X.A) (hg:Gl X x) (hdb:(x==("__debug__":Str))=false:=by decide):PE X (.Call (.Name x p) [] [] pos) (Vp sp Zcx):=by
 obtain⟨f,fd,F,hm,hk,hb⟩:=G
 exact ZgZ (CX:=CX0) (E:=E0) (dvs:=[]) F hr hg hm hk hb .nil Zen hdb
theorem Zdy {i:Int} (hm:∃t,X.mg x=some (.int i t)) (hg:Gl X x) (hd:(x==("__debug__":Str))=false:=by decide):PE X (.Name x pos) (tC (.int i)):=by
 obtain⟨t,hm⟩:=hm
 exact ZaT (v:=.int i) hg hm ⟨t,rfl⟩ hd
theorem Zh5:ZmF X (Zkl X.K):=by
 intro pins s σ H o i ov iv Q I ro ri h
 obtain⟨p,xs,i,z,rfl,rfl,hq,he,q⟩:=h
 cases ro
 obtain⟨t,rfl⟩:=ri
 obtain⟨its,r,pl,hz⟩:=I.list hq
 obtain⟨j,h1,h2,h3,h4,h5⟩:=Zbu he
 obtain⟨w,ew,rw'⟩:=r.get h2
 have hl:=r.length
 have hn:=Za5
 have fin:EP X pins σ Q w s:=⟨z,H,I,rw',q⟩
 by_cases h0:0<=i
 ·have hj:i.toNat=j:=by
   rw[seqIndex_of h0 h5] at h1
   exact Option.some.inj h1
  exact wpAny_getItem_list pl.isList h0 (by omega) (by rw[hj];simpa using ew) fin
 ·have hj:(i+(its.toArray.size:Int)).toNat=j:=by
   rw[seqIndex_neg (by omega) h4] at h1
   rw[ZtB,<- hl]
   exact Option.some.inj h1
  exact wpAny_getItem_list_neg pl.isList (by omega) (by rw[ZtB]<;>omega) (by omega) (by rw[hj];simpa using ew) fin
end
theorem Zgv {X:Cx}:Vg X (.builtin "len") (fun xs H Q=>∃p ys,xs=[.ref p]/\(SqL X.K H p ys\/SqT X.K H p ys)/\Q (.int ys.length) H):=Zco
theorem JR:bootBuiltins "len"=some (.builtin "len"):=by decide +kernel
theorem Z8:bootBuiltins "isinstance"=some (.builtin "isinstance"):=by decide +kernel
theorem Zg3:bootBuiltins "sum"=some (.builtin "sum"):=by decide +kernel
theorem Zlz:bootBuiltins "all"=some (.builtin "all"):=by decide +kernel
theorem Zly:bootBuiltins "min"=some (.builtin "min"):=by decide +kernel
theorem JX:bootBuiltins "list"=some (.type "list"):=by decide +kernel
theorem Zg0:bootBuiltins "int"=some (.type "int"):=by decide +kernel
theorem ZcW:bootBuiltins "bool"=some (.type "bool"):=by decide +kernel
section
variable {X:Cx}{K:W.Frag}
theorem Zu (e:X.K=K:=by rfl):IxR X (rIx K):=by subst e;exact ZkL
theorem ZQ (e:X.K=K:=by rfl):Vg X (.builtin "len") (fun xs H Q=>∃p ys,xs=[.ref p]/\(SqL K H p ys\/SqT K H p ys)/\Q (.int ys.length) H):=by subst e;exact Zgv
theorem Zak (hc:X.calm=true) (e:X.K=K:=by rfl):Vg X (.builtin "sum") (fun xs H Q=>∃p,∃ns:List Int,xs=[.ref p]/\SqL K H p (ns.map V.int)/\Q (.int ns.sum) H):=by subst e;exact ZhN hc
theorem Zgx (hc:X.calm=true) (e:X.K=K:=by rfl):Vg X (.builtin "all") (fun xs H Q=>∃p,∃bs:List Bool,xs=[.ref p]/\SqL K H p (bs.map V.bl)/\Q (.bl (bs.all id)) H):=by subst e;exact ZhO hc
theorem JA (e:X.K=K:=by rfl):Vg X (.type "list") (fun xs H Q=>∃p ys,xs=[.ref p]/\(SqL K H p ys\/SqT K H p ys)/\∀l,H l=none->Q (.ref l) (upd H l (.lst ys))):=by subst e;exact Zcn
theorem ZgQ (e:X.K=K:=by rfl):SlR X (ZlV K):=by subst e;exact ZiA
theorem Zcd (e:X.K=K:=by rfl):ZmF X (Zkl K):=by subst e;exact Zh5
theorem J6 {tg l:Expr}{tl:TE} (hl:PE X l tl) (e:X.K=K:=by rfl):PI X tg l (Zjg K tl):=by subst e;exact ZiJ hl
variable {u:TS}{H:Hp}{b:TA}
theorem ZbX {n:Nat}{k:Int} (h0:0<=k) (h1:k<n):ixN n k=some k.toNat:=by unfold ixN;rw[if_pos h0,if_pos h1]
theorem Z5.upd {H H':Hp}{p:Addr}{o:HO} (h:Z5 H H') (hp:H p=none):Z5 H (upd H' p o):=fun b u e=>by
 rw[Zq (Zz e hp)]
 exact h b u e
theorem Z5.new {H:Hp}{p:Addr}{o:HO} (hp:H p=none):Z5 H (L2.upd H p o):=Z5.upd (Z5.refl H) hp
theorem Uv {n:Nat} (h:n<=1000):n<=sizeLine:=ZtS h (by decide)
end
inductive Sh where
 |dk (ks:List Key)|dt (ks:List (List Key))|ob (n:Str) (fs:List Str)
  |jk
  |ls
inductive PV where
 |non|bl (b:Bool)|int (i:Int)|str (x:Str)|lst (xs:List PV)|tup (xs:List PV)
  |exc (n:Str)
  |exa (n:Str) (i:Int)
  |box (p:Option Addr) (s:Sh) (xs:List PV)
  |fz (xs:List PV)
mutual
noncomputable def PV.flat:PV->Bool
 |.lst _=>false
 |.tup xs=>PV.flats xs
 |.non=>true
 |.bl _=>true
 |.int _=>true
 |.str _=>true
 |.exc _=>true
 |.exa _ _=>true
 |.box _ _ _=>false
 |.fz xs=>PV.flats xs
noncomputable def PV.flats:List PV->Bool
 |[]=>true
 |x::xs=>x.flat&&PV.flats xs
end
def KL (K:W.Frag) (a:Addr) (xs:List V):Prop:=
 ∃(o:Obj) (its:Array Value) (n:Nat),K.lookup a=some o/\o.cls=.type "list"/\o.dict=none/\o.data=.seq its n/\its.size<=sizeLine/\ZT xs its.toList
noncomputable def ImO:HO->Prop
 |.tup _=>True
 |.frz _ _=>True
 |.xd _=>True
 |_=>False
def Im (K:W.Frag) (H:Hp) (a:Addr) (u:HO):Prop:=H a=some u/\ImO u
noncomputable def Lvo:HO->Prop
 |.lst _=>True
 |.dK _=>True
 |.dT _=>True
 |.ins _ _ _=>True
 |_=>False
noncomputable abbrev LvO:={ u:HO // Lvo u }
def VP (K:W.Frag) (n:Str) (C:Addr):Prop:=PySem.W.nsIn K mainGlobals n=some (some (.ref C))
def ZjD (K:W.Frag) (H:Hp) (n:Str) (v:V):Prop:=∃a o C,v=.ref a/\Im K H a (.frz o (.own a))/\o.cls=.ref C/\o.dict=none/\PySem.W.notCls o=true/\VP K n C
def ZjE (K:W.Frag) (H:Hp) (n:Str) (i:Int) (v:V):Prop:=∃a o C d fs,v=.ref a/\Im K H a (.frz o (.own a))/\Im K H d (.xd fs)/\o.cls=.ref C/\o.dict=some d/\PySem.W.notCls o=true/\VP K n C/\fs=[(("at":Str),V.int i)]
noncomputable def ZjQ (K:W.Frag):Sh->List V->HO->Prop
 |.dk ks,vs,u=>ks.length=vs.length/\u=.dK (ks.zip vs)
 |.dt ks,vs,u=>ks.length=vs.length/\u=.dT (ks.zip vs)
 |.ob n fs,vs,u=>fs.length=vs.length/\∃C dx,u=.ins C dx (fs.zip vs)/\VP K n C
 |.jk,vs,u=>vs=[]/\∃ws,u=.lst ws
 |.ls,vs,u=>u=.lst vs
def Zl2 (p:Option Addr) (a:Addr):Prop:=match p with
 |none=>True
 |some b=>a=b
theorem ZjQ.lv {K:W.Frag}{s:Sh}{vs:List V}{u:HO} (h:ZjQ K s vs u):Lvo u:=by
 cases s with
 |dk ks=>obtain⟨_,rfl⟩:=h;trivial
 |dt ks=>obtain⟨_,rfl⟩:=h;trivial
 |ob n fs=>obtain⟨_,C,dx,rfl,_⟩:=h;trivial
 |jk=>obtain⟨_,ws,rfl⟩:=h;trivial
 |ls=>cases h;trivial
theorem Qs {u o:HO} (h:Lvo u) (h':ImO o):o≠u:=by
 intro e;subst e
 cases o<;>first|exact h|exact h'
def FzL (K:W.Frag) (H:Hp) (a:Addr) (vs:List V):Prop:=∃o,Im K H a (.frz o (.lst vs))
mutual
noncomputable def Rep (K:W.Frag) (H:Hp) (S:Addr->Prop):PV->V->Prop
 |.non,v=>v=.non
 |.bl b,v=>v=.bl b
 |.int i,v=>v=.int i
 |.str x,v=>v=.str x
 |.exc n,v=>ZjD K H n v
 |.exa n i,v=>ZjE K H n i v
 |.box p s xs,v=>∃a vs u,v=.ref a/\(Rd H a u/\S a)/\(Zl2 p a/\ZjQ K s vs u)/\Reps K H S xs vs
 |.lst xs,v=>∃a vs,v=.ref a/\((Rd H a (.lst vs)/\S a)\/KL K a vs)/\Reps K H S xs vs
 |.tup xs,v=>∃a vs,v=.ref a/\Im K H a (.tup vs)/\Reps K H S xs vs
 |.fz xs,v=>∃a vs,v=.ref a/\FzL K H a vs/\Reps K H S xs vs
noncomputable def Reps (K:W.Frag) (H:Hp) (S:Addr->Prop):List PV->List V->Prop
 |[],vs=>vs=[]
 |x::xs,vs=>∃v r,vs=v::r/\Rep K H S x v/\Reps K H S xs r
end
mutual
noncomputable def Jc (K:W.Frag) (H:Hp):PV->V->List Addr->Prop
 |.non,v,F=>v=.non/\F=[]
 |.bl b,v,F=>v=.bl b/\F=[]
 |.int i,v,F=>v=.int i/\F=[]
 |.str x,v,F=>v=.str x/\F=[]
 |.exc n,v,F=>ZjD K H n v/\F=[]
 |.exa n i,v,F=>ZjE K H n i v/\F=[]
 |.box p s xs,v,F=>∃a vs u G,v=.ref a/\H a=some u/\(Zl2 p a/\ZjQ K s vs u)/\Trees K H xs vs G/\a ∉ G/\F=a::G
 |.lst xs,v,F=>∃a vs G,v=.ref a/\H a=some (.lst vs)/\Trees K H xs vs G/\a ∉ G/\F=a::G
 |.tup xs,v,F=>∃a vs,v=.ref a/\Im K H a (.tup vs)/\Trees K H xs vs F
 |.fz xs,v,F=>∃a vs,v=.ref a/\FzL K H a vs/\Trees K H xs vs F
noncomputable def Trees (K:W.Frag) (H:Hp):List PV->List V->List Addr->Prop
 |[],vs,F=>vs=[]/\F=[]
 |x::xs,vs,F=>∃v r G1 G2,vs=v::r/\Jc K H x v G1/\Trees K H xs r G2/\(∀a∈G1,a ∉ G2)/\F=G1++G2
end
section
variable {K:W.Frag}{H H':Hp}{S S':Addr->Prop}
mutual
theorem Rep.mono (h1:∀a u,S a->Rd H a u->Rd H' a u/\S' a) (h2:∀a u,Im K H a u->Im K H' a u):∀{x:PV}{v:V},Rep K H S x v->Rep K H' S' x v
 |.non,_,h=>h
 |.bl _,_,h=>h
 |.int _,_,h=>h
 |.str _,_,h=>h
 |.exc n,_,h=>let ⟨a,o,C,e1,e2,e3⟩:=h;⟨a,o,C,e1,h2 a _ e2,e3⟩
 |.exa n i,_,h=>let ⟨a,o,C,d,fs,e1,e2,e2',e3⟩:=h;⟨a,o,C,d,fs,e1,h2 a _ e2,h2 d _ e2',e3⟩
 |.box p s xs,_,h=>by
  obtain⟨a,vs,u,rfl,⟨n1,n2⟩,hb,hr⟩:=h
  exact⟨a,vs,u,rfl,h1 a u n2 n1,hb,Reps.mono h1 h2 hr⟩
 |.lst xs,_,h=>by
  obtain⟨a,vs,rfl,hn,hr⟩:=h
  refine⟨a,vs,rfl, ?_,Reps.mono h1 h2 hr⟩
  rcases hn with ⟨n1,n2⟩|n
  ·exact .inl (h1 a _ n2 n1)
  ·exact .inr n
 |.tup xs,_,h=>by
  obtain⟨a,vs,rfl,hn,hr⟩:=h
  exact⟨a,vs,rfl,h2 a _ hn,Reps.mono h1 h2 hr⟩
 |.fz xs,_,h=>by
  obtain⟨a,vs,rfl,⟨o,hn⟩,hr⟩:=h
  exact⟨a,vs,rfl,⟨o,h2 a _ hn⟩,Reps.mono h1 h2 hr⟩
theorem Reps.mono (h1:∀a u,S a->Rd H a u->Rd H' a u/\S' a) (h2:∀a u,Im K H a u->Im K H' a u):∀{xs:List PV}{vs:List V},Reps K H S xs vs->Reps K H' S' xs vs
 |[],_,h=>h
 |x::xs,_,h=>by
  obtain⟨v,r,rfl,h3,h4⟩:=h
  exact⟨v,r,rfl,Rep.mono h1 h2 h3,Reps.mono h1 h2 h4⟩
end
mutual
theorem Jc.mono:∀{x:PV}{v:V}{F:List Addr},(∀a∈F,∀o,H a=some o->H' a=some o)->(∀a vs,Im K H a vs->Im K H' a vs)->Jc K H x v F->Jc K H' x v F
 |.non,_,_,_,_,h=>h
 |.bl _,_,_,_,_,h=>h
 |.int _,_,_,_,_,h=>h
 |.str _,_,_,_,_,h=>h
 |.exc n,_,_,_,h2,h=>let ⟨⟨a,o,C,e1,e2,e3⟩,e4⟩:=h;⟨⟨a,o,C,e1,h2 a _ e2,e3⟩,e4⟩
 |.exa n i,_,_,_,h2,h=>let ⟨⟨a,o,C,d,fs,e1,e2,e2',e3⟩,e4⟩:=h;⟨⟨a,o,C,d,fs,e1,h2 a _ e2,h2 d _ e2',e3⟩,e4⟩
 |.box p s xs,_,_,h1,h2,h=>by
  obtain⟨a,vs,u,G,rfl,ha,hb,ht,hn,rfl⟩:=h
  exact⟨a,vs,u,G,rfl,h1 a (by simp) _ ha,hb,Trees.mono (fun b hb o e=>h1 b (by simp[hb]) o e) h2 ht,hn,rfl⟩
 |.lst xs,_,_,h1,h2,h=>by
  obtain⟨a,vs,G,rfl,ha,ht,hn,rfl⟩:=h
  exact⟨a,vs,G,rfl,h1 a (by simp) _ ha,Trees.mono (fun b hb o e=>h1 b (by simp[hb]) o e) h2 ht,hn,rfl⟩
 |.tup xs,_,_,h1,h2,h=>by
  obtain⟨a,vs,rfl,ha,ht⟩:=h
  exact⟨a,vs,rfl,h2 a _ ha,Trees.mono h1 h2 ht⟩
 |.fz xs,_,_,h1,h2,h=>by
  obtain⟨a,vs,rfl,⟨o,ha⟩,ht⟩:=h
  exact⟨a,vs,rfl,⟨o,h2 a _ ha⟩,Trees.mono h1 h2 ht⟩
theorem Trees.mono:∀{xs:List PV}{vs:List V}{F:List Addr},(∀a∈F,∀o,H a=some o->H' a=some o)->(∀a vs,Im K H a vs->Im K H' a vs)->Trees K H xs vs F->Trees K H' xs vs F
 |[],_,_,_,_,h=>h
 |x::xs,_,_,h1,h2,h=>by
  obtain⟨v,r,G1,G2,rfl,h3,h4,hd,rfl⟩:=h
  exact⟨v,r,G1,G2,rfl,Jc.mono (fun b hb o e=>h1 b (by simp[hb]) o e) h2 h3,Trees.mono (fun b hb o e=>h1 b (by simp[hb]) o e) h2 h4,hd,rfl⟩
end
mutual
theorem Jc.rep:∀{x:PV}{v:V}{F:List Addr},(∀a∈F,S a)->Jc K H x v F->Rep K H S x v
 |.non,_,_,_,h=>h.1
 |.bl _,_,_,_,h=>h.1
 |.int _,_,_,_,h=>h.1
 |.str _,_,_,_,h=>h.1
 |.exc _,_,_,_,h=>h.1
 |.exa _ _,_,_,_,h=>h.1
 |.box p s xs,_,_,h1,h=>by
  obtain⟨a,vs,u,G,rfl,ha,hb,ht,hn,rfl⟩:=h
  exact⟨a,vs,u,rfl,⟨.inl ha,h1 a (by simp)⟩,hb,Trees.reps (fun b hb=>h1 b (by simp[hb])) ht⟩
 |.lst xs,_,_,h1,h=>by
  obtain⟨a,vs,G,rfl,ha,ht,hn,rfl⟩:=h
  exact⟨a,vs,rfl,.inl ⟨.inl ha,h1 a (by simp)⟩,Trees.reps (fun b hb=>h1 b (by simp[hb])) ht⟩
 |.tup xs,_,_,h1,h=>by
  obtain⟨a,vs,rfl,ha,ht⟩:=h
  exact⟨a,vs,rfl,ha,Trees.reps h1 ht⟩
 |.fz xs,_,_,h1,h=>by
  obtain⟨a,vs,rfl,ha,ht⟩:=h
  exact⟨a,vs,rfl,ha,Trees.reps h1 ht⟩
theorem Trees.reps:∀{xs:List PV}{vs:List V}{F:List Addr},(∀a∈F,S a)->Trees K H xs vs F->Reps K H S xs vs
 |[],_,_,_,h=>h.1
 |x::xs,_,_,h1,h=>by
  obtain⟨v,r,G1,G2,rfl,h3,h4,hd,rfl⟩:=h
  exact⟨v,r,rfl,Jc.rep (fun b hb=>h1 b (by simp[hb])) h3,Trees.reps (fun b hb=>h1 b (by simp[hb])) h4⟩
end
mutual
theorem Jc.alive:∀{x:PV}{v:V}{F:List Addr},Jc K H x v F->∀a∈F,∃vs:LvO,H a=some vs.1
 |.non,_,_,h=>by rw[h.2];simp
 |.bl _,_,_,h=>by rw[h.2];simp
 |.int _,_,_,h=>by rw[h.2];simp
 |.str _,_,_,h=>by rw[h.2];simp
 |.exc _,_,_,h=>by rw[h.2];simp
 |.exa _ _,_,_,h=>by rw[h.2];simp
 |.box p s xs,_,_,h=>by
  obtain⟨a,vs,u,G,rfl,ha,hb,ht,hn,rfl⟩:=h
  intro b hb'
  rcases ZtE.mp hb' with rfl|hb'
  ·exact⟨⟨u,hb.2.lv⟩,ha⟩
  ·exact Trees.alive ht b hb'
 |.lst xs,_,_,h=>by
  obtain⟨a,vs,G,rfl,ha,ht,hn,rfl⟩:=h
  intro b hb
  rcases ZtE.mp hb with rfl|hb
  ·exact⟨⟨.lst vs,trivial⟩,ha⟩
  ·exact Trees.alive ht b hb
 |.tup xs,_,_,h=>by
  obtain⟨a,vs,rfl,ha,ht⟩:=h
  exact Trees.alive ht
 |.fz xs,_,_,h=>by
  obtain⟨a,vs,rfl,ha,ht⟩:=h
  exact Trees.alive ht
theorem Trees.alive:∀{xs:List PV}{vs:List V}{F:List Addr},Trees K H xs vs F->∀a∈F,∃vs:LvO,H a=some vs.1
 |[],_,_,h=>by rw[h.2];simp
 |x::xs,_,_,h=>by
  obtain⟨v,r,G1,G2,rfl,h3,h4,hd,rfl⟩:=h
  intro b hb
  rcases ZtA.mp hb with hb|hb
  ·exact Jc.alive h3 b hb
  ·exact Trees.alive h4 b hb
end
mutual
theorem Rep.tree:∀{x:PV}{v:V},x.flat=true->Rep K H S x v->Jc K H x v []
 |.non,_,_,h=>⟨h,rfl⟩
 |.bl _,_,_,h=>⟨h,rfl⟩
 |.int _,_,_,h=>⟨h,rfl⟩
 |.str _,_,_,h=>⟨h,rfl⟩
 |.exc _,_,_,h=>⟨h,rfl⟩
 |.exa _ _,_,_,h=>⟨h,rfl⟩
 |.box p s xs,_,f,_=>by simp[PV.flat] at f
 |.lst xs,_,f,_=>by simp[PV.flat] at f
 |.tup xs,_,f,h=>by
  obtain⟨a,vs,rfl,ha,ht⟩:=h
  exact⟨a,vs,rfl,ha,Reps.trees (by simpa[PV.flat] using f) ht⟩
 |.fz xs,_,f,h=>by
  obtain⟨a,vs,rfl,ha,ht⟩:=h
  exact⟨a,vs,rfl,ha,Reps.trees (by simpa[PV.flat] using f) ht⟩
theorem Reps.trees:∀{xs:List PV}{vs:List V},PV.flats xs=true->Reps K H S xs vs->Trees K H xs vs []
 |[],_,_,h=>⟨h,rfl⟩
 |x::xs,_,f,h=>by
  obtain⟨v,r,rfl,h3,h4⟩:=h
  simp only[PV.flats,Bool.and_eq_true] at f
  exact⟨v,r,[],[],rfl,Rep.tree f.1 h3,Reps.trees f.2 h4,by simp,rfl⟩
end
theorem Rep.any (h:Rep K H S x v):Rep K H (fun _=>True) x v:=Rep.mono (fun a vs _ r=>⟨r,trivial⟩) (fun a vs r=>r) h
theorem Reps.any (h:Reps K H S xs vs):Reps K H (fun _=>True) xs vs:=Reps.mono (fun a vs _ r=>⟨r,trivial⟩) (fun a vs r=>r) h
theorem Rep.flatS {x:PV}{v:V} (f:x.flat=true) (h:Rep K H S x v):Rep K H S' x v:=Jc.rep (F:=[]) (by simp) (Rep.tree f h)
theorem Reps.flatS {xs:List PV}{vs:List V} (f:PV.flats xs=true) (h:Reps K H S xs vs):Reps K H S' xs vs:=Trees.reps (F:=[]) (by simp) (Reps.trees f h)
theorem Reps.length:∀{xs:List PV}{vs:List V},Reps K H S xs vs->vs.length=xs.length
 |[],_,h=>by rw[h];rfl
 |x::xs,_,h=>by
  obtain⟨v,r,rfl,h3,h4⟩:=h
  simp[Reps.length h4]
theorem Trees.length {xs:List PV}{vs:List V}{F:List Addr} (h:Trees K H xs vs F):vs.length=xs.length:=(Trees.reps (S:=fun _=>True) (fun _ _=>trivial) h).length
theorem Reps.get:∀{xs:List PV}{vs:List V}{i:Nat}{x:PV},Reps K H S xs vs->xs[i]?=some x->∃v,vs[i]?=some v/\Rep K H S x v
 |[],_,_,_,_,e=>by simp at e
 |y::xs,_,0,x,h,e=>by
  obtain⟨v,r,rfl,h3,h4⟩:=h
  simp at e;subst e
  exact⟨v,rfl,h3⟩
 |y::xs,_,i+1,x,h,e=>by
  obtain⟨v,r,rfl,h3,h4⟩:=h
  obtain⟨w,e1,e2⟩:=Reps.get (i:=i) h4 (by simpa using e)
  exact⟨w,by simpa using e1,e2⟩
theorem Reps.append:∀{xs ys:List PV}{vs ws:List V},Reps K H S xs vs->Reps K H S ys ws->Reps K H S (xs++ys) (vs++ws)
 |[],_,_,_,h,h'=>by rw[h];exact h'
 |x::xs,_,_,_,h,h'=>by
  obtain⟨v,r,rfl,h3,h4⟩:=h
  exact⟨v,r++_,rfl,h3,Reps.append h4 h'⟩
theorem Reps.one {x:PV}{v:V} (h:Rep K H S x v):Reps K H S [x] [v]:=⟨v,[],rfl,h,rfl⟩
theorem Reps.take:∀{xs:List PV}{vs:List V} (n:Nat),Reps K H S xs vs->Reps K H S (xs.take n) (vs.take n)
 |_,_,0,_=>by simp[Reps]
 |[],_,n+1,h=>by rw[h];rfl
 |y::xs,_,n+1,h=>by
  obtain⟨w,r,rfl,h3,h4⟩:=h
  exact⟨w,r.take n,rfl,h3,Reps.take n h4⟩
theorem Reps.drop:∀{xs:List PV}{vs:List V} (n:Nat),Reps K H S xs vs->Reps K H S (xs.drop n) (vs.drop n)
 |_,_,0,h=>h
 |[],_,n+1,h=>by rw[h];rfl
 |y::xs,_,n+1,h=>by
  obtain⟨w,r,rfl,h3,h4⟩:=h
  exact Reps.drop n h4
theorem Trees.append:∀{xs ys:List PV}{vs ws:List V}{F G:List Addr},Trees K H xs vs F->Trees K H ys ws G->(∀a∈F,a ∉ G)->Trees K H (xs++ys) (vs++ws) (F++G)
 |[],_,_,_,_,_,h,h',_=>by rw[h.1,h.2];exact h'
 |x::xs,_,_,_,_,_,h,h',hd=>by
  obtain⟨v,r,G1,G2,rfl,h3,h4,hd',rfl⟩:=h
  refine⟨v,r++_,G1,G2++_,rfl,h3,Trees.append h4 h' (fun a ha=>hd a (by simp[ha])),fun a ha z=>?_,by simp⟩
  rcases ZtA.mp z with z|z
  ·exact hd' a ha z
  ·exact hd a (by simp[ha]) z
theorem Trees.one {x:PV}{v:V}{F:List Addr} (h:Jc K H x v F):Trees K H [x] [v] F:=⟨v,[],F,[],rfl,h,⟨rfl,rfl⟩,by simp,by simp⟩
theorem PV.flats_all:∀{xs:List PV},PV.flats xs=true ↔ ∀x∈xs,x.flat=true
 |[]=>by simp[PV.flats]
 |x::xs=>by simp[PV.flats,PV.flats_all (xs:=xs)]
theorem PV.flats_ints (ns:List Int):PV.flats (ns.map PV.int)=true:=PV.flats_all.mpr (by simp[PV.flat])
theorem PV.flats_append {xs ys:List PV}:PV.flats (xs++ys)=(PV.flats xs&&PV.flats ys):=by
 induction xs with
 |nil=>simp[PV.flats]
 |cons x xs ih=>simp[PV.flats,ih,Bool.and_assoc]
theorem Rd.same (e:Z5 H H') (h:Rd H a u):Rd H' a u:=by
 rcases h with h|⟨o,h⟩
 ·exact .inl (e _ _ h)
 ·exact .inr ⟨o,e _ _ h⟩
theorem Z5.im (e:Z5 H H') {k:HO} (h:Im K H a k):Im K H' a k:=⟨e _ _ h.1,h.2⟩
theorem Im.sqT {vs:List V} (h:Im K H a (.tup vs)):SqT K H a vs:=.inl (.inl h.1)
theorem Rep.same (e:Z5 H H') (h:Rep K H S x v):Rep K H' S x v:=Rep.mono (fun a vs s r=>⟨r.same e,s⟩) (fun a vs r=>e.im r) h
theorem Reps.same (e:Z5 H H') (h:Reps K H S xs vs):Reps K H' S xs vs:=Reps.mono (fun a vs s r=>⟨r.same e,s⟩) (fun a vs r=>e.im r) h
theorem Jc.same (e:Z5 H H') (h:Jc K H x v F):Jc K H' x v F:=Jc.mono (fun a _ o q=>e a o q) (fun a vs r=>e.im r) h
theorem Trees.same (e:Z5 H H') (h:Trees K H xs vs F):Trees K H' xs vs F:=Trees.mono (fun a _ o q=>e a o q) (fun a vs r=>e.im r) h
theorem Im.putL {p:Addr}{us:LvO}{o:HO}{k:HO} (hp:H p=some us.1) (h:Im K H a k):Im K (upd H p o) a k:=
 ⟨by rw[Zq (Zk7 h.1 hp (Qs us.2 h.2))];exact h.1,h.2⟩
theorem Jc.putL {p:Addr}{us:LvO}{o:HO} (hp:H p=some us.1) (hS:p ∉ F) (h:Jc K H x v F):Jc K (upd H p o) x v F:=
 Jc.mono (fun a ha o q=>by
  have hne:a≠p:=fun z=>hS (z▸ha)
  rw[Zq hne];exact q) (fun a vs r=>Im.putL hp r) h
theorem Trees.putL {p:Addr}{us:LvO}{o:HO} (hp:H p=some us.1) (hS:p ∉ F) (h:Trees K H xs vs F):Trees K (upd H p o) xs vs F:=
 Trees.mono (fun a ha o q=>by
  have hne:a≠p:=fun z=>hS (z▸ha)
  rw[Zq hne];exact q) (fun a vs r=>Im.putL hp r) h
theorem Jc.put {p:Addr}{us:List V}{o:HO} (hp:H p=some (.lst us)) (hS:p ∉ F) (h:Jc K H x v F):Jc K (upd H p o) x v F:=Jc.putL (us:=⟨.lst us,trivial⟩) hp hS h
theorem Trees.put {p:Addr}{us:List V}{o:HO} (hp:H p=some (.lst us)) (hS:p ∉ F) (h:Trees K H xs vs F):Trees K (upd H p o) xs vs F:=Trees.putL (us:=⟨.lst us,trivial⟩) hp hS h
end
inductive Md|U|P|S|T|O
 deriving DecidableEq
def NO (B:Addr->Prop) (F:Nat->List Addr) (R:List Addr) (a:Addr):Prop:=B a/\a ∉ R/\∀i,a ∉ F i
def VS (K:W.Frag) (H:Hp) (S:Addr->Prop) (m:Md) (x:PV) (o:Option (Option V)) (G:List Addr):Prop:=match m with
 |.U=>G=[]
 |.P=>G=[]/\∃v,o=some (some v)/\x.flat=true/\Rep K H (fun _=>True) x v
 |.S=>G=[]/\∃v,o=some (some v)/\Rep K H S x v
 |.T=>∃a vs xs,o=some (some (.ref a))/\x=.lst xs/\H a=some (.lst vs)/\Reps K H S xs vs/\G=[a]
 |.O=>∃v,o=some (some v)/\Jc K H x v G
structure Ag (K:PySem.W.Frag) (B:Addr->Prop) (H0 H:Hp) (σ:St) (Γ:List Md) (ρ:List PV) (F:Nat->List Addr) (R:List Addr):Prop where
 same:Z5 H0 H
 own:∀a,H0 a=none->B a
 young:∀i,∀a∈F i,H0 a=none
 youngR:∀a∈R,H0 a=none
 live:∀i,∀a∈F i,∃vs:LvO,H a=some vs.1
 liveR:∀a∈R,∃vs:LvO,H a=some vs.1
 disj:∀i j,i≠j->∀a∈F i,a ∉ F j
 disjR:∀i,∀a∈F i,a ∉ R
 lenS:σ.length=Γ.length
 lenR:ρ.length=Γ.length
 slot:∀i,VS K H (NO B F R) (Γ.getD i .U) (ρ.getD i .non) σ[i]? (F i)
theorem VS.mono {K:W.Frag}{H H':Hp}{S S':Addr->Prop}{m:Md}{x:PV}{o:Option (Option V)}{G:List Addr} (h:VS K H S m x o G) (h1:∀a u,S a->Rd H a u->Rd H' a u/\S' a)
  (h2:∀a u,Im K H a u->Im K H' a u) (h3:∀a∈G,∀u,H a=some u->H' a=some u):VS K H' S' m x o G:=by
 cases m with
 |U=>exact h
 |P =>
  obtain⟨e,v,h4,h5,h6⟩:=h
  exact⟨e,v,h4,h5,Jc.rep (F:=[]) (by simp) (Jc.mono (by simp) h2 (Rep.tree h5 h6))⟩
 |S =>
  obtain⟨e,v,h4,h5⟩:=h
  exact⟨e,v,h4,Rep.mono h1 h2 h5⟩
 |T =>
  obtain⟨a,vs,xs,h4,h5,h6,h7,rfl⟩:=h
  exact⟨a,vs,xs,h4,h5,h3 a (by simp) _ h6,Reps.mono h1 h2 h7,rfl⟩
 |O =>
  obtain⟨v,h4,h5⟩:=h
  exact⟨v,h4,Jc.mono (fun a ha o q=>h3 a ha o q) h2 h5⟩
section
variable {K:W.Frag}{B:Addr->Prop}{H0 H H':Hp}{σ:St}{Γ:List Md}{ρ:List PV}{F:Nat->List Addr}{R R':List Addr}
theorem Ag.grow (A:Ag K B H0 H σ Γ ρ F R) (e:Z5 H H'):Ag K B H0 H' σ Γ ρ F R:=
 ⟨A.same.trans e,A.own,A.young,A.youngR,fun i a ha=>let ⟨vs,q⟩:=A.live i a ha;⟨vs,e _ _ q⟩,fun a ha=>let ⟨vs,q⟩:=A.liveR a ha;⟨vs,e _ _ q⟩,A.disj,A.disjR,A.lenS,A.lenR,
  fun i=>(A.slot i).mono (fun a vs s r=>⟨r.same e,s⟩) (fun a vs r=>e.im r) fun a ha vs q=>e _ _ q⟩
theorem Ag.less (A:Ag K B H0 H σ Γ ρ F R) (h:∀a∈R',a∈R):Ag K B H0 H σ Γ ρ F R':=
 ⟨A.same,A.own,A.young,fun a ha=>A.youngR a (h a ha),A.live,fun a ha=>A.liveR a (h a ha),A.disj,fun i a ha z=>A.disjR i a ha (h a z),A.lenS,A.lenR,
  fun i=>(A.slot i).mono (fun a vs s r=>⟨r,s.1,fun z=>s.2.1 (h a z),s.2.2⟩) (fun a vs r=>r) fun a ha vs q=>q⟩
theorem Ag.more {G:List Addr} (A:Ag K B H0 H σ Γ ρ F R) (e:Z5 H H') (hf:∀a∈G,H a=none) (hl:∀a∈G,∃vs:LvO,H' a=some vs.1):Ag K B H0 H' σ Γ ρ F (G++R):=by
 refine⟨A.same.trans e,A.own,A.young,fun a ha=>?_,fun i a ha=>let ⟨vs,q⟩:=A.live i a ha;⟨vs,e _ _ q⟩,fun a ha=>?_,A.disj,fun i a ha z=>?_,A.lenS,A.lenR,fun i=>?_⟩
 ·rcases ZtA.mp ha with z|z
  ·exact A.same.free (hf a z)
  ·exact A.youngR a z
 ·rcases ZtA.mp ha with z|z
  ·exact hl a z
  ·obtain⟨vs,q⟩:=A.liveR a z
   exact⟨vs,e _ _ q⟩
 ·rcases ZtA.mp z with z|z
  ·obtain⟨vs,q⟩:=A.live i a ha
   rw[hf a z] at q;cases q
  ·exact A.disjR i a ha z
 ·refine(A.slot i).mono (fun a vs s r=>⟨r.same e,s.1,fun z=>?_,s.2.2⟩) (fun a vs r=>e.im r) fun a ha vs q=>e _ _ q
  rcases ZtA.mp z with z|z
  ·have:=hf a z
   rcases r with r|⟨o,r⟩<;>(rw[this] at r;cases r)
  ·exact s.2.1 z
theorem Ag.fresh (A:Ag K B H0 H σ Γ ρ F R) {p:Addr} (hp:H p=none):p ∉ R/\(∀i,p ∉ F i)/\H0 p=none/\B p:=by
 refine⟨fun z=>?_,fun i z=>?_,A.same.free hp,A.own p (A.same.free hp)⟩
 ·obtain⟨vs,q⟩:=A.liveR p z
  rw[hp] at q;cases q
 ·obtain⟨vs,q⟩:=A.live i p z
  rw[hp] at q;cases q
theorem Ag.new {p:Addr}{xs:List V} (A:Ag K B H0 H σ Γ ρ F R) (hp:H p=none):Ag K B H0 (upd H p (.lst xs)) σ Γ ρ F (p::R):=
 A.more (G:=[p]) (Z5.new hp) (fun a ha=>by rw[ZtO.mp ha];exact hp) fun a ha=>⟨⟨.lst xs,trivial⟩,by rw[ZtO.mp ha,Z0]⟩
theorem Ag.newB {p:Addr}{u:HO} (hu:Lvo u) (A:Ag K B H0 H σ Γ ρ F R) (hp:H p=none):Ag K B H0 (upd H p u) σ Γ ρ F (p::R):=
 A.more (G:=[p]) (Z5.new hp) (fun a ha=>by rw[ZtO.mp ha];exact hp) fun a ha=>⟨⟨u,hu⟩,by rw[ZtO.mp ha,Z0]⟩
theorem Ag.getO {i:Nat} (A:Ag K B H0 H σ Γ ρ F R) (h:Γ[i]?=some .O):∃v,σ[i]?=some (some v)/\Jc K H (ρ.getD i .non) v (F i):=by
 have:=A.slot i
 rw[Zt5,h] at this
 exact this
theorem Ag.getT {i:Nat} (A:Ag K B H0 H σ Γ ρ F R) (h:Γ[i]?=some .T):∃a vs xs,σ[i]?=some (some (.ref a))/\ρ.getD i .non=.lst xs/\H a=some (.lst vs)/\Reps K H (NO B F R) xs vs/\F i=[a]:=by
 have:=A.slot i
 rw[Zt5 (l:=Γ),h] at this
 exact this
theorem Ag.getS {i:Nat} (A:Ag K B H0 H σ Γ ρ F R) (h:Γ[i]?=some .S):∃v,σ[i]?=some (some v)/\Rep K H (NO B F R) (ρ.getD i .non) v:=by
 have:=A.slot i
 rw[Zt5 (l:=Γ),h] at this
 exact this.2
theorem Ag.getP {i:Nat} (A:Ag K B H0 H σ Γ ρ F R) (h:Γ[i]?=some .P):∃v,σ[i]?=some (some v)/\(ρ.getD i .non).flat=true/\Rep K H (fun _=>True) (ρ.getD i .non) v:=by
 have:=A.slot i
 rw[Zt5 (l:=Γ),h] at this
 exact this.2
theorem Ag.getA {i:Nat}{m:Md} (A:Ag K B H0 H σ Γ ρ F R) (h:Γ[i]?=some m) (hm:m≠.U):∃v,σ[i]?=some (some v)/\Rep K H (fun _=>True) (ρ.getD i .non) v:=by
 cases m with
 |U=>exact absurd rfl hm
 |P=>obtain⟨v,h1,h2,h3⟩:=A.getP h;exact⟨v,h1,h3⟩
 |S=>obtain⟨v,h1,h2⟩:=A.getS h;exact⟨v,h1,h2.any⟩
 |T =>
  obtain⟨a,vs,xs,h1,h2,h3,h4,h5⟩:=A.getT h
  exact⟨_,h1,by rw[h2];exact⟨a,vs,rfl,.inl ⟨.inl h3,trivial⟩,h4.any⟩⟩
 |O=>obtain⟨v,h1,h2⟩:=A.getO h;exact⟨v,h1,h2.rep (fun _ _=>trivial)⟩
theorem Ag.lt {i:Nat}{m:Md} (A:Ag K B H0 H σ Γ ρ F R) (h:Γ[i]?=some m):i<Γ.length:=(ZtN.mp h).1
noncomputable def VY (F:Nat->List Addr) (i:Nat) (G:List Addr):Nat->List Addr:=fun j=>if j=i then G else F j
theorem Zt {i:Nat}{G:List Addr}:VY F i G i=G:=if_pos rfl
theorem ZA {i j:Nat}{G:List Addr} (h:j≠i):VY F i G j=F j:=if_neg h
theorem Ag.put {i:Nat}{m:Md}{x:PV}{v:V}{G:List Addr} (A:Ag K B H0 H σ Γ ρ F (G++R)) (hi:i<Γ.length) (hG:∀a∈G,a ∉ R) (hs:VS K H (NO B (VY F i G) R) m x (some (some v)) G) :
  Ag K B H0 H (σ.set i (some v)) (Γ.set i m) (ρ.set i x) (VY F i G) R:=by
 refine⟨A.same,A.own,fun j a ha=>?_,fun a ha=>A.youngR a (Zt9 _ ha),fun j a ha=>?_,fun a ha=>A.liveR a (Zt9 _ ha),fun j k hjk a ha z=>?_,fun j a ha z=>?_,by simp[A.lenS],by simp[A.lenR],fun j=>?_⟩
 ·by_cases h:j=i
  ·subst h;rw[Zt] at ha;exact A.youngR a (Zt8 _ ha)
  ·rw[ZA h] at ha;exact A.young j a ha
 ·by_cases h:j=i
  ·subst h;rw[Zt] at ha;exact A.liveR a (Zt8 _ ha)
  ·rw[ZA h] at ha;exact A.live j a ha
 ·by_cases h:j=i
  ·subst h
   rw[Zt] at ha
   rw[ZA (Ne.symm hjk)] at z
   exact A.disjR k a z (Zt8 _ ha)
  ·rw[ZA h] at ha
   by_cases h':k=i
   ·subst h'
    rw[Zt] at z
    exact A.disjR j a ha (Zt8 _ z)
   ·rw[ZA h'] at z
    exact A.disj j k hjk a ha z
 ·by_cases h:j=i
  ·subst h;rw[Zt] at ha;exact hG a ha z
  ·rw[ZA h] at ha;exact A.disjR j a ha (Zt9 _ z)
 ·by_cases h:j=i
  ·subst h
   rw[Zt,Zt5,Zt5,ZtH hi,ZtH (by rw[A.lenR];exact hi),ZtH (by rw[A.lenS];exact hi)]
   exact hs
  ·rw[ZA h,Zt5,Zt5,ZtJ (Ne.symm h),ZtJ (Ne.symm h),ZtJ (Ne.symm h),<- Zt5,<- Zt5]
   refine(A.slot j).mono (fun a vs s r=>⟨r,s.1,fun z=>s.2.1 (Zt9 _ z),fun k z=>?_⟩) (fun a vs r=>r) fun a ha vs q=>q
   by_cases h':k=i
   ·subst h';rw[Zt] at z;exact s.2.1 (Zt8 _ z)
   ·rw[ZA h'] at z;exact s.2.2 k z
theorem Ag.turn {i:Nat}{m m':Md}{G:List Addr} (A:Ag K B H0 H σ Γ ρ F R) (h:Γ[i]?=some m) (hG:∀a∈G,a∈F i) (hs:VS K H (NO B (VY F i []) (G++R)) m' (ρ.getD i .non) σ[i]? []) :
  Ag K B H0 H σ (Γ.set i m') ρ (VY F i []) (G++R):=by
 have hi:=A.lt h
 refine⟨A.same,A.own,fun j a ha=>?_,fun a ha=>?_,fun j a ha=>?_,fun a ha=>?_,fun j k hjk a ha z=>?_,fun j a ha z=>?_,by simp[A.lenS],by simp[A.lenR],fun j=>?_⟩
 ·by_cases h:j=i
  ·subst h;rw[Zt] at ha;simp at ha
  ·rw[ZA h] at ha;exact A.young j a ha
 ·rcases ZtA.mp ha with z|z
  ·exact A.young i a (hG a z)
  ·exact A.youngR a z
 ·by_cases h:j=i
  ·subst h;rw[Zt] at ha;simp at ha
  ·rw[ZA h] at ha;exact A.live j a ha
 ·rcases ZtA.mp ha with z|z
  ·exact A.live i a (hG a z)
  ·exact A.liveR a z
 ·by_cases h:j=i
  ·subst h;rw[Zt] at ha;simp at ha
  ·by_cases h':k=i
   ·subst h';rw[Zt] at z;simp at z
   ·rw[ZA h] at ha;rw[ZA h'] at z;exact A.disj j k hjk a ha z
 ·by_cases h:j=i
  ·subst h;rw[Zt] at ha;simp at ha
  ·rw[ZA h] at ha
   rcases ZtA.mp z with z|z
   ·exact A.disj j i h a ha (hG a z)
   ·exact A.disjR j a ha z
 ·by_cases h:j=i
  ·subst h
   rw[Zt,Zt5 (l:=Γ.set _ _),ZtH hi]
   exact hs
  ·rw[ZA h,Zt5 (l:=Γ.set _ _),ZtJ (Ne.symm h),<- Zt5]
   refine(A.slot j).mono (fun a vs s r=>⟨r,s.1,fun z=>?_,fun k z=>?_⟩) (fun a vs r=>r) fun a ha vs q=>q
   ·rcases ZtA.mp z with z|z
    ·exact s.2.2 i (hG a z)
    ·exact s.2.1 z
   ·by_cases h':k=i
    ·subst h';rw[Zt] at z;simp at z
    ·rw[ZA h'] at z;exact s.2.2 k z
theorem Ag.move {i:Nat} (A:Ag K B H0 H σ Γ ρ F R) (h:Γ[i]?=some .O):Ag K B H0 H σ (Γ.set i .U) ρ (VY F i []) (F i++R):=A.turn (G:=F i) h (fun a ha=>ha) rfl
end
noncomputable abbrev PX:=Str×PV
inductive Rr (α:Type) where
 |ok (a:α)|exc (e:PX)|bad
noncomputable def Rr.bind {α β:Type}:Rr α->(α->Rr β)->Rr β
 |.ok a,f=>f a
 |.exc e,_=>.exc e
 |.bad,_=>.bad
def Dn {α:Type} (r:Rr α) (ok:α->Prop) (ex:PX->Prop):Prop:=match r with
 |.ok a=>ok a
 |.exc e=>ex e
 |.bad=>False
theorem Dn.bind {α β:Type}{r:Rr α}{f:α->Rr β}{ok:β->Prop}{ex:PX->Prop} (h:Dn (r.bind f) ok ex):Dn r (fun a=>Dn (f a) ok ex) ex:=by
 cases r with
 |ok a=>exact h
 |exc e=>exact h
 |bad=>exact h
theorem Dn.imp {α:Type}{r:Rr α}{ok ok':α->Prop}{ex ex':PX->Prop} (h:Dn r ok ex) (h1:∀a,r=.ok a->ok a->ok' a) (h2:∀e,ex e->ex' e):Dn r ok' ex':=by
 cases r with
 |ok a=>exact h1 a rfl h
 |exc e=>exact h2 e h
 |bad=>exact h
@[simp] theorem Rr.bind_ok {α β:Type}{a:α}{f:α->Rr β}:(Rr.ok a).bind f=f a:=rfl
@[simp] theorem Rr.bind_exc {α β:Type}{e:PX}{f:α->Rr β}:(Rr.exc e:Rr α).bind f=.exc e:=rfl
@[simp] theorem Rr.bind_bad {α β:Type}{f:α->Rr β}:(Rr.bad:Rr α).bind f=.bad:=rfl
inductive Kd|P|F|T|Z|A|N|M
def Res (K:W.Frag) (B:Addr->Prop) (H0 H:Hp) (σ:St) (Γ':List Md) (ρ:List PV) (F:Nat->List Addr) (R:List Addr) (k:Kd) (x:PV) (v:V) (H':Hp):Prop:=
 ∃F',(∀i,∀a∈F' i,a∈F i)/\match k with
 |.P=>x.flat=true/\Rep K H' (fun _=>True) x v/\Ag K B H0 H' σ Γ' ρ F' R
 |.F=>∃G,Jc K H' x v G/\(∀a∈G,a ∉ R/\(H a=none\/∃i,a∈F i))/\Ag K B H0 H' σ Γ' ρ F' (G++R)
 |.T=>∃a vs xs,x=.lst xs/\v=.ref a/\H' a=some (.lst vs)/\Reps K H' (NO B F' (a::R)) xs vs/\a ∉ R/\(H a=none\/∃i,a∈F i)/\Ag K B H0 H' σ Γ' ρ F' (a::R)
 |.Z=>Rep K H' (NO B F' R) x v/\Ag K B H0 H' σ Γ' ρ F' R
 |.A=>Rep K H' (fun _=>True) x v/\Ag K B H0 H' σ Γ' ρ F' R
 |.N=>False
 |.M=>False
def DE (K:W.Frag) (EX:PX->Hp->Prop) (Γ Γ':List Md) (k:Kd) (te:TE) (f:List PV->Rr PV):Prop:=
 ∀(B:Addr->Prop) (H0 H:Hp) (σ:St) (ρ:List PV) (F:Nat->List Addr) (R:List Addr) (Q:VK),Ag K B H0 H σ Γ ρ F R ->
  Dn (f ρ) (fun x=>∀v H',Z5 H H'->Res K B H0 H σ Γ' ρ F R k x v H'->Q v H') (fun e=>∀H',Z5 H0 H'->EX e H')->te σ H Q
def DT (K:W.Frag) (EX:PX->Hp->Prop) (Γ Γ':List Md) (tt:TT) (f:List PV->Rr Bool):Prop:=
 ∀(B:Addr->Prop) (H0 H:Hp) (σ:St) (ρ:List PV) (F:Nat->List Addr) (R:List Addr) (Q:Bool->Hp->Prop),Ag K B H0 H σ Γ ρ F R ->
  Dn (f ρ) (fun b=>∀H' F',Z5 H H'->(∀i,∀a∈F' i,a∈F i)->Ag K B H0 H' σ Γ' ρ F' R->Q b H') (fun e=>∀H',Z5 H0 H'->EX e H')->tt σ H Q
section
variable {K:W.Frag}{B:Addr->Prop}{EX:PX->Hp->Prop}{H0 H H':Hp}{σ:St}{Γ Γ' Γ1 Γ2:List Md}{ρ:List PV}{F F':Nat->List Addr}{R:List Addr}{k:Kd}{x:PV}{v:V}{te ta tb:TE}{f fa fb:List PV->Rr PV}
theorem Res.ag (h:Res K B H0 H σ Γ' ρ F R k x v H'):∃F',(∀i,∀a∈F' i,a∈F i)/\Rep K H' (fun _=>True) x v/\Ag K B H0 H' σ Γ' ρ F' R:=by
 obtain⟨F',hF,h⟩:=h
 refine⟨F',hF, ?_⟩
 cases k with
 |P=>exact⟨h.2.1,h.2.2⟩
 |F=>obtain⟨G,h1,h2,h3⟩:=h;exact⟨h1.rep fun _ _=>trivial,h3.less fun a ha=>Zt9 _ ha⟩
 |T=>obtain⟨a,vs,xs,rfl,rfl,h1,h2,h3,h4,h5⟩:=h;exact⟨⟨a,vs,rfl,.inl ⟨.inl h1,trivial⟩,h2.any⟩,h5.less fun a ha=>ZtM _ ha⟩
 |Z=>exact⟨h.1.any,h.2⟩
 |A=>exact h
 |N=>exact h.elim
 |M=>exact h.elim
theorem Res.toA (h:Res K B H0 H σ Γ' ρ F R k x v H'):Res K B H0 H σ Γ' ρ F R .A x v H':=let ⟨F',a,b,c⟩:=h.ag;⟨F',a,b,c⟩
theorem Res.PF (h:Res K B H0 H σ Γ' ρ F R .P x v H'):Res K B H0 H σ Γ' ρ F R .F x v H':=by
 obtain⟨F',hF,h1,h2,h3⟩:=h
 exact⟨F',hF,[],h2.tree h1,by simp,h3⟩
theorem Res.FZ (h:Res K B H0 H σ Γ' ρ F R .F x v H'):Res K B H0 H σ Γ' ρ F R .Z x v H':=by
 obtain⟨F',hF,G,h1,h2,h3⟩:=h
 exact⟨F',hF,h1.rep fun a ha=>⟨h3.own a (h3.youngR a (Zt8 _ ha)),(h2 a ha).1,fun i z=>h3.disjR i a z (Zt8 _ ha)⟩,h3.less fun a ha=>Zt9 _ ha⟩
theorem DE.imp {k':Kd} (h:DE K EX Γ Γ' k te f) (hr:∀{B:Addr->Prop}{H0 H H':Hp}{σ:St}{ρ:List PV}{F:Nat->List Addr}{R:List Addr}{x:PV}{v:V},Res K B H0 H σ Γ' ρ F R k x v H'->Res K B H0 H σ Γ' ρ F R k' x v H'):DE K EX Γ Γ' k' te f:=
 fun B H0 H σ ρ F R Q A d=>h B H0 H σ ρ F R Q A (d.imp (fun x _ q v H' s r=>q v H' s (hr r)) fun e q=>q)
theorem DE.toA (h:DE K EX Γ Γ' k te f):DE K EX Γ Γ' .A te f:=h.imp Res.toA
theorem DE.PF (h:DE K EX Γ Γ' .P te f):DE K EX Γ Γ' .F te f:=h.imp Res.PF
theorem DE.FZ (h:DE K EX Γ Γ' .F te f):DE K EX Γ Γ' .Z te f:=h.imp Res.FZ
noncomputable def grd (x:PV):Rr PV:=if x.flat=true then .ok x else .bad
theorem DE.grd (h:DE K EX Γ Γ' .A te f):DE K EX Γ Γ' .P te (fun ρ=>(f ρ).bind grd):=fun B H0 H σ ρ F R Q A d=>by
 refine h B H0 H σ ρ F R Q A (d.bind.imp (fun x _ q v H' s r=>?_) fun e q=>q)
 unfold L2.grd at q
 by_cases hx:x.flat=true
 ·rw[if_pos hx] at q
  obtain⟨F',h1,h2,h3⟩:=r
  exact q v H' s ⟨F',h1,hx,h2,h3⟩
 ·rw[if_neg hx] at q;exact q.elim
theorem ZlI {v:V} (hf:x.flat=true) (hr:∀H,Rep K H (fun _=>True) x v):DE K EX Γ Γ .P (tC v) (fun _=>.ok x):=fun B H0 H σ ρ F R Q A d =>
 d v H (Z5.refl H) ⟨F,fun _ _ h=>h,hf,hr H,A⟩
theorem Zj {i:Int}:DE K EX Γ Γ .P (tC (.int i)) (fun _=>.ok (.int i)):=ZlI rfl fun _=>rfl
theorem Zau {b:Bool}:DE K EX Γ Γ .P (tC (.bl b)) (fun _=>.ok (.bl b)):=ZlI rfl fun _=>rfl
theorem Zgg:DE K EX Γ Γ .P (tC .non) (fun _=>.ok .non):=ZlI rfl fun _=>rfl
theorem Jh {x:Str}:DE K EX Γ Γ .P (tC (.str x)) (fun _=>.ok (.str x)):=ZlI rfl fun _=>rfl
noncomputable def gv (i:Nat) (ρ:List PV):PV:=ρ.getD i .non
theorem Zc {i:Nat}{m:Md} (h:Γ[i]?=some m) (hm:m≠.U):DE K EX Γ Γ .A (UA i) (fun ρ=>.ok (gv i ρ)):=fun B H0 H σ ρ F R Q A d=>by
 obtain⟨v,h1,h2⟩:=A.getA h hm
 exact⟨v,h1,d v H (Z5.refl H) ⟨F,fun _ _ h=>h,h2,A⟩⟩
theorem Zg {i:Nat} (h:Γ[i]?=some .P):DE K EX Γ Γ .P (UA i) (fun ρ=>.ok (gv i ρ)):=fun B H0 H σ ρ F R Q A d=>by
 obtain⟨v,h1,h2,h3⟩:=A.getP h
 exact⟨v,h1,d v H (Z5.refl H) ⟨F,fun _ _ h=>h,h2,h3,A⟩⟩
theorem V6 {i:Nat} (h:Γ[i]?=some .S):DE K EX Γ Γ .Z (UA i) (fun ρ=>.ok (gv i ρ)):=fun B H0 H σ ρ F R Q A d=>by
 obtain⟨v,h1,h2⟩:=A.getS h
 exact⟨v,h1,d v H (Z5.refl H) ⟨F,fun _ _ h=>h,h2,A⟩⟩
theorem ZaW {i:Nat}{F:Nat->List Addr}:∀j,∀a∈VY F i [] j,a∈F j:=fun j a ha=>by
 by_cases h:j=i
 ·subst h;rw[Zt] at ha;simp at ha
 ·rw[ZA h] at ha;exact ha
theorem Zbj {i:Nat} (h:Γ[i]?=some .O):DE K EX Γ (Γ.set i .U) .F (UA i) (fun ρ=>.ok (gv i ρ)):=fun B H0 H σ ρ F R Q A d=>by
 obtain⟨v,h1,h2⟩:=A.getO h
 exact⟨v,h1,d v H (Z5.refl H) ⟨VY F i [],ZaW,F i,h2,fun a ha=>⟨A.disjR i a ha,.inr ⟨i,ha⟩⟩,A.move h⟩⟩
def OpP (K:W.Frag) (r:R2) (o:PV->PV->Rr PV):Prop:=∀{H:Hp}{x y:PV}{v w:V}{Q:VK},Rep K H (fun _=>True) x v->Rep K H (fun _=>True) y w ->
 (∃z,o x y=.ok z/\(z.flat=true->∀u,Rep K H (fun _=>True) z u->Q u H))->r v w H Q
theorem Dn.bind2 {α β γ:Type}{r:Rr α}{q:Rr β}{f:α->β->Rr γ}{ok:γ->Prop}{ex:PX->Prop} (h:Dn (r.bind fun a=>q.bind fun b=>f a b) ok ex):Dn r (fun a=>Dn q (fun b=>Dn (f a b) ok ex) ex) ex:=
 h.bind.imp (fun a _ h=>h.bind) fun e h=>h
theorem two {Q:V->V->Hp->Prop}{ok:PV->PV->Prop} (ha:DE K EX Γ Γ1 .A ta fa) (hb:DE K EX Γ1 Γ2 .A tb fb) (A:Ag K B H0 H σ Γ ρ F R)
  (d:Dn (fa ρ) (fun x=>Dn (fb ρ) (fun y=>ok x y) (fun e=>∀H',Z5 H0 H'->EX e H')) (fun e=>∀H',Z5 H0 H'->EX e H'))
  (hq:∀x y v w H' F',ok x y->Z5 H H'->(∀i,∀a∈F' i,a∈F i)->Rep K H' (fun _=>True) x v->Rep K H' (fun _=>True) y w->Ag K B H0 H' σ Γ2 ρ F' R->Q v w H') :
  ta σ H fun v H1=>tb σ H1 fun w H2=>Q v w H2:=by
 refine ha B H0 H σ ρ F R _ A (d.imp (fun x _ d v H1 s1 r1=>?_) fun e q=>q)
 obtain⟨F1,f1,p1,A1⟩:=r1
 refine hb B H0 H1 σ ρ F1 R _ A1 (d.imp (fun y _ q w H2 s2 r2=>?_) fun e q=>q)
 obtain⟨F2,f2,p2,A2⟩:=r2
 exact hq x y v w H2 F2 q (s1.trans s2) (fun i a h=>f1 i a (f2 i a h)) (p1.same s2) p2 A2
theorem Zjx {r:R2}{o:PV->PV->Rr PV} (hr:OpP K r o) (ho:∀x y z,o x y=.ok z->z.flat=true) (hx:∀x y e,o x y≠.exc e) (ha:DE K EX Γ Γ1 .A ta fa) (hb:DE K EX Γ1 Γ2 .A tb fb) :
  DE K EX Γ Γ2 .P (tOp r ta tb) (fun ρ=>(fa ρ).bind fun x=>(fb ρ).bind fun y=>o x y):=fun B H0 H σ ρ F R Q A d=>by
 refine two ha hb A d.bind2 fun x y v w H' F' d s hF p1 p2 A'=>?_
 cases e:o x y with
 |ok z=>rw[e] at d;exact hr p1 p2 ⟨z,e,fun hf u hu=>d u H' s ⟨F',hF,hf,hu,A'⟩⟩
 |exc q=>exact absurd e (hx x y q)
 |bad=>rw[e] at d;exact d.elim
def UnP (K:W.Frag) (r:V->Hp->VK->Prop) (o:PV->Rr PV):Prop:=∀{H:Hp}{x:PV}{v:V}{Q:VK},Rep K H (fun _=>True) x v->(∃z,o x=.ok z/\(z.flat=true->∀u,Rep K H (fun _=>True) z u->Q u H))->r v H Q
theorem Zmq {r:V->Hp->VK->Prop}{o:PV->Rr PV} (hr:UnP K r o) (hx:∀x e,o x≠.exc e) (ha:DE K EX Γ Γ1 .A ta fa):DE K EX Γ Γ1 .P (tUn r ta) (fun ρ=>(fa ρ).bind o):=fun B H0 H σ ρ F R Q A d=>by
 refine ha B H0 H σ ρ F R _ A (d.bind.imp (fun x _ d v H1 s1 r1=>?_) fun e q=>q)
 obtain⟨F1,f1,p1,A1⟩:=r1
 cases e:o x with
 |ok z=>rw[e] at d;exact hr p1 ⟨z,e,fun hf u hu=>d u H1 s1 ⟨F1,f1,hf,hu,A1⟩⟩
 |exc q=>exact absurd e (hx x q)
 |bad=>rw[e] at d;exact d.elim
noncomputable def oI (C:Int->Int->Bool) (g:Int->Int->PV) (x y:PV):Rr PV:=match x,y with
 |.int i,.int j=>if C i j=true then .ok (g i j) else .bad
 |_,_=>.bad
theorem Zd6 {C:Int->Int->Bool}{g:Int->Int->PV}{i j:Int} (h:C i j=true):oI C g (.int i) (.int j)=.ok (g i j):=if_pos h
theorem Znp {C:Int->Int->Bool}{D:Int->Int->Prop}{g:Int->Int->PV}{g':Int->Int->V} (hC:∀i j,C i j=true->D i j) (hg:∀H i j,Rep K H (fun _=>True) (g i j) (g' i j)) (hf:∀i j,(g i j).flat=true):OpP K (rI D g') (oI C g):=by
 intro H x y v w Q rx ry ⟨z,e,q⟩
 cases x<;>cases y<;>first|(simp only[oI] at e;cases e;done)|skip
 rename_i i j
 simp only[oI] at e
 by_cases h:C i j=true
 ·rw[if_pos h] at e;cases e
  cases rx;cases ry
  exact⟨i,j,rfl,rfl,hC i j h,q (hf i j) _ (hg H i j)⟩
 ·rw[if_neg h] at e;cases e
theorem Zmh {g:Int->Int->PV}{g':Int->Int->V} (hg:∀H i j,Rep K H (fun _=>True) (g i j) (g' i j)) (hf:∀i j,(g i j).flat=true):OpP K (rI0 g') (oI (fun _ _=>true) g):=by
 intro H x y v w Q rx ry ⟨z,e,q⟩
 cases x<;>cases y<;>first|(simp only[oI] at e;cases e;done)|skip
 rename_i i j
 simp only[oI,if_true] at e
 cases e;cases rx;cases ry
 exact⟨i,j,rfl,rfl,q (hf i j) _ (hg H i j)⟩
theorem Zd5 {C:Int->Int->Bool}{g:Int->Int->PV} (x y:PV) (e:PX):oI C g x y≠.exc e:=by
 cases x<;>cases y<;>first|(intro h;simp only[oI] at h;cases h;done)|skip
 intro h
 simp only[oI] at h
 split at h<;>cases h
theorem Zf2 {C:Int->Int->Bool}{g:Int->Int->PV} (hf:∀i j,(g i j).flat=true) (x y z:PV) (h:oI C g x y=.ok z):z.flat=true:=by
 cases x<;>cases y<;>first|(simp only[oI] at h;cases h;done)|skip
 simp only[oI] at h
 split at h
 ·cases h;exact hf _ _
 ·cases h
end
mutual
noncomputable def PV.noX:PV->Bool
 |.exc _=>false
 |.exa _ _=>false
 |.box _ _ _=>false
 |.fz xs=>PV.noXs xs
 |.lst xs=>PV.noXs xs
 |.tup xs=>PV.noXs xs
 |.non=>true
 |.bl _=>true
 |.int _=>true
 |.str _=>true
noncomputable def PV.noXs:List PV->Bool
 |[]=>true
 |x::xs=>x.noX&&PV.noXs xs
end
theorem PV.noXs_ints:∀(ns:List Int),PV.noXs (ns.map PV.int)=true
 |[]=>rfl
 |n::ns=>by simp[PV.noXs,PV.noX,PV.noXs_ints ns]
mutual
noncomputable def PV.dat:PV->PyData
 |.non=>.none
 |.bl b=>.bool b
 |.int i=>.int i
 |.str x=>.str x
 |.exc _=>.none
 |.exa _ _=>.none
 |.box _ _ _=>.none
 |.fz xs=>.list (PV.dats xs)
 |.lst xs=>.list (PV.dats xs)
 |.tup xs=>.tuple (PV.dats xs)
noncomputable def PV.dats:List PV->List PyData
 |[]=>[]
 |x::xs=>x.dat::PV.dats xs
end
section
variable {X:Cx}{pins:List (Addr×Obj)}{σ:St}{H:Hp}{s:Shared}{S:Addr->Prop}
theorem JC {K:W.Frag}{a:Addr}{vs:List V} (h:(Rd H a (.lst vs)/\S a)\/KL K a vs):SqL K H a vs:=by
 rcases h with h|h
 ·exact .inl h.1
 ·exact .inr h
mutual
theorem Rep.reads (I:Inv X pins σ H s):∀{x:PV}{v:V}{u:Value},x.noX=true->Rep X.K H S x v->Jp v u->∃as,Reads s.heap u x.dat as
 |.non,_,_,_,h,r=>by cases h;cases r;exact⟨_,.none⟩
 |.bl _,_,_,_,h,r=>by cases h;cases r;exact⟨_,.bool _⟩
 |.int _,_,_,_,h,r=>by cases h;obtain⟨t,rfl⟩:=r;exact⟨_,.int _ _⟩
 |.str _,_,_,_,h,r=>by cases h;obtain⟨t,rfl⟩:=r;exact⟨_,.str _ _⟩
 |.exc _,_,_,z,_,_=>by simp[PV.noX] at z
 |.exa _ _,_,_,z,_,_=>by simp[PV.noX] at z
 |.box _ _ _,_,_,z,_,_=>by simp[PV.noX] at z
 |.fz xs,_,_,z,h,r=>by
  obtain⟨a,vs,rfl,⟨o,hn⟩,hr⟩:=h
  cases r
  obtain⟨its,rv,pl,_⟩:=I.list (JC (S:=fun _=>True) (.inl ⟨.inr ⟨o,hn.1⟩,trivial⟩))
  obtain⟨as,ra⟩:=Reps.reads I (by simpa[PV.noX] using z) hr rv
  obtain⟨o,ho,hc,n,hd⟩:=pl.isList
  exact⟨_,.list ho hc hd (by simpa using ra)⟩
 |.lst xs,_,_,z,h,r=>by
  obtain⟨a,vs,rfl,hn,hr⟩:=h
  cases r
  obtain⟨its,rv,pl,_⟩:=I.list (JC hn)
  obtain⟨as,ra⟩:=Reps.reads I (by simpa[PV.noX] using z) hr rv
  obtain⟨o,ho,hc,n,hd⟩:=pl.isList
  exact⟨_,.list ho hc hd (by simpa using ra)⟩
 |.tup xs,_,_,z,h,r=>by
  obtain⟨a,vs,rfl,hn,hr⟩:=h
  cases r
  obtain⟨its,rv,⟨o,ho,hc,n,hd⟩,_⟩:=I.tuple hn.sqT
  obtain⟨as,ra⟩:=Reps.reads I (by simpa[PV.noX] using z) hr rv
  exact⟨_,.tuple ho hc hd (by simpa using ra)⟩
theorem Reps.reads (I:Inv X pins σ H s):∀{xs:List PV}{vs:List V}{us:List Value},PV.noXs xs=true->Reps X.K H S xs vs->ZT vs us->∃as,ReadsAll s.heap us (PV.dats xs) as
 |[],_,_,_,h,r=>by rw[h] at r;cases r;exact⟨_,.nil⟩
 |x::xs,_,_,z,h,r=>by
  simp only[PV.noXs,Bool.and_eq_true] at z
  obtain⟨v,vs,rfl,h1,h2⟩:=h
  cases r with
  |cons r1 r2 =>
   obtain⟨as,a1⟩:=Rep.reads I z.1 h1 r1
   obtain⟨bs,b1⟩:=Reps.reads I z.2 h2 r2
   exact⟨_,.cons a1 b1⟩
end
noncomputable def okD (x:PV):Bool:=x.noX&&x.dat.canLay0&&decide (x.dat.depth<=64)
noncomputable def ZlX (K:W.Frag) (g:Bool->Bool):R2:=fun x y H Q=>∃p q,Rep K H (fun _=>True) p x/\Rep K H (fun _=>True) q y/\okD p=true/\okD q=true/\Q (.bl (g (PyData.eqv p.dat q.dat))) H
theorem Ja {K:W.Frag} (hu:X.A.units+64<cLine) (e:X.K=K:=by rfl):OpR X (compareOp .Eq) (ZlX K id):=by
 subst e
 intro pins s σ H x y v u Q I rx ry h
 obtain⟨p,q,h1,h2,h3,h4,hq⟩:=h
 simp only[okD,Bool.and_eq_true,decide_eq_true_eq] at h3 h4
 obtain⟨as,ra⟩:=h1.reads I h3.1.1 rx
 obtain⟨bs,rb⟩:=h2.reads I h4.1.1 ry
 exact SeqAt.rcAt_reads ra rb h3.1.2 h4.1.2 (by have:=Nat.min_le_left p.dat.depth q.dat.depth;omega) _ _ _ _ ⟨.bl (PyData.eqv p.dat q.dat),H,I,rfl,hq⟩
theorem UQ {K:W.Frag} (hu:X.A.units+64<cLine) (e:X.K=K:=by rfl):OpR X (compareOp .NotEq) (ZlX K (!·)):=by
 subst e
 intro pins s σ H x y v u Q I rx ry h
 obtain⟨p,q,h1,h2,h3,h4,hq⟩:=h
 simp only[okD,Bool.and_eq_true,decide_eq_true_eq] at h3 h4
 obtain⟨as,ra⟩:=h1.reads I h3.1.1 rx
 obtain⟨bs,rb⟩:=h2.reads I h4.1.1 ry
 exact SeqAt.rcNeAt_reads ra rb h3.1.2 h4.1.2 (by have:=Nat.min_le_left p.dat.depth q.dat.depth;omega) _ _ _ _ ⟨.bl (!PyData.eqv p.dat q.dat),H,I,rfl,hq⟩
end
noncomputable def Zbw (g:Bool->Bool) (x y:PV):Rr PV:=if (okD x&&okD y)=true then .ok (.bl (g (PyData.eqv x.dat y.dat))) else .bad
def Zdb (i j:Int):Prop:=i.natAbs<2^60000/\j.natAbs<2^60000
def Zdc (i j:Int):Prop:=0<j/\j.natAbs<2^9000
noncomputable instance (i j:Int):Decidable (Zdb i j):=by unfold Zdb;infer_instance
noncomputable instance (i j:Int):Decidable (Zdc i j):=by unfold Zdc;infer_instance
noncomputable instance (i j:Int):Decidable (ZjP i j):=by unfold ZjP;infer_instance
theorem Zg2 {i:Int}{n:Nat} (h:i.natAbs<2^n):Builtin.Int.intBits i<=n:=by
 unfold Builtin.Int.intBits
 split
 ·exact Zuk _
 ·rename_i h0
  have:i.natAbs≠0:=by simpa using h0
  exact Nat.succ_le_of_lt ((Nat.log2_lt this).mpr h)
section
variable {X:Cx}
theorem Zfy:OpR X (binaryOp .Mult) (rI Zdb fun i j=>.int (i*j)):=opI fun _ _ _ _ _ _ _ hc q=>mul_int q (PyProof.Rows.mulOk_of_bits (Zg2 hc.1) (Zg2 hc.2) (by decide))
theorem Jf:OpR X (binaryOp .FloorDiv) (rI Zdc fun i j=>.int (i/j)):=opI fun i j _ _ _ _ _ hc q=>by
 refine floordiv_int (by have:=hc.1;omega) ?_ (.inl (PyProof.noPylong_of_log2 ?_))
 ·rw[Int.fdiv_eq_ediv_of_nonneg _ (by have:=hc.1;omega)];exact q
 ·have h0:j.natAbs≠0:=by have:=hc.1;omega
  exact(Nat.log2_lt h0).mpr hc.2
variable {K:W.Frag}{B:Addr->Prop}{EX:PX->Hp->Prop}{H0 H:Hp}{σ:St}{Γ Γ' Γ1 Γ2:List Md}{ρ:List PV}{F:Nat->List Addr}{R:List Addr}{k:Kd}{x:PV}{v:V}{ta tb:TE}{fa fb fc:List PV->Rr PV}
noncomputable abbrev Zmf:PV->PV->Rr PV:=oI (fun _ _=>true) fun i j=>.int (i+j)
noncomputable abbrev Zma:PV->PV->Rr PV:=oI (fun _ _=>true) fun i j=>.int (i-j)
noncomputable abbrev ZmZ:PV->PV->Rr PV:=oI (fun i j=>decide (Zdb i j)) fun i j=>.int (i*j)
noncomputable abbrev Zme:PV->PV->Rr PV:=oI (fun i j=>decide (Zdc i j)) fun i j=>.int (i/j)
noncomputable abbrev Zna:PV->PV->Rr PV:=oI (fun _ j=>decide (0<j)) fun i j=>.int (i%j)
noncomputable abbrev Zmb:PV->PV->Rr PV:=oI (fun i j=>decide (ZjP i j)) fun i j=>.int (i^j.toNat)
noncomputable abbrev pLt:PV->PV->Rr PV:=oI (fun _ _=>true) fun i j=>.bl (decide (i<j))
noncomputable abbrev pLe:PV->PV->Rr PV:=oI (fun _ _=>true) fun i j=>.bl (decide (i<=j))
noncomputable abbrev pGt:PV->PV->Rr PV:=oI (fun _ _=>true) fun i j=>.bl (decide (j<i))
noncomputable abbrev pGe:PV->PV->Rr PV:=oI (fun _ _=>true) fun i j=>.bl (decide (j<=i))
theorem ZhG {D:Int->Int->Prop}{C:Int->Int->Bool}{g:Int->Int->PV}{g':Int->Int->V} (hC:∀i j,C i j=true->D i j) (hg:∀H i j,Rep K H (fun _=>True) (g i j) (g' i j)) (hf:∀i j,(g i j).flat=true)
  (ha:DE K EX Γ Γ1 .A ta fa) (hb:DE K EX Γ1 Γ2 .A tb fb):DE K EX Γ Γ2 .P (tOp (rI D g') ta tb) (fun ρ=>(fa ρ).bind fun x=>(fb ρ).bind fun y=>oI C g x y):=
 Zjx (Znp hC hg hf) (Zf2 hf) Zd5 ha hb
theorem ZaD {g:Int->Int->PV}{g':Int->Int->V} (hg:∀H i j,Rep K H (fun _=>True) (g i j) (g' i j)) (hf:∀i j,(g i j).flat=true)
  (ha:DE K EX Γ Γ1 .A ta fa) (hb:DE K EX Γ1 Γ2 .A tb fb):DE K EX Γ Γ2 .P (tOp (rI0 g') ta tb) (fun ρ=>(fa ρ).bind fun x=>(fb ρ).bind fun y=>oI (fun _ _=>true) g x y):=
 Zjx (Zmh hg hf) (Zf2 hf) Zd5 ha hb
theorem U5 (ha:DE K EX Γ Γ1 .A ta fa) (hb:DE K EX Γ1 Γ2 .A tb fb):DE K EX Γ Γ2 .P (tOp (rI0 fun i j=>.int (i+j)) ta tb) (fun ρ=>(fa ρ).bind fun x=>(fb ρ).bind fun y=>Zmf x y):=ZaD (fun _ _ _=>rfl) (fun _ _=>rfl) ha hb
theorem UV (ha:DE K EX Γ Γ1 .A ta fa) (hb:DE K EX Γ1 Γ2 .A tb fb):DE K EX Γ Γ2 .P (tOp (rI0 fun i j=>.int (i-j)) ta tb) (fun ρ=>(fa ρ).bind fun x=>(fb ρ).bind fun y=>Zma x y):=ZaD (fun _ _ _=>rfl) (fun _ _=>rfl) ha hb
theorem ZhH (ha:DE K EX Γ Γ1 .A ta fa) (hb:DE K EX Γ1 Γ2 .A tb fb):DE K EX Γ Γ2 .P (tOp (rI0 fun i j=>.bl (decide (i<j))) ta tb) (fun ρ=>(fa ρ).bind fun x=>(fb ρ).bind fun y=>pLt x y):=ZaD (fun _ _ _=>rfl) (fun _ _=>rfl) ha hb
theorem Zmr (ha:DE K EX Γ Γ1 .A ta fa) (hb:DE K EX Γ1 Γ2 .A tb fb):DE K EX Γ Γ2 .P (tOp (rI0 fun i j=>.bl (decide (i<=j))) ta tb) (fun ρ=>(fa ρ).bind fun x=>(fb ρ).bind fun y=>pLe x y):=ZaD (fun _ _ _=>rfl) (fun _ _=>rfl) ha hb
theorem Zlg (ha:DE K EX Γ Γ1 .A ta fa) (hb:DE K EX Γ1 Γ2 .A tb fb):DE K EX Γ Γ2 .P (tOp (rI0 fun i j=>.bl (decide (j<i))) ta tb) (fun ρ=>(fa ρ).bind fun x=>(fb ρ).bind fun y=>pGt x y):=ZaD (fun _ _ _=>rfl) (fun _ _=>rfl) ha hb
theorem ZhI (ha:DE K EX Γ Γ1 .A ta fa) (hb:DE K EX Γ1 Γ2 .A tb fb):DE K EX Γ Γ2 .P (tOp (rI0 fun i j=>.bl (decide (j<=i))) ta tb) (fun ρ=>(fa ρ).bind fun x=>(fb ρ).bind fun y=>pGe x y):=ZaD (fun _ _ _=>rfl) (fun _ _=>rfl) ha hb
theorem Zix (ha:DE K EX Γ Γ1 .A ta fa) (hb:DE K EX Γ1 Γ2 .A tb fb):DE K EX Γ Γ2 .P (tOp (rI Zdb fun i j=>.int (i*j)) ta tb) (fun ρ=>(fa ρ).bind fun x=>(fb ρ).bind fun y=>ZmZ x y):=ZhG (fun _ _ h=>of_decide_eq_true h) (fun _ _ _=>rfl) (fun _ _=>rfl) ha hb
theorem JP (ha:DE K EX Γ Γ1 .A ta fa) (hb:DE K EX Γ1 Γ2 .A tb fb):DE K EX Γ Γ2 .P (tOp (rI Zdc fun i j=>.int (i/j)) ta tb) (fun ρ=>(fa ρ).bind fun x=>(fb ρ).bind fun y=>Zme x y):=ZhG (fun _ _ h=>of_decide_eq_true h) (fun _ _ _=>rfl) (fun _ _=>rfl) ha hb
theorem Jv (ha:DE K EX Γ Γ1 .A ta fa) (hb:DE K EX Γ1 Γ2 .A tb fb):DE K EX Γ Γ2 .P (tOp (rI (fun _ j=>0<j) fun i j=>.int (i%j)) ta tb) (fun ρ=>(fa ρ).bind fun x=>(fb ρ).bind fun y=>Zna x y):=ZhG (fun _ _ h=>of_decide_eq_true h) (fun _ _ _=>rfl) (fun _ _=>rfl) ha hb
theorem Zgf (ha:DE K EX Γ Γ1 .A ta fa) (hb:DE K EX Γ1 Γ2 .A tb fb):DE K EX Γ Γ2 .P (tOp (rI ZjP fun i j=>.int (i^j.toNat)) ta tb) (fun ρ=>(fa ρ).bind fun x=>(fb ρ).bind fun y=>Zmb x y):=ZhG (fun _ _ h=>of_decide_eq_true h) (fun _ _ _=>rfl) (fun _ _=>rfl) ha hb
noncomputable def ZlB (x:PV):Rr PV:=match x with
 |.int i=>.ok (.int (-i))
 |_=>.bad
theorem V7 (ha:DE K EX Γ Γ1 .A ta fa):DE K EX Γ Γ1 .P (tUn (rU fun i=>.int (-i)) ta) (fun ρ=>(fa ρ).bind ZlB):=by
 refine Zmq (fun {H x v Q} rx ⟨z,e,q⟩=>?_) (fun x e h=>?_) ha
 ·cases x<;>first|(simp only[ZlB] at e;cases e;done)|skip
  cases e;cases rx
  exact⟨_,rfl,q rfl _ rfl⟩
 ·cases x<;>(simp only[ZlB] at h;cases h)
theorem Zep {g:Bool->Bool} (x y:PV) (e:PX):Zbw g x y≠.exc e:=by
 unfold Zbw
 intro h
 split at h<;>cases h
theorem Zft {g:Bool->Bool} (x y z:PV) (h:Zbw g x y=.ok z):z.flat=true:=by
 unfold Zbw at h
 split at h
 ·cases h;rfl
 ·cases h
theorem ZM {g:Bool->Bool} (ha:DE K EX Γ Γ1 .A ta fa) (hb:DE K EX Γ1 Γ2 .A tb fb):DE K EX Γ Γ2 .P (tOp (ZlX K g) ta tb) (fun ρ=>(fa ρ).bind fun x=>(fb ρ).bind fun y=>Zbw g x y):=by
 refine Zjx (fun {H x y v w Q} rx ry ⟨z,e,q⟩=>?_) Zft Zep ha hb
 unfold Zbw at e
 by_cases h:(okD x&&okD y)=true
 ·rw[if_pos h] at e;cases e
  rw[Bool.and_eq_true] at h
  exact⟨x,y,rx,ry,h.1,h.2,q rfl _ rfl⟩
 ·rw[if_neg h] at e;cases e
noncomputable def Zmd (g:Bool->Bool) (x:PV):Rr PV:=match x with
 |.non=>.ok (.bl (g true))
 |_=>.ok (.bl (g false))
theorem ZiC {x:PV}{v:V}{S:Addr->Prop} (h:Rep K H S x v):decide (v=.non)=match x with|.non=>true|_=>false:=by
 cases x<;>first|(cases h;rfl)|(obtain⟨a,vs,rfl,_⟩:=h;rfl)|(obtain⟨a,vs,c,rfl,_⟩:=h;rfl)|(obtain⟨a,o,c,d,fs,rfl,_⟩:=h;rfl)
theorem Zlf (ha:DE K EX Γ Γ1 .A ta fa):DE K EX Γ Γ1 .P (tOp (fun x y H Q=>y=.non/\Q (.bl (decide (x=.non))) H) ta (tC .non)) (fun ρ=>(fa ρ).bind (Zmd id)):=fun B H0 H σ ρ F R Q A d=>by
 refine ha B H0 H σ ρ F R _ A (d.bind.imp (fun x _ d v H1 s1 r1=>?_) fun e q=>q)
 obtain⟨F1,f1,p1,A1⟩:=r1
 have e:=ZiC p1
 refine⟨rfl, ?_⟩
 rw[e]
 cases x<;>exact d _ H1 s1 ⟨F1,f1,rfl,rfl,A1⟩
noncomputable def asB (x:PV):Rr Bool:=match x with
 |.bl b=>.ok b
 |_=>.bad
theorem Dn.asB {x:PV}{ok:Bool->Prop}{ex:PX->Prop} (d:Dn (asB x) ok ex):∃b,x=.bl b/\ok b:=by
 cases x with
 |bl b=>exact⟨b,rfl,d⟩
 |_=>exact d.elim
theorem Zld (ha:DE K EX Γ Γ1 .A ta fa):DE K EX Γ Γ1 .P (ZjX ta) (fun ρ=>(fa ρ).bind fun x=>(asB x).bind fun b=>.ok (.bl (!b))):=fun B H0 H σ ρ F R Q A d=>by
 refine ha B H0 H σ ρ F R _ A (d.bind.imp (fun x _ d v H1 s1 r1=>?_) fun e q=>q)
 obtain⟨b,rfl,d⟩:=d.bind.asB
 obtain⟨F1,f1,p1,A1⟩:=r1
 cases p1
 exact⟨b,rfl,d _ H1 s1 ⟨F1,f1,rfl,rfl,A1⟩⟩
theorem Res.shift {H1:Hp}{F1:Nat->List Addr}{k:Kd}{Γ2:List Md}{y:PV}{w:V}{H2:Hp} (s1:Z5 H H1) (f1:∀i,∀a∈F1 i,a∈F i) (h:Res K B H0 H1 σ Γ2 ρ F1 R k y w H2):Res K B H0 H σ Γ2 ρ F R k y w H2:=by
 obtain⟨F2,f2,h⟩:=h
 refine⟨F2,fun i a ha=>f1 i a (f2 i a ha), ?_⟩
 have org:∀a,(H1 a=none\/∃i,a∈F1 i)->(H a=none\/∃i,a∈F i):=fun a h=>h.elim (fun z=>.inl (s1.free z)) fun⟨i,z⟩=>.inr ⟨i,f1 i a z⟩
 cases k with
 |P=>exact h
 |F=>obtain⟨G,h1,h2,h3⟩:=h;exact⟨G,h1,fun a ha=>⟨(h2 a ha).1,org a (h2 a ha).2⟩,h3⟩
 |T=>obtain⟨a,vs,xs,h1,h2,h3,h4,h5,h6,h7⟩:=h;exact⟨a,vs,xs,h1,h2,h3,h4,h5,org a h6,h7⟩
 |Z=>exact h
 |A=>exact h
 |N=>exact h.elim
 |M=>exact h.elim
theorem ZdW (ha:DE K EX Γ Γ .A ta fa) (hb:DE K EX Γ Γ .P tb fb):DE K EX Γ Γ .P (Zke ta tb) (fun ρ=>(fa ρ).bind fun x=>(asB x).bind fun b=>if b=true then fb ρ else .ok (.bl false)):=fun B H0 H σ ρ F R Q A d=>by
 refine ha B H0 H σ ρ F R _ A (d.bind.imp (fun x _ d v H1 s1 r1=>?_) fun e q=>q)
 obtain⟨b,rfl,d⟩:=d.bind.asB
 obtain⟨F1,f1,p1,A1⟩:=r1
 cases p1
 refine⟨b,rfl, ?_⟩
 cases b with
 |true=>exact hb B H0 H1 σ ρ F1 R _ A1 (d.imp (fun y _ q w H2 s2 r2=>q w H2 (s1.trans s2) (r2.shift s1 f1)) fun e q=>q)
 |false=>exact d _ H1 s1 ⟨F1,f1,rfl,rfl,A1⟩
theorem Zw (ha:DE K EX Γ Γ' .A ta fa):DT K EX Γ Γ' (ZjV ta) (fun ρ=>(fa ρ).bind asB):=fun B H0 H σ ρ F R Q A d=>by
 refine ha B H0 H σ ρ F R _ A (d.bind.imp (fun x _ d v H1 s1 r1=>?_) fun e q=>q)
 obtain⟨b,rfl,d⟩:=d.asB
 obtain⟨F1,f1,p1,A1⟩:=r1
 cases p1
 exact⟨b,rfl,d H1 F1 s1 f1 A1⟩
theorem ZeC (ha:DE K EX Γ Γ' .A ta fa):DT K EX Γ Γ' (tB ta) (fun ρ=>(fa ρ).bind asB):=Zw ha
theorem ZkY {c d:TT}{fc fd:List PV->Rr Bool} (hc:DT K EX Γ Γ c fc) (hd:DT K EX Γ Γ d fd):DT K EX Γ Γ (ZmQ c d) (fun ρ=>(fc ρ).bind fun b=>if b=true then fd ρ else .ok false):=fun B H0 H σ ρ F R Q A dn=>by
 refine hc B H0 H σ ρ F R _ A (dn.bind.imp (fun b _ dn H1 F1 s1 f1 A1=>?_) fun e q=>q)
 cases b with
 |true=>exact hd B H0 H1 σ ρ F1 R _ A1 (dn.imp (fun y _ q H2 F2 s2 f2 A2=>q H2 F2 (s1.trans s2) (fun i a h=>f1 i a (f2 i a h)) A2) fun e q=>q)
 |false=>exact dn H1 F1 s1 f1 A1
theorem Zab {c d:TT}{fc fd:List PV->Rr Bool} (hc:DT K EX Γ Γ c fc) (hd:DT K EX Γ Γ d fd):DT K EX Γ Γ (tOr c d) (fun ρ=>(fc ρ).bind fun b=>if b=true then .ok true else fd ρ):=fun B H0 H σ ρ F R Q A dn=>by
 refine hc B H0 H σ ρ F R _ A (dn.bind.imp (fun b _ dn H1 F1 s1 f1 A1=>?_) fun e q=>q)
 cases b with
 |false=>exact hd B H0 H1 σ ρ F1 R _ A1 (dn.imp (fun y _ q H2 F2 s2 f2 A2=>q H2 F2 (s1.trans s2) (fun i a h=>f1 i a (f2 i a h)) A2) fun e q=>q)
 |true=>exact dn H1 F1 s1 f1 A1
theorem U0 {c:TT}{fc:List PV->Rr Bool} (hc:DT K EX Γ Γ' c fc):DT K EX Γ Γ' (ZmL c) (fun ρ=>(fc ρ).bind fun b=>.ok (!b)):=fun B H0 H σ ρ F R Q A dn =>
 hc B H0 H σ ρ F R _ A (dn.bind.imp (fun b _ dn H1 F1 s1 f1 A1=>dn H1 F1 s1 f1 A1) fun e q=>q)
end
def DAA (K:W.Frag) (EX:PX->Hp->Prop) (Γ Γ':List Md) (ta:TA) (f:List PV->Rr (List PV)):Prop:=
 ∀(B:Addr->Prop) (H0 H:Hp) (σ:St) (ρ:List PV) (F:Nat->List Addr) (R:List Addr) (Q:List V->Hp->Prop),Ag K B H0 H σ Γ ρ F R ->
  Dn (f ρ) (fun xs=>∀vs H' F',Z5 H H'->(∀i,∀a∈F' i,a∈F i)->Reps K H' (fun _=>True) xs vs->Ag K B H0 H' σ Γ' ρ F' R->Q vs H') (fun e=>∀H',Z5 H0 H'->EX e H')->ta σ H Q
def DAF (K:W.Frag) (EX:PX->Hp->Prop) (Γ Γ':List Md) (ta:TA) (f:List PV->Rr (List PV)):Prop:=
 ∀(B:Addr->Prop) (H0 H:Hp) (σ:St) (ρ:List PV) (F:Nat->List Addr) (R:List Addr) (Q:List V->Hp->Prop),Ag K B H0 H σ Γ ρ F R ->
  Dn (f ρ) (fun xs=>∀vs H' F' G,Z5 H H'->(∀i,∀a∈F' i,a∈F i)->Trees K H' xs vs G->(∀a∈G,a ∉ R/\(H a=none\/∃i,a∈F i))->Ag K B H0 H' σ Γ' ρ F' (G++R)->Q vs H') (fun e=>∀H',Z5 H0 H'->EX e H')->ta σ H Q
def DAZ (K:W.Frag) (EX:PX->Hp->Prop) (Γ Γ':List Md) (ta:TA) (f:List PV->Rr (List PV)):Prop:=
 ∀(B:Addr->Prop) (H0 H:Hp) (σ:St) (ρ:List PV) (F:Nat->List Addr) (R:List Addr) (Q:List V->Hp->Prop),Ag K B H0 H σ Γ ρ F R ->
  Dn (f ρ) (fun xs=>∀vs H' F',Z5 H H'->(∀i,∀a∈F' i,a∈F i)->Reps K H' (NO B F' R) xs vs->Ag K B H0 H' σ Γ' ρ F' R->Q vs H') (fun e=>∀H',Z5 H0 H'->EX e H')->ta σ H Q
section
variable {K:W.Frag}{B:Addr->Prop}{EX:PX->Hp->Prop}{H0 H H':Hp}{σ:St}{Γ Γ' Γ1 Γ2:List Md}{ρ:List PV}{F F':Nat->List Addr}{R:List Addr}{k:Kd}{x:PV}{v:V}{te tb:TE}{ta:TA}{f fb:List PV->Rr PV}{fa:List PV->Rr (List PV)}
theorem Zi:DAA K EX Γ Γ Zcx (fun _=>.ok []):=fun B H0 H σ ρ F R Q A d=>d [] H F (Z5.refl H) (fun _ _ h=>h) rfl A
theorem Zb (he:DE K EX Γ Γ1 .A te f) (ha:DAA K EX Γ1 Γ2 ta fa):DAA K EX Γ Γ2 (J4 te ta) (fun ρ=>(f ρ).bind fun x=>(fa ρ).bind fun xs=>.ok (x::xs)):=fun B H0 H σ ρ F R Q A d=>by
 refine he B H0 H σ ρ F R _ A (d.bind.imp (fun x _ d v H1 s1 r1=>?_) fun e q=>q)
 obtain⟨F1,f1,p1,A1⟩:=r1
 refine ha B H0 H1 σ ρ F1 R _ A1 (d.bind.imp (fun xs _ d vs H2 F2 s2 f2 p2 A2=>?_) fun e q=>q)
 exact d (v::vs) H2 F2 (s1.trans s2) (fun i a h=>f1 i a (f2 i a h)) ⟨v,vs,rfl,p1.same s2,p2⟩ A2
theorem Je:DAF K EX Γ Γ Zcx (fun _=>.ok []):=fun B H0 H σ ρ F R Q A d=>d [] H F [] (Z5.refl H) (fun _ _ h=>h) ⟨rfl,rfl⟩ (by simp) A
theorem Z4 (he:DE K EX Γ Γ1 .F te f) (ha:DAF K EX Γ1 Γ2 ta fa):DAF K EX Γ Γ2 (J4 te ta) (fun ρ=>(f ρ).bind fun x=>(fa ρ).bind fun xs=>.ok (x::xs)):=fun B H0 H σ ρ F R Q A d=>by
 refine he B H0 H σ ρ F R _ A (d.bind.imp (fun x _ d v H1 s1 r1=>?_) fun e q=>q)
 obtain⟨F1,f1,G1,p1,o1,A1⟩:=r1
 refine ha B H0 H1 σ ρ F1 (G1++R) _ A1 (d.bind.imp (fun xs _ d vs H2 F2 G2 s2 f2 p2 o2 A2=>?_) fun e q=>q)
 refine d (v::vs) H2 F2 (G1++G2) (s1.trans s2) (fun i a h=>f1 i a (f2 i a h)) ⟨v,vs,G1,G2,rfl,p1.same s2,p2,fun a ha z=>(o2 a z).1 (Zt8 _ ha),rfl⟩ (fun a ha=>?_) (A2.less fun a ha=>?_)
 ·rcases ZtA.mp ha with z|z
  ·exact o1 a z
  ·obtain⟨o3,o4⟩:=o2 a z
   exact⟨fun q=>o3 (Zt9 _ q),o4.elim (fun q=>.inl (s1.free q)) fun⟨i,q⟩=>.inr ⟨i,f1 i a q⟩⟩
 ·simp only[ZtA] at ha ⊢
  rcases ha with (z|z)|z
  ·exact .inr (.inl z)
  ·exact .inl z
  ·exact .inr (.inr z)
theorem Zj1:DAZ K EX Γ Γ Zcx (fun _=>.ok []):=fun B H0 H σ ρ F R Q A d=>d [] H F (Z5.refl H) (fun _ _ h=>h) rfl A
theorem ZhL (he:DE K EX Γ Γ1 .Z te f) (ha:DAZ K EX Γ1 Γ2 ta fa):DAZ K EX Γ Γ2 (J4 te ta) (fun ρ=>(f ρ).bind fun x=>(fa ρ).bind fun xs=>.ok (x::xs)):=fun B H0 H σ ρ F R Q A d=>by
 refine he B H0 H σ ρ F R _ A (d.bind.imp (fun x _ d v H1 s1 r1=>?_) fun e q=>q)
 obtain⟨F1,f1,p1,A1⟩:=r1
 refine ha B H0 H1 σ ρ F1 R _ A1 (d.bind.imp (fun xs _ d vs H2 F2 s2 f2 p2 A2=>?_) fun e q=>q)
 refine d (v::vs) H2 F2 (s1.trans s2) (fun i a h=>f1 i a (f2 i a h)) ⟨v,vs,rfl, ?_,p2⟩ A2
 exact Rep.mono (fun a us s r=>⟨r.same s2,s.1,s.2.1,fun i z=>s.2.2 i (f2 i a z)⟩) (fun a us r=>s2.im r) p1
noncomputable def mkT (xs:List PV):Rr PV:=if xs.length<=1000 then .ok (.tup xs) else .bad
noncomputable def mkL (xs:List PV):Rr PV:=if xs.length<=1000 then .ok (.lst xs) else .bad
theorem Dn.mkT {xs:List PV}{ok:PV->Prop}{ex:PX->Prop} (d:Dn (mkT xs) ok ex):xs.length<=1000/\ok (.tup xs):=by
 unfold L2.mkT at d
 by_cases h:xs.length<=1000
 ·rw[if_pos h] at d;exact⟨h,d⟩
 ·rw[if_neg h] at d;exact d.elim
theorem Dn.mkL {xs:List PV}{ok:PV->Prop}{ex:PX->Prop} (d:Dn (mkL xs) ok ex):xs.length<=1000/\ok (.lst xs):=by
 unfold L2.mkL at d
 by_cases h:xs.length<=1000
 ·rw[if_pos h] at d;exact⟨h,d⟩
 ·rw[if_neg h] at d;exact d.elim
theorem Zgd (ha:DAF K EX Γ Γ' ta fa):DE K EX Γ Γ' .F (ZjU ta) (fun ρ=>(fa ρ).bind mkT):=fun B H0 H σ ρ F R Q A d=>by
 refine ha B H0 H σ ρ F R _ A (d.bind.imp (fun xs _ d vs H1 F1 G s1 f1 p1 o1 A1=>?_) fun e q=>q)
 obtain⟨hl,d⟩:=d.mkT
 refine⟨by rw[p1.length];exact Uv hl,fun p hp=>?_⟩
 have e:Z5 H1 (upd H1 p (.tup vs)):=Z5.new hp
 exact d _ _ (s1.trans e) ⟨F1,f1,G,⟨p,vs,rfl,⟨Z0,trivial⟩,p1.same e⟩,o1,A1.grow e⟩
theorem JV (ha:DAA K EX Γ Γ' ta fa):DE K EX Γ Γ' .A (ZjU ta) (fun ρ=>(fa ρ).bind mkT):=fun B H0 H σ ρ F R Q A d=>by
 refine ha B H0 H σ ρ F R _ A (d.bind.imp (fun xs _ d vs H1 F1 s1 f1 p1 A1=>?_) fun e q=>q)
 obtain⟨hl,d⟩:=d.mkT
 refine⟨by rw[p1.length];exact Uv hl,fun p hp=>?_⟩
 have e:Z5 H1 (upd H1 p (.tup vs)):=Z5.new hp
 exact d _ _ (s1.trans e) ⟨F1,f1,⟨p,vs,rfl,⟨Z0,trivial⟩,p1.same e⟩,A1.grow e⟩
theorem Res.newF {H1:Hp}{F1:Nat->List Addr}{G:List Addr}{xs:List PV}{vs:List V}{p:Addr} (s1:Z5 H H1) (f1:∀i,∀a∈F1 i,a∈F i) (p1:Trees K H1 xs vs G) (o1:∀a∈G,a ∉ R/\(H a=none\/∃i,a∈F i)) (A1:Ag K B H0 H1 σ Γ' ρ F1 (G++R)) (hp:H1 p=none) :
  Res K B H0 H σ Γ' ρ F R .F (.lst xs) (.ref p) (upd H1 p (.lst vs)):=by
 have e:Z5 H1 (upd H1 p (.lst vs)):=Z5.new hp
 have hf:=A1.fresh hp
 refine⟨F1,f1,p::G,⟨p,vs,G,rfl,Z0,p1.same e,fun z=>hf.1 (Zt8 _ z),rfl⟩,fun a ha=>?_,A1.new hp⟩
 rcases ZtE.mp ha with rfl|z
 ·exact⟨fun z=>hf.1 (Zt9 _ z),.inl (s1.free hp)⟩
 ·exact o1 a z
theorem Res.newP {H1:Hp}{F1:Nat->List Addr}{xs:List PV}{vs:List V}{p:Addr}{S:Addr->Prop} (s1:Z5 H H1) (f1:∀i,∀a∈F1 i,a∈F i) (p1:Reps K H1 S xs vs) (hx:PV.flats xs=true) (A1:Ag K B H0 H1 σ Γ' ρ F1 R) (hp:H1 p=none) :
  Res K B H0 H σ Γ' ρ F R .F (.lst xs) (.ref p) (upd H1 p (.lst vs)):=Res.newF (G:=[]) s1 f1 (p1.trees hx) (by simp) A1 hp
theorem Jj (ha:DAF K EX Γ Γ' ta fa):DE K EX Γ Γ' .F (Zl7 ta) (fun ρ=>(fa ρ).bind mkL):=fun B H0 H σ ρ F R Q A d=>by
 refine ha B H0 H σ ρ F R _ A (d.bind.imp (fun xs _ d vs H1 F1 G s1 f1 p1 o1 A1=>?_) fun e q=>q)
 obtain⟨hl,d⟩:=d.mkL
 refine⟨by rw[p1.length];exact Uv hl,fun p hp=>d _ _ (s1.trans (Z5.new hp)) (Res.newF s1 f1 p1 o1 A1 hp)⟩
noncomputable def pIx (x y:PV):Rr PV:=match x,y with
 |.lst xs,.int i=>match atI xs i with
  |some z=>.ok z
  |none=>.bad
 |.tup xs,.int i=>match atI xs i with
  |some z=>.ok z
  |none=>.bad
 |_,_=>.bad
theorem ZeZ {S:Addr->Prop}{xs:List PV}{vs:List V}{i:Int}{z:PV} (h:Reps K H S xs vs) (e:atI xs i=some z):∃u,atI vs i=some u/\Rep K H S z u:=by
 unfold atI at e ⊢
 rw[h.length]
 cases q:ixN xs.length i with
 |none=>rw[q] at e;cases e
 |some j =>
  rw[q] at e
  obtain⟨u,e1,e2⟩:=h.get e
  exact⟨u,e1,e2⟩
theorem Zki {S:Addr->Prop}{x y z:PV}{v w:V}{Q:VK} (hx:Rep K H S x v) (hy:Rep K H (fun _=>True) y w) (e:pIx x y=.ok z) (q:∀u,Rep K H S z u->Q u H):rIx K v w H Q:=by
 cases x<;>cases y<;>first|(simp only[pIx] at e;cases e;done)|skip
 ·rename_i xs i
  obtain⟨a,vs,rfl,hn,hr⟩:=hx
  cases hy
  simp only[pIx] at e
  cases e1:atI xs i with
  |none=>rw[e1] at e;cases e
  |some z' =>
   rw[e1] at e;cases e
   obtain⟨u,e2,e3⟩:=ZeZ hr e1
   exact .inl ⟨a,vs,i,u,rfl,rfl,JC hn,e2,q u e3⟩
 ·rename_i xs i
  obtain⟨a,vs,rfl,hn,hr⟩:=hx
  cases hy
  simp only[pIx] at e
  cases e1:atI xs i with
  |none=>rw[e1] at e;cases e
  |some z' =>
   rw[e1] at e;cases e
   obtain⟨u,e2,e3⟩:=ZeZ hr e1
   exact .inr (.inl ⟨a,vs,i,u,rfl,rfl,hn.sqT,e2,q u e3⟩)
theorem Zfr (x y:PV) (e:PX):pIx x y≠.exc e:=by
 cases x<;>cases y<;>first|(intro h;simp only[pIx] at h;cases h;done)|skip
 all_goals
  intro h
  simp only[pIx] at h
  split at h<;>cases h
theorem Dn.pIx {x y:PV}{ok:PV->Prop}{ex:PX->Prop} (d:Dn (pIx x y) ok ex):∃z,pIx x y=.ok z/\ok z:=by
 cases e:L2.pIx x y with
 |ok z=>rw[e] at d;exact⟨z,rfl,d⟩
 |exc q=>exact absurd e (Zfr x y q)
 |bad=>rw[e] at d;exact d.elim
theorem ZB {te ta':TE}{fa':List PV->Rr PV} (ha:DE K EX Γ Γ1 .A ta' fa') (hb:DE K EX Γ1 Γ2 .A tb fb):DE K EX Γ Γ2 .A (tOp (rIx K) ta' tb) (fun ρ=>(fa' ρ).bind fun x=>(fb ρ).bind fun y=>pIx x y):=fun B H0 H σ ρ F R Q A d=>by
 refine two ha hb A d.bind2 fun x y v w H' F' d s hF p1 p2 A'=>?_
 obtain⟨z,e,d⟩:=d.pIx
 exact Zki p1 p2 e fun u hu=>d u H' s ⟨F',hF,hu,A'⟩
def CbP (K:W.Frag) (r:List V->Hp->VK->Prop) (o:List PV->Rr PV):Prop:=∀{H:Hp}{xs:List PV}{vs:List V}{Q:VK},Reps K H (fun _=>True) xs vs->∀z,o xs=.ok z->z.flat=true/\((∀u,Rep K H (fun _=>True) z u->Q u H)->r vs H Q)
theorem Zgj {r:List V->Hp->VK->Prop}{o:List PV->Rr PV} (hr:CbP K r o) (hx:∀xs e,o xs≠.exc e) (ha:DAA K EX Γ Γ' ta fa):DE K EX Γ Γ' .P (tCB r ta) (fun ρ=>(fa ρ).bind o):=fun B H0 H σ ρ F R Q A d=>by
 refine ha B H0 H σ ρ F R _ A (d.bind.imp (fun xs _ d vs H1 F1 s1 f1 p1 A1=>?_) fun e q=>q)
 cases e:o xs with
 |ok z =>
  rw[e] at d
  obtain⟨hf,h⟩:=hr (Q:=Q) p1 z e
  exact h fun u hu=>d u H1 s1 ⟨F1,f1,hf,hu,A1⟩
 |exc q=>exact absurd e (hx xs q)
 |bad=>rw[e] at d;exact d.elim
noncomputable def ZiP (xs:List PV):Rr PV:=match xs with
 |[.lst ys]=>.ok (.int ys.length)
 |[.tup ys]=>.ok (.int ys.length)
 |_=>.bad
theorem VV {S:Addr->Prop}{x:PV}{vs:List V} (h:Reps K H S [x] vs):∃v,vs=[v]/\Rep K H S x v:=by
 obtain⟨v,r,rfl,h1,h2⟩:=h
 cases h2
 exact⟨v,rfl,h1⟩
theorem ZlU {S:Addr->Prop}{x y:PV}{vs:List V} (h:Reps K H S [x,y] vs):∃v w,vs=[v,w]/\Rep K H S x v/\Rep K H S y w:=by
 obtain⟨v,r,rfl,h1,w,r',rfl,h2,h3⟩:=h
 cases h3
 exact⟨v,w,rfl,h1,h2⟩
theorem JO (ha:DAA K EX Γ Γ' ta fa):DE K EX Γ Γ' .P (tCB (fun xs H Q=>∃p ys,xs=[.ref p]/\(SqL K H p ys\/SqT K H p ys)/\Q (.int ys.length) H) ta) (fun ρ=>(fa ρ).bind ZiP):=by
 refine Zgj (fun {H xs vs Q} h z e=>?_) (fun xs e h=>?_) ha
 ·unfold ZiP at e
  split at e<;>first|(cases e;done)|skip
  all_goals
   cases e
   refine⟨rfl,fun q=>?_⟩
   obtain⟨v,rfl,a,ws,rfl,hn,hr⟩:=VV h
   refine⟨a,ws,rfl, ?_,by rw[hr.length];exact q _ rfl⟩
   first|exact .inl (JC (S:=fun _=>True) hn)|exact .inr hn.sqT
 ·unfold ZiP at h;split at h<;>cases h
noncomputable def UT:List PV->Option (List Int)
 |[]=>some []
 |.int i::xs=>(UT xs).map (i::·)
 |_::_=>none
@[simp] theorem ZjL (ns:List Int):UT (ns.map PV.int)=some ns:=by
 induction ns with
 |nil=>rfl
 |cons n ns ih=>simp[UT,ih]
theorem Zca:∀{xs:List PV}{ns:List Int},UT xs=some ns->xs=ns.map PV.int
 |[],_,h=>by cases h;rfl
 |.int i::xs,ns,h=>by
  simp only[UT] at h
  cases e:UT xs with
  |none=>rw[e] at h;cases h
  |some ms=>rw[e] at h;cases h;rw[Zca e];rfl
 |.non::_,_,h=>by cases h
 |.bl _::_,_,h=>by cases h
 |.str _::_,_,h=>by cases h
 |.exc _::_,_,h=>by cases h
 |.exa _ _::_,_,h=>by cases h
 |.box _ _ _::_,_,h=>by cases h
 |.fz _::_,_,h=>by cases h
 |.lst _::_,_,h=>by cases h
 |.tup _::_,_,h=>by cases h
theorem Q9 {S:Addr->Prop}:∀{ns:List Int}{vs:List V},Reps K H S (ns.map PV.int) vs->vs=ns.map V.int
 |[],_,h=>h
 |n::ns,_,h=>by
  obtain⟨v,r,rfl,h1,h2⟩:=h
  cases h1
  rw[Q9 h2];rfl
theorem ZbZ {S:Addr->Prop}:∀(ns:List Int),Reps K H S (ns.map PV.int) (ns.map V.int)
 |[]=>rfl
 |n::ns=>⟨_,_,rfl,rfl,ZbZ ns⟩
theorem Zdo {S:Addr->Prop}{ns:List Int}{v:V} (h:Rep K H S (.lst (ns.map PV.int)) v):∃a,v=.ref a/\SqL K H a (ns.map V.int):=by
 obtain⟨a,vs,rfl,hn,hr⟩:=h
 rw[Q9 hr] at hn
 exact⟨a,rfl,JC hn⟩
noncomputable def ZbO (g:List Int->Rr PV) (xs:List PV):Rr PV:=match xs with
 |[.lst ys]=>match UT ys with
  |some ns=>g ns
  |none=>.bad
 |_=>.bad
theorem Rr.ints {g:List Int->Rr PV}{xs:List PV}{z:PV} (e:ZbO g xs=.ok z):∃ns,xs=[.lst (ns.map PV.int)]/\g ns=.ok z:=by
 unfold ZbO at e
 split at e
 ·split at e
  ·rename_i ns h
   exact⟨ns,by rw[Zca h],e⟩
  ·cases e
 ·cases e
theorem QI {g:List Int->Rr PV} (hg:∀ns e,g ns≠.exc e) (xs:List PV) (e:PX):ZbO g xs≠.exc e:=by
 intro h
 unfold ZbO at h
 split at h
 ·split at h
  ·exact hg _ _ h
  ·cases h
 ·cases h
noncomputable abbrev ZlZ:=ZbO fun ns=>.ok (.int ns.sum)
theorem Zge (ha:DAA K EX Γ Γ' ta fa):DE K EX Γ Γ' .P (tCB (fun xs H Q=>∃p,∃ns:List Int,xs=[.ref p]/\SqL K H p (ns.map V.int)/\Q (.int ns.sum) H) ta) (fun ρ=>(fa ρ).bind ZlZ):=by
 refine Zgj (fun {H xs vs Q} h z e=>?_) (QI fun ns e h=>by cases h) ha
 obtain⟨ns,rfl,e'⟩:=Rr.ints e
 cases e'
 obtain⟨v,rfl,h1⟩:=VV h
 obtain⟨a,rfl,h2⟩:=Zdo h1
 exact⟨rfl,fun q=>⟨a,ns,rfl,h2,q _ rfl⟩⟩
noncomputable def UR:List Int->Int
 |[]=>0
 |[n]=>n
 |n::ns=>min n (UR ns)
theorem VB:∀{ns:List Int},ns≠[]->UR ns∈ns
 |[],h=>absurd rfl h
 |[n],_=>by simp[UR]
 |n::m::ns,_=>by
  have:=VB (ns:=m::ns) (by simp)
  show min n (UR (m::ns))∈n::m::ns
  rcases Int.le_total n (UR (m::ns)) with h|h
  ·rw[Int.min_eq_left h];simp
  ·rw[Int.min_eq_right h];exact ZtM _ this
theorem Zbb:∀{ns:List Int}{x:Int},x∈ns->UR ns<=x
 |[n],x,h=>by simp at h;subst h;exact Int.le_refl _
 |n::m::ns,x,h=>by
  show min n (UR (m::ns))<=x
  rcases ZtE.mp h with rfl|h
  ·exact Int.min_le_left _ _
  ·exact Int.le_trans (Int.min_le_right _ _) (Zbb h)
theorem ZiY {ns:List Int}{m:Int} (h1:m∈ns) (h2:∀a∈ns,m<=a):m=UR ns:=Int.le_antisymm (h2 _ (VB (List.ne_nil_of_mem h1))) (Zbb h1)
noncomputable abbrev Zmc:=ZbO fun ns=>if ns=[] then .bad else .ok (.int (UR ns))
theorem Zle (ha:DAA K EX Γ Γ' ta fa):DE K EX Γ Γ' .P (tCB (Zkk K) ta) (fun ρ=>(fa ρ).bind Zmc):=by
 refine Zgj (fun {H xs vs Q} h z e=>?_) (QI fun ns e h=>by split at h<;>cases h) ha
 obtain⟨ns,rfl,e'⟩:=Rr.ints e
 by_cases hn:ns=[]
 ·rw[if_pos hn] at e';cases e'
 rw[if_neg hn] at e'
 cases e'
 obtain⟨v,rfl,h1⟩:=VV h
 obtain⟨a,rfl,h2⟩:=Zdo h1
 exact⟨rfl,fun q=>⟨a,ns,rfl,h2,List.length_pos_iff.mpr hn,fun m hm hl=>by rw[ZiY hm hl];exact q _ rfl⟩⟩
noncomputable def Zbs:List PV->Option (List Bool)
 |[]=>some []
 |.bl i::xs=>(Zbs xs).map (i::·)
 |_::_=>none
@[simp] theorem Zg1 (ns:List Bool):Zbs (ns.map PV.bl)=some ns:=by
 induction ns with
 |nil=>rfl
 |cons n ns ih=>simp[Zbs,ih]
theorem Q0:∀{xs:List PV}{ns:List Bool},Zbs xs=some ns->xs=ns.map PV.bl
 |[],_,h=>by cases h;rfl
 |.bl i::xs,ns,h=>by
  simp only[Zbs] at h
  cases e:Zbs xs with
  |none=>rw[e] at h;cases h
  |some ms=>rw[e] at h;cases h;rw[Q0 e];rfl
 |.non::_,_,h=>by cases h
 |.int _::_,_,h=>by cases h
 |.str _::_,_,h=>by cases h
 |.exc _::_,_,h=>by cases h
 |.exa _ _::_,_,h=>by cases h
 |.box _ _ _::_,_,h=>by cases h
 |.fz _::_,_,h=>by cases h
 |.lst _::_,_,h=>by cases h
 |.tup _::_,_,h=>by cases h
theorem Qp {S:Addr->Prop}:∀{ns:List Bool}{vs:List V},Reps K H S (ns.map PV.bl) vs->vs=ns.map V.bl
 |[],_,h=>h
 |n::ns,_,h=>by
  obtain⟨v,r,rfl,h1,h2⟩:=h
  cases h1
  rw[Qp h2];rfl
noncomputable def Zk0 (xs:List PV):Rr PV:=match xs with
 |[.lst ys]=>match Zbs ys with
  |some bs=>.ok (.bl (bs.all id))
  |none=>.bad
 |_=>.bad
theorem Zli (ha:DAA K EX Γ Γ' ta fa):DE K EX Γ Γ' .P (tCB (fun xs H Q=>∃p,∃bs:List Bool,xs=[.ref p]/\SqL K H p (bs.map V.bl)/\Q (.bl (bs.all id)) H) ta) (fun ρ=>(fa ρ).bind Zk0):=by
 refine Zgj (fun {H xs vs Q} h z e=>?_) (fun xs e h=>?_) ha
 ·unfold Zk0 at e
  split at e
  ·split at e
   ·rename_i bs hb
    cases e
    rw[Q0 hb] at h
    obtain⟨v,rfl,a,ws,rfl,hn,hr⟩:=VV h
    rw[Qp hr] at hn
    exact⟨rfl,fun q=>⟨a,bs,rfl,JC (S:=fun _=>True) hn,q _ rfl⟩⟩
   ·cases e
  ·cases e
 ·unfold Zk0 at h
  split at h
  ·split at h<;>cases h
  ·cases h
noncomputable def ZjI (xs:List PV):Rr PV:=match xs with
 |[.int i]=>.ok (.int i)
 |[.bl b]=>.ok (.int (if b then 1 else 0))
 |_=>.bad
theorem ZhF (ha:DAA K EX Γ Γ' ta fa):DE K EX Γ Γ' .P (tCB (fun xs H Q=>(∃i,xs=[.int i]/\Q (.int i) H)\/∃k,xs=[.bl k]/\Q (.int (if k then 1 else 0)) H) ta) (fun ρ=>(fa ρ).bind ZjI):=by
 refine Zgj (fun {H xs vs Q} h z e=>?_) (fun xs e h=>?_) ha
 ·unfold ZjI at e
  split at e<;>first|(cases e;done)|skip
  ·cases e
   obtain⟨v,rfl,h1⟩:=VV h
   cases h1
   exact⟨rfl,fun q=>.inl ⟨_,rfl,q _ rfl⟩⟩
  ·cases e
   obtain⟨v,rfl,h1⟩:=VV h
   cases h1
   exact⟨rfl,fun q=>.inr ⟨_,rfl,q _ rfl⟩⟩
 ·unfold ZjI at h;split at h<;>cases h
end
theorem ZdA {n:Nat} (h:n<=1000000):n<=sizeLine:=ZtS h (by decide)
section
end
def Frm (H:Hp) (F:Nat->List Addr) (H':Hp) (F':Nat->List Addr):Prop:=∀a o,H a=some o->(∀i,a ∉ F i)->H' a=some o/\∀i,a ∉ F' i
theorem Frm.refl {H:Hp}{F:Nat->List Addr}:Frm H F H F:=fun a o h n=>⟨h,n⟩
theorem Frm.trans {H H1 H2:Hp}{F F1 F2:Nat->List Addr} (h1:Frm H F H1 F1) (h2:Frm H1 F1 H2 F2):Frm H F H2 F2:=fun a o h n=>let ⟨h3,n3⟩:=h1 a o h n;h2 a o h3 n3
theorem Frm.of {H H':Hp}{F F':Nat->List Addr} (s:Z5 H H') (f:∀i,∀a∈F' i,a∈F i):Frm H F H' F':=fun a o h n=>⟨s a o h,fun i z=>n i (f i a z)⟩
def ItP (K:W.Frag) (S:Addr->Prop) (J:It) (xs:List PV) (H:Hp):Prop:=
 ∀i,(∀x,xs[i]?=some x->J.go i H/\∀v H',J.yld i H v H'->Z5 H H'/\Rep K H' S x v)/\(xs[i]?=none->J.stop i H)
def DI (K:W.Frag) (EX:PX->Hp->Prop) (Γ Γ':List Md) (wi:TI) (f:List PV->Rr (List PV)):Prop:=
 ∀(B:Addr->Prop) (H0 H:Hp) (σ:St) (ρ:List PV) (F:Nat->List Addr) (R:List Addr) (Q:It->Hp->Prop),Ag K B H0 H σ Γ ρ F R ->
  Dn (f ρ) (fun xs=>∀J H' F',Z5 H H'->(∀i,∀a∈F' i,a∈F i)->Ag K B H0 H' σ Γ' ρ F' R->(∀H2 F2,Frm H' F' H2 F2->ItP K (fun a=>NO B F2 R a/\H' a≠none/\∀i,a ∉ F' i) J xs H2)->Q J H') (fun e=>∀H',Z5 H0 H'->EX e H')->wi σ H Q
def DIc (K:W.Frag) (EX:PX->Hp->Prop) (Γ Γ':List Md) (wi:TI) (f:List PV->Rr (List PV)):Prop:=
 ∀(B:Addr->Prop) (H0 H:Hp) (σ:St) (ρ:List PV) (F:Nat->List Addr) (R:List Addr) (Q:It->Hp->Prop),Ag K B H0 H σ Γ ρ F R ->
  Dn (f ρ) (fun xs=>∀J H' F',Z5 H H'->(∀i,∀a∈F' i,a∈F i)->Ag K B H0 H' σ Γ' ρ F' R->(∀H2 F2,Z5 H' H2->(∀i,∀a∈F2 i,a∈F' i)->ItP K (fun a=>NO B F2 R a/\H' a≠none/\∀i,a ∉ F' i) J xs H2)->Q J H') (fun e=>∀H',Z5 H0 H'->EX e H')->wi σ H Q
theorem DI.c {K:W.Frag}{EX:PX->Hp->Prop}{Γ Γ':List Md}{wi:TI}{f:List PV->Rr (List PV)} (h:DI K EX Γ Γ' wi f):DIc K EX Γ Γ' wi f:=fun B H0 H σ ρ F R Q A d =>
 h B H0 H σ ρ F R Q A (d.imp (fun xs _ d J H' F' s1 f1 A1 it=>d J H' F' s1 f1 A1 fun H2 F2 s2 f2=>it H2 F2 (Frm.of s2 f2)) fun e q=>q)
section
variable {K:W.Frag}{B:Addr->Prop}{EX:PX->Hp->Prop}{H0 H H':Hp}{σ:St}{Γ Γ' Γ1 Γ2 Γ3:List Md}{ρ:List PV}{F F':Nat->List Addr}{R:List Addr}{k:Kd}{x:PV}{v:V}{te tb:TE}{ta:TA}{f fb:List PV->Rr PV}{fa:List PV->Rr (List PV)}
theorem Rep.frm {F2:Nat->List Addr}{H2:Hp} (h:Frm H F H2 F2) (A:Ag K B H0 H σ Γ ρ F R) (r:Rep K H (NO B F R) x v):Rep K H2 (fun a=>NO B F2 R a/\H a≠none/\∀i,a ∉ F i) x v:=by
 refine Rep.mono (fun a us s r=>?_) (fun a us r=>?_) r
 ·rcases r with r|⟨o,r⟩
  ·obtain⟨h1,h2⟩:=h a _ r s.2.2;exact⟨.inl h1,⟨s.1,s.2.1,h2⟩,by rw[r];simp,s.2.2⟩
  ·obtain⟨h1,h2⟩:=h a _ r s.2.2;exact⟨.inr ⟨o,h1⟩,⟨s.1,s.2.1,h2⟩,by rw[r];simp,s.2.2⟩
 ·refine⟨(h a _ r.1 fun i z=>?_).1,r.2⟩
  obtain⟨vs,q⟩:=A.live i a z
  exact Qs vs.2 r.2 (by rw[r.1] at q;exact Option.some.inj q)
noncomputable def Zel (lo:Int) (n:Nat):List PV:=(List.range n).map fun(k:Nat)=>PV.int (lo+(k:Int))
theorem ZfK {lo:Int}{n:Nat}{S:Addr->Prop}:ItP K S (Itr lo n) (Zel lo n) H:=by
 intro i
 constructor
 ·intro x hx
  unfold Zel at hx
  rw[ZtL] at hx
  by_cases h:i<n
  ·rw[ZuB h] at hx
   cases hx
   exact⟨h,fun v H' ⟨e1,e2⟩=>by subst e1 e2;exact⟨Z5.refl _,rfl⟩⟩
  ·rw[ZtF (by simpa using h)] at hx;cases hx
 ·intro hx
  unfold Zel at hx
  have:=Zua.mp hx
  show n<=i
  simpa using this
noncomputable def okR (j:Int):Bool:=decide (-(2^62)<=j/\j<2^62)
noncomputable def Zhb (xs:List PV):Rr (List PV):=match xs with
 |[.int j]=>if okR j=true then .ok (Zel 0 j.toNat) else .bad
 |_=>.bad
noncomputable def Zha (xs:List PV):Rr (List PV):=match xs with
 |[.int i,.int j]=>if (okR i&&okR j)=true then .ok (Zel i (j-i).toNat) else .bad
 |_=>.bad
theorem ZcM (ha:DAA K EX Γ Γ' ta fa):DI K EX Γ Γ' (ZkP ta) (fun ρ=>(fa ρ).bind Zhb):=fun B H0 H σ ρ F R Q A d=>by
 refine ha B H0 H σ ρ F R _ A (d.bind.imp (fun xs _ d vs H1 F1 s1 f1 p1 A1=>?_) fun e q=>q)
 unfold Zhb at d
 split at d
 ·rename_i j _
  obtain⟨v,rfl,h1⟩:=VV p1
  cases h1
  by_cases h:okR j=true
  ·rw[if_pos h] at d
   have h':=of_decide_eq_true h
   exact⟨j,rfl,h'.1,h'.2,d _ H1 F1 s1 f1 A1 fun H2 F2 _=>ZfK⟩
  ·rw[if_neg h] at d;exact d.elim
 ·exact d.elim
theorem Zjs (ha:DAA K EX Γ Γ' ta fa):DI K EX Γ Γ' (ZkO ta) (fun ρ=>(fa ρ).bind Zha):=fun B H0 H σ ρ F R Q A d=>by
 refine ha B H0 H σ ρ F R _ A (d.bind.imp (fun xs _ d vs H1 F1 s1 f1 p1 A1=>?_) fun e q=>q)
 unfold Zha at d
 split at d
 ·rename_i i j _
  obtain⟨v,w,rfl,h1,h2⟩:=ZlU p1
  cases h1;cases h2
  by_cases h:(okR i&&okR j)=true
  ·rw[if_pos h] at d
   rw[Bool.and_eq_true] at h
   have h':=of_decide_eq_true h.1
   have h'':=of_decide_eq_true h.2
   exact⟨i,j,rfl,⟨h'.1,h'.2,h''.1,h''.2⟩,d _ H1 F1 s1 f1 A1 fun H2 F2 _=>ZfK⟩
  ·rw[if_neg h] at d;exact d.elim
 ·exact d.elim
noncomputable def asL (x:PV):Rr (List PV):=match x with
 |.lst xs=>.ok xs
 |_=>.bad
theorem Zje {a:Addr}{xs:List PV}{S:Addr->Prop} (h:Rep K H S (.lst xs) (.ref a)):ItP K S (Itl K a) xs H:=by
 obtain⟨a',vs,e,hn,hr⟩:=h
 cases e
 intro i
 constructor
 ·intro x hx
  obtain⟨u,e1,e2⟩:=hr.get hx
  refine⟨⟨vs,u,JC hn,e1⟩,fun v H' ⟨e,y⟩=>?_⟩
  subst e
  have:=y vs (JC hn)
  rw[e1] at this;cases this
  exact⟨Z5.refl _,e2⟩
 ·intro hx
  exact⟨vs,JC hn,by rw[hr.length];exact Zua.mp hx⟩
theorem Vm (he:DE K EX Γ Γ' .Z te f):DI K EX Γ Γ' (Zjg K te) (fun ρ=>(f ρ).bind asL):=fun B H0 H σ ρ F R Q A d=>by
 refine he B H0 H σ ρ F R _ A (d.bind.imp (fun x _ d v H1 s1 r1=>?_) fun e q=>q)
 obtain⟨F1,f1,p1,A1⟩:=r1
 cases x with
 |lst xs =>
  obtain⟨a,vs,rfl,hn,hr⟩:=id p1
  exact⟨a,rfl,⟨vs,JC hn⟩,d _ H1 F1 s1 f1 A1 fun H2 F2 h=>Zje (p1.frm h A1)⟩
 |_=>exact d.elim
theorem Zcf:∀{ns:List Int},PV.flats (ns.map PV.int)=true
 |[]=>rfl
 |n::ns=>by simp only[ZtI,PV.flats,PV.flat,Zcf,Bool.and_self]
def DO (K:W.Frag) (EX:PX->Hp->Prop) (Γ Γ':List Md) (t:TO) (f:List PV->Rr (Option Int)):Prop:=
 ∀(B:Addr->Prop) (H0 H:Hp) (σ:St) (ρ:List PV) (F:Nat->List Addr) (R:List Addr) (Q:Option Int->Hp->Prop),Ag K B H0 H σ Γ ρ F R ->
  Dn (f ρ) (fun o=>∀H' F',Z5 H H'->(∀i,∀a∈F' i,a∈F i)->Ag K B H0 H' σ Γ' ρ F' R->Q o H') (fun e=>∀H',Z5 H0 H'->EX e H')->t σ H Q
theorem Zjr:DO K EX Γ Γ ZeK (fun _=>.ok none):=fun B H0 H σ ρ F R Q A d=>d H F (Z5.refl H) (fun _ _ h=>h) A
noncomputable def asI (x:PV):Rr Int:=match x with
 |.int i=>.ok i
 |_=>.bad
theorem Dn.asI {x:PV}{ok:Int->Prop}{ex:PX->Prop} (d:Dn (asI x) ok ex):∃b,x=.int b/\ok b:=by
 cases x with
 |int b=>exact⟨b,rfl,d⟩
 |_=>exact d.elim
theorem Zjq (he:DE K EX Γ Γ' .A te f):DO K EX Γ Γ' (ZjW te) (fun ρ=>(f ρ).bind fun x=>(asI x).bind fun i=>.ok (some i)):=fun B H0 H σ ρ F R Q A d=>by
 refine he B H0 H σ ρ F R _ A (d.bind.imp (fun x _ d v H1 s1 r1=>?_) fun e q=>q)
 obtain⟨i,rfl,d⟩:=d.bind.asI
 obtain⟨F1,f1,p1,A1⟩:=r1
 cases p1
 exact⟨i,rfl,d H1 F1 s1 f1 A1⟩
noncomputable def Zlm {α:Type} (xs:List α) (lo hi:Option Int):List α:=(xs.drop (HT.sIx xs.length 0 lo)).take (HT.sIx xs.length xs.length hi-HT.sIx xs.length 0 lo)
theorem Reps.cut {S:Addr->Prop}{xs:List PV}{vs:List V} (h:Reps K H S xs vs) (lo hi:Option Int):Reps K H S (Zlm xs lo hi) (ZjN vs lo hi):=by
 unfold Zlm ZjN
 rw[h.length]
 exact(h.drop _).take _
noncomputable def newF (xs:List PV):Rr PV:=if (PV.flats xs&&decide (xs.length<=1000000))=true then .ok (.lst xs) else .bad
theorem Dn.newF {xs:List PV}{ok:PV->Prop}{ex:PX->Prop} (d:Dn (newF xs) ok ex):PV.flats xs=true/\xs.length<=1000000/\ok (.lst xs):=by
 unfold L2.newF at d
 by_cases h:(PV.flats xs&&decide (xs.length<=1000000))=true
 ·rw[if_pos h] at d
  rw[Bool.and_eq_true] at h
  exact⟨h.1,of_decide_eq_true h.2,d⟩
 ·rw[if_neg h] at d;exact d.elim
theorem Zlc {tl th:TO}{fl fh:List PV->Rr (Option Int)} (he:DE K EX Γ Γ1 .A te f) (hl:DO K EX Γ1 Γ2 tl fl) (hh:DO K EX Γ2 Γ3 th fh) :
  DE K EX Γ Γ3 .F (tSl (ZlV K) te tl th) (fun ρ=>(f ρ).bind fun x=>(fl ρ).bind fun lo=>(fh ρ).bind fun hi=>(asL x).bind fun xs=>newF (Zlm xs lo hi)):=fun B H0 H σ ρ F R Q A d=>by
 refine he B H0 H σ ρ F R _ A (d.bind.imp (fun x _ d v H1 s1 r1=>?_) fun e q=>q)
 obtain⟨F1,f1,p1,A1⟩:=r1
 refine hl B H0 H1 σ ρ F1 R _ A1 (d.bind.imp (fun lo _ d H2 F2 s2 f2 A2=>?_) fun e q=>q)
 refine hh B H0 H2 σ ρ F2 R _ A2 (d.bind.imp (fun hi _ d H3 F3 s3 f3 A3=>?_) fun e q=>q)
 cases x with
 |lst xs =>
  obtain⟨h1,h2,d⟩:=Dn.newF d
  obtain⟨a,vs,rfl,hn,hr⟩:=(p1.same s2).same s3
  refine⟨a,vs,rfl,JC (S:=fun _=>True) hn,fun p hp=>?_⟩
  exact d _ _ (((s1.trans s2).trans s3).trans (Z5.new hp)) (Res.newP ((s1.trans s2).trans s3) (fun i a h=>f1 i a (f2 i a (f3 i a h))) (hr.cut lo hi) h1 A3 hp)
 |_=>exact d.elim
noncomputable def Zkw (xs:List PV) (y:PV):Rr PV:=match y with
 |.int k=>if xs.length*k.toNat<=1000000/\-(2^63)<=k/\k<2^63 then newF (List.replicate k.toNat xs).flatten else .bad
 |_=>.bad
theorem Reps.rep {S:Addr->Prop}{xs:List PV}{vs:List V} (h:Reps K H S xs vs):∀n:Nat,Reps K H S (List.replicate n xs).flatten (List.replicate n vs).flatten
 |0=>rfl
 |n+1=>by
  rw[ZtY,ZtY,Zup,Zup]
  exact h.append (Reps.rep h n)
theorem Zjw (ha:DAA K EX Γ Γ1 ta fa) (hb:DE K EX Γ1 Γ2 .A tb fb) :
  DE K EX Γ Γ2 .F (tOp ZmU (Zl7 ta) tb) (fun ρ=>(fa ρ).bind fun xs=>(mkL xs).bind fun _=>(fb ρ).bind fun y=>Zkw xs y):=fun B H0 H σ ρ F R Q A d=>by
 refine ha B H0 H σ ρ F R _ A (d.bind.imp (fun xs _ d vs H1 F1 s1 f1 p1 A1=>?_) fun e q=>q)
 obtain⟨hl,d⟩:=Dn.mkL d.bind
 refine⟨by rw[p1.length];exact Uv hl,fun p hp=>?_⟩
 have e:Z5 H1 (upd H1 p (.lst vs)):=Z5.new hp
 refine hb B H0 _ σ ρ F1 R _ (A1.grow e) (d.bind.imp (fun y _ d w H2 s2 r2=>?_) fun e q=>q)
 obtain⟨F2,f2,p2,A2⟩:=r2
 cases y with
 |int k =>
  cases p2
  simp only[Zkw] at d
  by_cases h:xs.length*k.toNat<=1000000/\-(2^63)<=k/\k<2^63
  ·rw[if_pos h] at d
   obtain⟨h1,h2,d⟩:=Dn.newF d
   refine⟨p,k,vs,rfl,rfl,s2 _ _ Z0,h.2.1,h.2.2,by rw[p1.length];exact ZdA h.1,fun q hq=>?_⟩
   have st:=(s1.trans e).trans s2
   exact d _ _ (st.trans (Z5.new hq)) (Res.newP st (fun i a h=>f1 i a (f2 i a h)) (((p1.same e).same s2).rep k.toNat) h1 A2 hq)
  ·rw[if_neg h] at d;exact d.elim
 |_=>exact d.elim
noncomputable def Zhc (xs:List PV):Rr PV:=match xs with
 |[.lst ys]=>newF ys
 |[.tup ys]=>newF ys
 |_=>.bad
theorem VL (ha:DAA K EX Γ Γ' ta fa):DE K EX Γ Γ' .F (tCB (fun xs H Q=>∃p ys,xs=[.ref p]/\(SqL K H p ys\/SqT K H p ys)/\∀l,H l=none->Q (.ref l) (upd H l (.lst ys))) ta) (fun ρ=>(fa ρ).bind Zhc):=fun B H0 H σ ρ F R Q A d=>by
 refine ha B H0 H σ ρ F R _ A (d.bind.imp (fun xs _ d vs H1 F1 s1 f1 p1 A1=>?_) fun e q=>q)
 unfold Zhc at d
 split at d
 ·obtain⟨h1,h2,d⟩:=Dn.newF d
  obtain⟨v,rfl,a,ws,rfl,hn,hr⟩:=VV p1
  exact⟨a,ws,rfl,.inl (JC (S:=fun _=>True) hn),fun l hl=>d _ _ (s1.trans (Z5.new hl)) (Res.newP s1 f1 hr h1 A1 hl)⟩
 ·obtain⟨h1,h2,d⟩:=Dn.newF d
  obtain⟨v,rfl,a,ws,rfl,hn,hr⟩:=VV p1
  exact⟨a,ws,rfl,.inr hn.sqT,fun l hl=>d _ _ (s1.trans (Z5.new hl)) (Res.newP s1 f1 hr h1 A1 hl)⟩
 ·exact d.elim
noncomputable def VQ:PV->String
 |.non => "NoneType"
 |.bl _ => "bool"
 |.int _ => "int"
 |.str _ => "str"
 |.lst _ => "list"
 |.tup _ => "tuple"
 |.exc _ => "?"
 |.exa _ _ => "?"
 |.box _ (.dk _) _ => "dict"
 |.box _ (.dt _) _ => "dict"
 |.box _ (.ob _ _) _ => "?"
 |.box _ .jk _ => "?"
 |.box _ .ls _ => "?"
 |.fz _ => "?"
noncomputable def PV.isX:PV->Bool
 |.exc _=>true
 |.exa _ _=>true
 |.box _ _ _=>true
 |.fz _=>true
 |_=>false
noncomputable def Zas (t n:String):Bool:=t==n || (t == "bool" && n == "int")
noncomputable def ZlL (n:String):Bool:=n == "int" || n == "bool" || n == "str" || n == "list" || n == "tuple"
theorem ZkD (K:W.Frag) {n:String} (h:ZlL n=true) (x:PV) (hx:x.isX=false):PySem.W.kitOne K (.type (VQ x)) (.type n)=some (Zas (VQ x) n):=by
 simp only[ZlL,Bool.or_eq_true,beq_iff_eq] at h
 rcases h with (((rfl|rfl)|rfl)|rfl)|rfl<;>cases x<;>first|rfl|cases hx
def ZmX (K:W.Frag) (n:String):List V->Hp->VK->Prop:=fun xs H Q=>∃x p,xs=[x,.ty n]/\Rep K H (fun _=>True) p x/\p.isX=false/\Q (.bl (Zas (VQ p) n)) H
theorem Js {X:Cx}{n:String} (hn:ZlL n=true) (e:X.K=K:=by rfl):Vg X (.builtin "isinstance") (ZmX K n):=by
 subst e
 intro pins s σ H xs us Q I r h
 obtain⟨x,p,rfl,hp,hx,q⟩:=h
 obtain⟨u,w',rfl,rx,rn⟩:=ZjS r
 cases rn
 have e:=ZkD X.K hn p hx
 have fin:∀tk,EP X pins σ Q (.bool (Zas (VQ p) n)) { s with toks:=tk }:=fun tk=>⟨.bl _,H,I.tok _,rfl,q⟩
 cases p with
 |non=>cases hp;cases rx;exact PySem.W.kia_one PySem.W.kitx_none I.kIn True.intro e (fun z=>nomatch z) fin
 |bl y=>cases hp;cases rx;exact PySem.W.kia_one PySem.W.kitx_bool I.kIn True.intro e (fun z=>nomatch z) fin
 |int i=>cases hp;obtain⟨t,rfl⟩:=rx;exact PySem.W.kia_one PySem.W.kitx_int I.kIn True.intro e (fun z=>nomatch z) fin
 |str y=>cases hp;obtain⟨t,rfl⟩:=rx;exact PySem.W.kia_one PySem.W.kitx_str I.kIn True.intro e (fun z=>nomatch z) fin
 |exc y=>cases hx
 |exa y i=>cases hx
 |box p s ps=>cases hx
 |fz ps=>cases hx
 |lst ps =>
  obtain⟨a,vs,rfl,hn',hr⟩:=hp
  cases rx
  obtain⟨its,_,pl,_⟩:=I.list (JC (S:=fun _=>True) hn')
  obtain⟨o,h1,h2,_⟩:=pl.isList
  exact PySem.W.kia_one PySem.W.kitx_list I.kIn ⟨o,h1,h2⟩ e (fun z=>nomatch z) fin
 |tup ps =>
  obtain⟨a,vs,rfl,hn',hr⟩:=hp
  cases rx
  obtain⟨its,_,⟨o,h1,h2,_⟩,_⟩:=I.tuple hn'.sqT
  exact PySem.W.kia_one PySem.W.kitx_tuple I.kIn ⟨o,h1,h2⟩ e (fun z=>nomatch z) fin
noncomputable def Zky (n:String) (x:PV):Rr PV:=if x.isX=true then .bad else .ok (.bl (Zas (VQ x) n))
theorem U4 {n:String} (he:DE K EX Γ Γ' .A te f):DE K EX Γ Γ' .P (tCB (ZmX K n) (J4 te (J4 (tC (.ty n)) Zcx))) (fun ρ=>(f ρ).bind (Zky n)):=fun B H0 H σ ρ F R Q A d=>by
 refine he B H0 H σ ρ F R _ A (d.bind.imp (fun x _ d v H1 s1 r1=>?_) fun e q=>q)
 obtain⟨F1,f1,p1,A1⟩:=r1
 unfold Zky at d
 cases hx:x.isX with
 |true=>rw[hx] at d;exact d.elim
 |false=>rw[hx] at d;exact⟨v,x,rfl,p1,hx,d _ H1 s1 ⟨F1,f1,rfl,rfl,A1⟩⟩
def Len (fa:List PV->Rr (List PV)) (n:Nat):Prop:=∀ρ xs,fa ρ=.ok xs->xs.length=n
theorem Zr:Len (fun _=>.ok []) 0:=fun ρ xs h=>by cases h;rfl
theorem Zh {f:List PV->Rr PV}{fa:List PV->Rr (List PV)}{n:Nat} (h:Len fa n):Len (fun ρ=>(f ρ).bind fun x=>(fa ρ).bind fun xs=>.ok (x::xs)) (n+1):=fun ρ xs e=>by
 dsimp only at e
 cases h1:f ρ with
 |ok x =>
  rw[h1] at e
  cases h2:fa ρ with
  |ok ys=>simp only[Rr.bind_ok,h2] at e;cases e;simp[h ρ ys h2]
  |exc q=>simp only[Rr.bind_ok,h2,Rr.bind_exc] at e;cases e
  |bad=>simp only[Rr.bind_ok,h2,Rr.bind_bad] at e;cases e
 |exc q=>rw[h1] at e;cases e
 |bad=>rw[h1] at e;cases e
def ZeD (K:W.Frag) (H:Hp) (a:Addr) (xs:List PV):Prop:=PV.flats xs=true/\∃vs,H a=some (.lst vs)/\Reps K H (fun _=>True) xs vs
def LsR (K:W.Frag) (H:Hp) (x:PV) (v:V) (H':Hp):Prop:=∃y a0 x0 a1 x1 a2 x2,x=.tup [y,.box (some a0) .ls x0,.box (some a1) .ls x1,.box (some a2) .ls x2]/\y.flat=true/\Rep K H' (fun _=>True) y v /\
 ZeD K H' a0 x0/\ZeD K H' a1 x1/\ZeD K H' a2 x2/\H a0=none/\H a1=none/\H a2=none
def ZhR (K:W.Frag) (B:Addr->Prop) (H:Hp) (k:Kd) (x:PV) (v:V) (H':Hp):Prop:=match k with
 |.P=>x.flat=true/\Rep K H' (fun _=>True) x v
 |.F=>∃G,Jc K H' x v G/\∀a∈G,H a=none
 |.N=>∃y a s xs G1 G2,x=.tup [y,.box (some a) s xs]/\Jc K H' y v G1/\Jc K H' (.box (some a) s xs) (.ref a) G2/\(∀b∈G1,b ∉ G2)/\(∀b∈G1,H b=none)/\∀b∈G2,H b=none
 |.M=>LsR K H x v H'
 |_=>Rep K H' (fun a=>B a\/H a=none) x v
noncomputable def spF (K:PySem.W.Frag) (n:Nat) (k:Kd) (W:PX->XK->Hp->Prop) (m:List PV->Rr PV):Sp:=fun vs H Q E=>∃B xs,Reps K H B xs vs/\xs.length=n /\
 Dn (m xs) (fun x=>∀v H',Z5 H H'->ZhR K B H k x v H'->Q v H') (fun e=>∀H',Z5 H H'->W e E H')
def W0:PX->XK->Hp->Prop:=fun _ _ _=>False
def X0:PX->Hp->Prop:=fun _ _=>False
section
variable {n:Nat}{W:PX->XK->Hp->Prop}{m:List PV->Rr PV}{E:XK}
theorem Zbk {t:TE} (ht:∀σ H Q,(ta σ H fun vs H1=>spF K n .P W m vs H1 Q E)->t σ H Q) (hW:∀e H',EX e H'->W e E H') (hn:Len fa n) (ha:DAA K EX Γ Γ' ta fa):DE K EX Γ Γ' .P t (fun ρ=>(fa ρ).bind m):=fun B H0 H σ ρ F R Q A d=>by
 refine ht _ _ _ (ha B H0 H σ ρ F R _ A (d.bind.imp (fun xs hx d vs H1 F1 s1 f1 p1 A1=>?_) fun e q=>q))
 exact⟨fun _=>True,xs,p1,hn ρ xs hx,d.imp (fun x _ d v H2 s2 r=>d v H2 (s1.trans s2) ⟨F1,f1,r.1,r.2,A1.grow s2⟩) fun e q H2 s2=>hW e H2 (q H2 (A1.same.trans s2))⟩
theorem Zbl {t:TE} (ht:∀σ H Q,(ta σ H fun vs H1=>spF K n .F W m vs H1 Q E)->t σ H Q) (hW:∀e H',EX e H'->W e E H') (hn:Len fa n) (ha:DAA K EX Γ Γ' ta fa):DE K EX Γ Γ' .F t (fun ρ=>(fa ρ).bind m):=fun B H0 H σ ρ F R Q A d=>by
 refine ht _ _ _ (ha B H0 H σ ρ F R _ A (d.bind.imp (fun xs hx d vs H1 F1 s1 f1 p1 A1=>?_) fun e q=>q))
 refine⟨fun _=>True,xs,p1,hn ρ xs hx,d.imp (fun x _ d v H2 s2 r=>?_) fun e q H2 s2=>hW e H2 (q H2 (A1.same.trans s2))⟩
 obtain⟨G,r1,r2⟩:=r
 exact d v H2 (s1.trans s2) ⟨F1,f1,G,r1,fun a ha=>⟨(A1.fresh (r2 a ha)).1,.inl (s1.free (r2 a ha))⟩,A1.more s2 r2 r1.alive⟩
end
end
noncomputable def Zbc {α β:Type} (f:α->Rr β):List α->Rr (List β)
 |[]=>.ok []
 |x::xs=>(f x).bind fun y=>(Zbc f xs).bind fun ys=>.ok (y::ys)
noncomputable def lenM (xs:List PV):Rr Unit:=if xs.length<=1000000 then .ok () else .bad
theorem Dn.lenM {xs:List PV}{ok:Unit->Prop}{ex:PX->Prop} (d:Dn (lenM xs) ok ex):xs.length<=1000000/\ok ():=by
 unfold L2.lenM at d
 by_cases h:xs.length<=1000000
 ·rw[if_pos h] at d;exact⟨h,d⟩
 ·rw[if_neg h] at d;exact d.elim
theorem Rr.assoc {α β γ:Type}{r:Rr α}{f:α->Rr β}{g:β->Rr γ}:(r.bind f).bind g=r.bind fun a=>(f a).bind g:=by cases r<;>rfl
section
variable {K:W.Frag}{B:Addr->Prop}{EX:PX->Hp->Prop}{H0 H H':Hp}{σ:St}{Γ Γ1:List Md}{ρ:List PV}{F:Nat->List Addr}{R:List Addr}{x:PV}{v:V}{te:TE}{fe:List PV->Rr PV}
theorem Ag.outF (A:Ag K B H0 H σ Γ ρ F R) {i:Nat} (h:Γ.length<=i):F i=[]:=by
 have:=A.slot i
 rw[Zt5,ZtF h] at this
 exact this
theorem Ag.push (A:Ag K B H0 H σ Γ ρ F R) (h:Rep K H (NO B F R) x v):Ag K B H0 H (σ++[some v]) (Γ++[.S]) (ρ++[x]) F R:=by
 refine⟨A.same,A.own,A.young,A.youngR,A.live,A.liveR,A.disj,A.disjR,by simp[A.lenS],by simp[A.lenR],fun i=>?_⟩
 by_cases h1:i<Γ.length
 ·have:=A.slot i
  rw[Zt5,Zt5,ZtG h1,ZtG (by rw[A.lenR];exact h1),ZtG (by rw[A.lenS];exact h1),<- Zt5,<- Zt5]
  exact this
 ·by_cases h2:i=Γ.length
  ·subst h2
   rw[Zt5,Zt5,ZtQ (ZtD _),ZtQ (by rw[A.lenR];exact ZtD _),ZtQ (by rw[A.lenS];exact ZtD _),A.lenR,A.lenS]
   simp only[Nat.sub_self,Zui,ZuH]
   exact⟨A.outF (ZtD _),v,rfl,h⟩
  ·rw[Zt5,ZtF (by simp;omega)]
   exact A.outF (by omega)
theorem Ag.pop {o:Option V} (A:Ag K B H0 H (σ++[o]) (Γ++[.S]) (ρ++[x]) F R):Ag K B H0 H σ Γ ρ F R:=by
 have l1:σ.length=Γ.length:=by have:=A.lenS;simpa using this
 have l2:ρ.length=Γ.length:=by have:=A.lenR;simpa using this
 refine⟨A.same,A.own,A.young,A.youngR,A.live,A.liveR,A.disj,A.disjR,l1,l2,fun i=>?_⟩
 have:=A.slot i
 by_cases h1:i<Γ.length
 ·rw[Zt5,Zt5,ZtG h1,ZtG (by rw[l2];exact h1),ZtG (by rw[l1];exact h1),<- Zt5,<- Zt5] at this
  exact this
 ·rw[Zt5,ZtF (by omega)]
  by_cases h2:i=Γ.length
  ·subst h2
   rw[Zt5,ZtQ (ZtD _)] at this
   simp only[Nat.sub_self,Zui,ZuH] at this
   exact this.1
  ·exact A.outF (by simp;omega)
theorem Vn {wi:TI}{fi:List PV->Rr (List PV)} (hi:DIc K EX Γ Γ1 wi fi) (he:DE K EX (Γ1++[.S]) (Γ1++[.S]) .F te fe) :
  DE K EX Γ Γ1 .F (ZgM wi te) (fun ρ=>(fi ρ).bind fun xs=>(lenM xs).bind fun _=>(Zbc (fun x=>fe (ρ++[x])) xs).bind fun ys=>.ok (.lst ys)):=fun B H0 H σ ρ F R Q A d=>by
 refine hi B H0 H σ ρ F R _ A (d.bind.imp (fun xs _ d J H1 F1 s1 f1 A1 it=>?_) fun e q=>q)
 obtain⟨hlen,d⟩:=Dn.lenM d.bind
 refine⟨fun i m ys H2=>∃zs G F2,m=xs.length-i/\i<=xs.length/\ys.length=i/\Z5 H1 H2/\Trees K H2 zs ys G/\(∀a∈G,a ∉ R/\(H1 a=none\/∃j,a∈F1 j))/\(∀i,∀a∈F2 i,a∈F1 i)/\Ag K B H0 H2 σ Γ1 ρ F2 (G++R) /\
  Dn ((Zbc (fun x=>fe (ρ++[x])) (xs.drop i)).bind fun ys'=>.ok (.lst (zs++ys'))) (fun x=>∀v H',Z5 H H'->Res K B H0 H σ Γ1 ρ F R .F x v H'->Q v H') (fun e=>∀H',Z5 H0 H'->EX e H'),
  ⟨xs.length,[],[],F1,by simp,Zuk _,rfl,Z5.refl _,⟨rfl,rfl⟩,by simp,fun _ _ h=>h,A1,by simpa using d⟩, ?_⟩
 rintro i m ys H2 ⟨zs,G,F2,rfl,hi',hl,s2,tr,o2,f2,A2,dn⟩
 refine⟨ZdA (by omega), ?_⟩
 have itp:=it H2 F2 s2 f2 i
 cases hx:xs[i]? with
 |none =>
  refine .inl ⟨itp.2 hx,fun p hp=>?_⟩
  have hd:xs.drop i=[]:=Zu1 (Zua.mp hx)
  rw[hd] at dn
  have dn':∀v H',Z5 H H'->Res K B H0 H σ Γ1 ρ F R .F (.lst (zs++[])) v H'->Q v H':=dn
  rw[ZtW] at dn'
  exact dn' _ _ ((s1.trans s2).trans (Z5.new hp)) (Res.newF (s1.trans s2) (fun i a h=>f1 i a (f2 i a h)) tr (fun a ha=>⟨(o2 a ha).1,(o2 a ha).2.elim (fun z=>.inl (s1.free z)) fun⟨j,z⟩=>.inr ⟨j,f1 j a z⟩⟩) A2 hp)
 |some x =>
  have hlt:i<xs.length:=(ZtN.mp hx).1
  obtain⟨go,yl⟩:=itp.1 x hx
  have hdx:xs.drop i=x::xs.drop (i+1):=by
   rw[Zuv hlt]
   rw[Zt6 hlt] at hx;cases hx;rfl
  rw[hdx] at dn
  simp only[Zbc,Rr.assoc] at dn
  refine .inr ⟨go,fun ys' H'=>∃zs G F2,ys'.length=i+1/\Z5 H1 H'/\Trees K H' zs ys' G/\(∀a∈G,a ∉ R/\(H1 a=none\/∃j,a∈F1 j))/\(∀i,∀a∈F2 i,a∈F1 i)/\Ag K B H0 H' σ Γ1 ρ F2 (G++R) /\
   Dn ((Zbc (fun x=>fe (ρ++[x])) (xs.drop (i+1))).bind fun ys'=>.ok (.lst (zs++ys'))) (fun x=>∀v H',Z5 H H'->Res K B H0 H σ Γ1 ρ F R .F x v H'->Q v H') (fun e=>∀H',Z5 H0 H'->EX e H'),
   fun ys' H' ⟨zs,G,F2,a1,a2,a3,a4,a5,a6,a7⟩=>⟨xs.length-(i+1),by omega,zs,G,F2,rfl,hlt,a1,a2,a3,a4,a5,a6,a7⟩,fun v H3 y=>?_⟩
  obtain⟨s3,rx⟩:=yl v H3 y
  have A3:=(A2.grow s3).push (x:=x) (v:=v) (Rep.mono (fun a us s r=>⟨r,s.1.1,fun z=>by
   rcases ZtA.mp z with z|z
   ·rcases (o2 a z).2 with q|⟨j,q⟩
    ·exact s.2.1 q
    ·exact s.2.2 j q
   ·exact s.1.2.1 z,s.1.2.2⟩) (fun a us r=>r) rx)
  refine he B H0 H3 _ _ F2 (G++R) _ A3 (dn.bind.imp (fun z _ dn w H4 s4 r4=>?_) fun e q=>q)
  obtain⟨F4,f4,G4,t4,o4,A4⟩:=r4
  refine⟨zs++[z],G++G4,F4,by simp[hl],(s2.trans s3).trans s4,Trees.append ((tr.same s3).same s4) (Trees.one t4) (fun a ha z=>(o4 a z).1 (Zt8 _ ha)),fun a ha=>?_,fun i a h=>f2 i a (f4 i a h),A4.pop.less fun a ha=>?_, ?_⟩
  ·rcases ZtA.mp ha with z|z
   ·exact o2 a z
   ·refine⟨fun q=>(o4 a z).1 (Zt9 _ q), ?_⟩
    rcases (o4 a z).2 with q|⟨j,q⟩
    ·exact .inl ((s2.trans s3).free q)
    ·exact .inr ⟨j,f2 j a q⟩
  ·simp only[ZtA] at ha ⊢
   rcases ha with (z|z)|z
   ·exact .inr (.inl z)
   ·exact .inl z
   ·exact .inr (.inr z)
  ·simp only[Rr.assoc,Rr.bind_ok,ZuF,List.singleton_append] at dn ⊢
   exact dn
end
inductive RS where
 |next (ρ:List PV)|ret (x:PV)|brk (ρ:List PV)|cont (ρ:List PV)|exc (e:PX)|bad
noncomputable def Rr.thenS {α:Type}:Rr α->(α->RS)->RS
 |.ok a,f=>f a
 |.exc e,_=>.exc e
 |.bad,_=>.bad
noncomputable def RS.seq:RS->(List PV->RS)->RS
 |.next ρ,f=>f ρ
 |r,_=>r
@[simp] theorem Rr.thenS_ok {α:Type}{a:α}{f:α->RS}:(Rr.ok a).thenS f=f a:=rfl
@[simp] theorem Rr.thenS_exc {α:Type}{e:PX}{f:α->RS}:(Rr.exc e:Rr α).thenS f=.exc e:=rfl
@[simp] theorem Rr.thenS_bad {α:Type}{f:α->RS}:(Rr.bad:Rr α).thenS f=.bad:=rfl
@[simp] theorem RS.seq_next {ρ:List PV}{f:List PV->RS}:(RS.next ρ).seq f=f ρ:=rfl
@[simp] theorem RS.seq_ret {x:PV}{f:List PV->RS}:(RS.ret x).seq f=.ret x:=rfl
@[simp] theorem RS.seq_exc {e:PX}{f:List PV->RS}:(RS.exc e).seq f=.exc e:=rfl
structure Tys where
 n:List Md
 b:List Md
 c:List Md
 r:Kd
def DnS (K:W.Frag) (B:Addr->Prop) (EX:PX->Hp->Prop) (Y:Tys) (H0 H:Hp) (F:Nat->List Addr) (D:Ze9) (r:RS):Prop:=match r with
 |.next ρ=>∀σ' H' F',Frm H F H' F'->Ag K B H0 H' σ' Y.n ρ F' []->D.nx σ' H'
 |.brk ρ=>∀σ' H' F',Frm H F H' F'->Ag K B H0 H' σ' Y.b ρ F' []->D.bk σ' H'
 |.cont ρ=>∀σ' H' F',Frm H F H' F'->Ag K B H0 H' σ' Y.c ρ F' []->D.ct σ' H'
 |.ret x=>∀v H',Z5 H0 H'->ZhR K B H0 Y.r x v H'->D.rt v H'
 |.exc e=>∀H',Z5 H0 H'->EX e H'
 |.bad=>False
def DS (K:W.Frag) (EX:PX->Hp->Prop) (Γ:List Md) (Y:Tys) (t:TS) (g:List PV->RS):Prop:=
 ∀(B:Addr->Prop) (H0 H:Hp) (σ:St) (ρ:List PV) (F:Nat->List Addr) (D:Ze9),Ag K B H0 H σ Γ ρ F []->DnS K B EX Y H0 H F D (g ρ)->t D σ H
section
variable {K:W.Frag}{B:Addr->Prop}{EX:PX->Hp->Prop}{H0 H H':Hp}{σ:St}{Γ Γ' Γ1 Γ2 Γ3:List Md}{ρ:List PV}{F F':Nat->List Addr}{R:List Addr}{k:Kd}{x:PV}{v:V}{te:TE}{f fc:List PV->Rr PV}
 {t u:TS}{g g':List PV->RS}{Y:Tys}{D:Ze9}
theorem DnS.shift {H1:Hp}{F1:Nat->List Addr}{r:RS} (fr:Frm H F H1 F1) (h:DnS K B EX Y H0 H F D r):DnS K B EX Y H0 H1 F1 D r:=by
 cases r with
 |next ρ=>exact fun σ' H' F' fr' A=>h σ' H' F' (fr.trans fr') A
 |brk ρ=>exact fun σ' H' F' fr' A=>h σ' H' F' (fr.trans fr') A
 |cont ρ=>exact fun σ' H' F' fr' A=>h σ' H' F' (fr.trans fr') A
 |ret x=>exact h
 |exc e=>exact h
 |bad=>exact h
theorem DnS.thenS {α:Type}{r:Rr α}{f:α->RS} (h:DnS K B EX Y H0 H F D (r.thenS f)):Dn r (fun a=>DnS K B EX Y H0 H F D (f a)) (fun e=>∀H',Z5 H0 H'->EX e H'):=by
 cases r with
 |ok a=>exact h
 |exc e=>exact h
 |bad=>exact h
theorem Z7:DS K EX Γ ⟨Γ,Γ1,Γ2,k⟩ ZjY (fun ρ=>.next ρ):=fun B H0 H σ ρ F D A d=>d σ H F Frm.refl A
theorem Zm {Γm:List Md} (h1:DS K EX Γ ⟨Γm,Y.b,Y.c,Y.r⟩ t g) (h2:DS K EX Γm Y u g'):DS K EX Γ Y (ZmK t u) (fun ρ=>(g ρ).seq g'):=fun B H0 H σ ρ F D A d=>by
 refine h1 B H0 H σ ρ F _ A ?_
 dsimp only at d
 cases e:g ρ with
 |next ρ1 =>
  rw[e] at d
  exact fun σ' H' F' fr A'=>h2 B H0 H' σ' ρ1 F' D A' (DnS.shift fr d)
 |brk ρ1=>rw[e] at d;exact d
 |cont ρ1=>rw[e] at d;exact d
 |ret x=>rw[e] at d;exact d
 |exc q=>rw[e] at d;exact d
 |bad=>rw[e] at d;exact d
noncomputable def mle (m m':Md):Bool:=m==m' || m'==.U || (m'==.S&&m != .U) || (m'==.O&&m==.P)
noncomputable def ZaZ:List Md->List Md->Bool
 |[],[]=>true
 |m::ms,m'::ms'=>mle m m'&&ZaZ ms ms'
 |_,_=>false
theorem Zd9:∀{Γ Γ':List Md},ZaZ Γ Γ'=true->Γ.length=Γ'.length/\∀i,mle (Γ.getD i .U) (Γ'.getD i .U)=true
 |[],[],_=>⟨rfl,fun i=>by simp[mle]⟩
 |m::ms,m'::ms',h=>by
  simp only[ZaZ,Bool.and_eq_true] at h
  obtain⟨h1,h2⟩:=Zd9 h.2
  refine⟨by simp[h1],fun i=>?_⟩
  cases i with
  |zero=>simpa using h.1
  |succ i=>simpa using h2 i
 |[],_::_,h=>by cases h
 |_::_,[],h=>by cases h
theorem Ag.weak (A:Ag K B H0 H σ Γ ρ F R) (h:ZaZ Γ Γ'=true):∃F',(∀i,∀a∈F' i,a∈F i)/\Ag K B H0 H σ Γ' ρ F' R:=by
 obtain⟨hl,hm⟩:=Zd9 h
 let F':Nat->List Addr:=fun i=>if Γ.getD i .U=Γ'.getD i .U then F i else []
 have hF:∀i,∀a∈F' i,a∈F i:=fun i a ha=>by
  by_cases q:Γ.getD i .U=Γ'.getD i .U
  ·simp only[F',if_pos q] at ha;exact ha
  ·simp only[F',if_neg q] at ha;simp at ha
 have up:∀{a},NO B F R a->NO B F' R a:=fun {a} s=>⟨s.1,s.2.1,fun j z=>s.2.2 j (hF j a z)⟩
 refine⟨F',hF,A.same,A.own,fun i a ha=>A.young i a (hF i a ha),A.youngR,fun i a ha=>A.live i a (hF i a ha),A.liveR,fun i j hij a ha z=>A.disj i j hij a (hF i a ha) (hF j a z),fun i a ha=>A.disjR i a (hF i a ha),by rw[A.lenS,hl],by rw[A.lenR,hl],fun i=>?_⟩
 have sl:=A.slot i
 have hmi:=hm i
 by_cases q:Γ.getD i .U=Γ'.getD i .U
 ·simp only[F',if_pos q]
  rw[<- q]
  exact sl.mono (fun a vs s r=>⟨r,up s⟩) (fun a vs r=>r) fun a ha vs r=>r
 ·simp only[F',if_neg q]
  simp only[mle,Bool.or_eq_true,beq_iff_eq,Bool.and_eq_true,bne_iff_ne] at hmi
  rcases hmi with ((z|z)|z)|z
  ·exact absurd z q
  ·rw[z];exact rfl
  rotate_left
  ·rw[z.1]
   rw[z.2] at sl
   obtain⟨e,v,h1,h2,h3⟩:=sl
   exact⟨v,h1,h3.tree h2⟩
  ·rw[z.1]
   have own:∀a∈F i,NO B F' R a:=fun a ha=>⟨A.own a (A.young i a ha),A.disjR i a ha,fun j w=>by
    by_cases hj:j=i
    ·subst hj;simp only[F',if_neg q] at w;simp at w
    ·exact A.disj j i hj a (hF j a w) ha⟩
   cases hmm:Γ.getD i .U with
   |U=>exact absurd hmm z.2
   |P=>rw[hmm] at sl;obtain⟨e,v,h1,h2,h3⟩:=sl;exact⟨rfl,v,h1,h3.flatS h2⟩
   |S=>rw[hmm] at sl;obtain⟨e,v,h1,h2⟩:=sl;exact⟨rfl,v,h1,Rep.mono (fun a vs s r=>⟨r,up s⟩) (fun a vs r=>r) h2⟩
   |T =>
    rw[hmm] at sl
    obtain⟨a,vs,xs,h1,h2,h3,h4,h5⟩:=sl
    refine⟨rfl,_,h1, ?_⟩
    rw[h2]
    exact⟨a,vs,rfl,.inl ⟨.inl h3,own a (by rw[h5];simp)⟩,Reps.mono (fun a vs s r=>⟨r,up s⟩) (fun a vs r=>r) h4⟩
   |O=>rw[hmm] at sl;obtain⟨v,h1,h2⟩:=sl;exact⟨rfl,v,h1,h2.rep own⟩
theorem DS.out {Y':Tys} (h:DS K EX Γ Y t g) (hn:ZaZ Y.n Y'.n=true) (hb:ZaZ Y.b Y'.b=true) (hc:ZaZ Y.c Y'.c=true) (hr:Y.r=Y'.r):DS K EX Γ Y' t g:=fun B H0 H σ ρ F D A d=>by
 refine h B H0 H σ ρ F D A ?_
 cases e:g ρ with
 |next ρ1=>rw[e] at d;exact fun σ' H' F' fr A'=>let ⟨F2,f2,A2⟩:=A'.weak hn;d σ' H' F2 (fr.trans (Frm.of (Z5.refl _) f2)) A2
 |brk ρ1=>rw[e] at d;exact fun σ' H' F' fr A'=>let ⟨F2,f2,A2⟩:=A'.weak hb;d σ' H' F2 (fr.trans (Frm.of (Z5.refl _) f2)) A2
 |cont ρ1=>rw[e] at d;exact fun σ' H' F' fr A'=>let ⟨F2,f2,A2⟩:=A'.weak hc;d σ' H' F2 (fr.trans (Frm.of (Z5.refl _) f2)) A2
 |ret x=>rw[e] at d;exact fun v H' s r=>d v H' s (hr▸r)
 |exc q=>rw[e] at d;exact d
 |bad=>rw[e] at d;exact d
theorem Zbg {H1:Hp}{F1:Nat->List Addr}{i:Nat}{G:List Addr} (s1:Z5 H H1) (f1:∀i,∀a∈F1 i,a∈F i) (o:∀a∈G,H a=none\/∃i,a∈F i):Frm H F H1 (VY F1 i G):=fun a u h n=>by
 refine⟨s1 a u h,fun j z=>?_⟩
 by_cases q:j=i
 ·subst q
  rw[Zt] at z
  rcases o a z with w|⟨l,w⟩
  ·rw[h] at w;cases w
  ·exact n l w
 ·rw[ZA q] at z;exact n j (f1 j a z)
theorem Z3 {i:Nat} (he:DE K EX Γ Γ' .P te f) (hi:i<Γ'.length):DS K EX Γ ⟨Γ'.set i .P,Γ1,Γ2,k⟩ (ZgN te (Zat i)) (fun ρ=>(f ρ).thenS fun x=>.next (ρ.set i x)):=fun B H0 H σ ρ F D A d=>by
 refine he B H0 H σ ρ F [] _ A (d.thenS.imp (fun x _ d v H1 s1 r1=>?_) fun e q=>q)
 obtain⟨F1,f1,h1,h2,A1⟩:=r1
 exact d _ H1 _ (Zbg (G:=[]) s1 f1 (by simp)) (Ag.put (G:=[]) (R:=[]) A1 hi (by simp) ⟨rfl,v,rfl,h1,h2⟩)
theorem Ji {i:Nat} (he:DE K EX Γ Γ' .F te f) (hi:i<Γ'.length):DS K EX Γ ⟨Γ'.set i .O,Γ1,Γ2,k⟩ (ZgN te (Zat i)) (fun ρ=>(f ρ).thenS fun x=>.next (ρ.set i x)):=fun B H0 H σ ρ F D A d=>by
 refine he B H0 H σ ρ F [] _ A (d.thenS.imp (fun x _ d v H1 s1 r1=>?_) fun e q=>q)
 obtain⟨F1,f1,G,h1,h2,A1⟩:=r1
 exact d _ H1 _ (Zbg s1 f1 fun a ha=>(h2 a ha).2) (Ag.put (R:=[]) A1 hi (by simp) ⟨v,rfl,h1⟩)
theorem Zaf (he:DE K EX Γ Γ' .A te f):DS K EX Γ ⟨Γ',Γ1,Γ2,k⟩ (Zcz te) (fun ρ=>(f ρ).thenS fun _=>.next ρ):=fun B H0 H σ ρ F D A d=>by
 refine he B H0 H σ ρ F [] _ A (d.thenS.imp (fun x _ d v H1 s1 r1=>?_) fun e q=>q)
 obtain⟨F1,f1,h1,A1⟩:=r1
 exact d σ H1 F1 (Frm.of s1 f1) A1
theorem ZG (he:DE K EX Γ Γ' .P te f):DS K EX Γ ⟨Γ3,Γ1,Γ2,.P⟩ (ZjG te) (fun ρ=>(f ρ).thenS fun x=>.ret x):=fun B H0 H σ ρ F D A d=>by
 refine he B H0 H σ ρ F [] _ A (d.thenS.imp (fun x _ d v H1 s1 r1=>?_) fun e q=>q)
 obtain⟨F1,f1,h1,h2,A1⟩:=r1
 exact d v H1 A1.same ⟨h1,h2⟩
theorem JU (he:DE K EX Γ Γ' .F te f):DS K EX Γ ⟨Γ3,Γ1,Γ2,.F⟩ (ZjG te) (fun ρ=>(f ρ).thenS fun x=>.ret x):=fun B H0 H σ ρ F D A d=>by
 refine he B H0 H σ ρ F [] _ A (d.thenS.imp (fun x _ d v H1 s1 r1=>?_) fun e q=>q)
 obtain⟨F1,f1,G,h1,h2,A1⟩:=r1
 exact d v H1 A1.same ⟨G,h1,fun a ha=>A1.youngR a (by simpa using ha)⟩
theorem ZZ {c:TT}{fc:List PV->Rr Bool} (hc:DT K EX Γ Γ' c fc) (h1:DS K EX Γ' Y t g) (h2:DS K EX Γ' Y u g'):DS K EX Γ Y (ZmM c t u) (fun ρ=>(fc ρ).thenS fun b=>if b=true then g ρ else g' ρ):=fun B H0 H σ ρ F D A d=>by
 refine hc B H0 H σ ρ F [] _ A (d.thenS.imp (fun b _ d H1 F1 s1 f1 A1=>?_) fun e q=>q)
 cases b with
 |true=>exact h1 B H0 H1 σ ρ F1 D A1 (DnS.shift (Frm.of s1 f1) d)
 |false=>exact h2 B H0 H1 σ ρ F1 D A1 (DnS.shift (Frm.of s1 f1) d)
theorem VI:DS K EX Γ Y ZeL (fun _=>.bad):=fun B H0 H σ ρ F D A d=>d
theorem Zjp {i:Nat}{h:Int->Int->Int} (hm:Γ[i]?=some .P) (he:DE K EX Γ Γ .A te f):DS K EX Γ ⟨Γ,Γ1,Γ2,k⟩ (ZmP i te (ipI h)) (fun ρ=>(f ρ).thenS fun y=>(oI (fun _ _=>true) (fun i j=>.int (h i j)) (gv i ρ) y).thenS fun z=>.next (ρ.set i z)):=fun B H0 H σ ρ F D A d=>by
 obtain⟨v,h1,h2,h3⟩:=A.getP hm
 refine⟨v,h1,he B H0 H σ ρ F [] _ A (d.thenS.imp (fun y _ d w H1 s1 r1=>?_) fun e q=>q)⟩
 obtain⟨F1,f1,p1,A1⟩:=r1
 have h3':=h3.same s1
 change Rep K H1 _ (gv i ρ) v at h3'
 generalize gv i ρ=gx at h3' d
 cases gx<;>cases y<;>first|(exact d.elim;done)|skip
 rename_i p q _
 cases h3';cases p1
 refine⟨p,q,rfl,rfl,d _ H1 _ (Zbg (i:=i) (G:=[]) s1 f1 (by simp)) ?_⟩
 have:=Ag.put (i:=i) (m:=.P) (x:=.int (h p q)) (v:=.int (h p q)) (G:=[]) (R:=[]) A1 (A.lt hm) (by simp) ⟨rfl,_,rfl,rfl,rfl⟩
 have e:Γ.set i .P=Γ:=by
  apply Zu2
  intro j
  by_cases q:i=j
  ·subst q;rw[ZtH (A.lt hm),hm]
  ·rw[ZtJ q]
 rw[e] at this
 exact this
variable {ti:TE}{fi:List PV->Rr PV}
 {t u:TS}{g g':List PV->RS}{Y:Tys}{D:Ze9}
theorem ZgR {i:Nat}{m:Md} (h:Γ[i]?=some m):Γ.set i m=Γ:=by
 apply Zu2
 intro j
 by_cases q:i=j
 ·subst q;rw[ZtH (ZtN.mp h).1,h]
 ·rw[ZtJ q]
theorem Ag.chgB {i:Nat}{m:Md}{a:Addr}{o':HO} (ho:Lvo o') {x':PV}{G G':List Addr} (A:Ag K B H0 H σ Γ ρ F (G++R)) (hm:Γ[i]?=some m) (ha:a∈F i) (hG:∀b∈G',b∈F i\/b∈G) (hGR:∀b∈G,b ∉ R)
  (hs:VS K (upd H a o') (NO B (VY F i G') R) m x' σ[i]? G'):Ag K B H0 (upd H a o') σ Γ (ρ.set i x') (VY F i G') R:=by
 obtain⟨us,hH⟩:=A.live i a ha
 have hi:=A.lt hm
 have liveU:∀b,(∃us:LvO,H b=some us.1)->∃us:LvO,upd H a o' b=some us.1:=fun b ⟨us,q⟩=>by
  by_cases e:b=a
  ·exact⟨⟨o',ho⟩,by rw[e,Z0]⟩
  ·exact⟨us,by rw[Zq e];exact q⟩
 refine⟨A.same.upd (A.young i a ha),A.own,fun j b hb=>?_,fun b hb=>A.youngR b (Zt9 _ hb),fun j b hb=>liveU b ?_,fun b hb=>liveU b (A.liveR b (Zt9 _ hb)),fun j l hjl b hb z=>?_,fun j b hb z=>?_,A.lenS,by simp[A.lenR],fun j=>?_⟩
 ·by_cases q:j=i
  ·subst q;rw[Zt] at hb
   rcases hG b hb with z|z
   ·exact A.young j b z
   ·exact A.youngR b (Zt8 _ z)
  ·rw[ZA q] at hb;exact A.young j b hb
 ·by_cases q:j=i
  ·subst q;rw[Zt] at hb
   rcases hG b hb with z|z
   ·exact A.live j b z
   ·exact A.liveR b (Zt8 _ z)
  ·rw[ZA q] at hb;exact A.live j b hb
 ·by_cases q:j=i
  ·subst q
   rw[Zt] at hb
   rw[ZA (Ne.symm hjl)] at z
   rcases hG b hb with w|w
   ·exact A.disj j l hjl b w z
   ·exact A.disjR l b z (Zt8 _ w)
  ·rw[ZA q] at hb
   by_cases q':l=i
   ·subst q'
    rw[Zt] at z
    rcases hG b z with w|w
    ·exact A.disj j l hjl b hb w
    ·exact A.disjR j b hb (Zt8 _ w)
   ·rw[ZA q'] at z;exact A.disj j l hjl b hb z
 ·by_cases q:j=i
  ·subst q;rw[Zt] at hb
   rcases hG b hb with w|w
   ·exact A.disjR j b w (Zt9 _ z)
   ·exact hGR b w z
  ·rw[ZA q] at hb;exact A.disjR j b hb (Zt9 _ z)
 ·by_cases q:j=i
  ·subst q
   rw[Zt,Zt5,Zt5,hm,ZtH (by rw[A.lenR];exact hi)]
   exact hs
  ·rw[ZA q,Zt5 (l:=ρ.set _ _),ZtJ (Ne.symm q),<- Zt5]
   refine(A.slot j).mono (fun b us s r=>?_) (fun b us r=>Im.putL hH r) fun b hb us r=>?_
   ·have hne:b≠a:=fun z=>s.2.2 i (z▸ha)
    refine⟨?_,s.1,fun z=>s.2.1 (Zt9 _ z),fun l z=>?_⟩
    ·rcases r with r|⟨o,r⟩
     ·exact .inl (by rw[Zq hne];exact r)
     ·exact .inr ⟨o,by rw[Zq hne];exact r⟩
    ·by_cases q':l=i
     ·subst q';rw[Zt] at z
      rcases hG b z with w|w
      ·exact s.2.2 l w
      ·exact s.2.1 (Zt8 _ w)
     ·rw[ZA q'] at z;exact s.2.2 l z
   ·have hne:b≠a:=fun z=>A.disj j i q b hb (z▸ha)
    rw[Zq hne];exact r
theorem Ag.chg {i:Nat}{m:Md}{a:Addr}{vs':List V}{x':PV}{G G':List Addr} (A:Ag K B H0 H σ Γ ρ F (G++R)) (hm:Γ[i]?=some m) (ha:a∈F i) (hG:∀b∈G',b∈F i\/b∈G) (hGR:∀b∈G,b ∉ R)
  (hs:VS K (upd H a (.lst vs')) (NO B (VY F i G') R) m x' σ[i]? G'):Ag K B H0 (upd H a (.lst vs')) σ Γ (ρ.set i x') (VY F i G') R:=Ag.chgB (o':=.lst vs') trivial A hm ha hG hGR hs
theorem QY {H1:Hp}{F1:Nat->List Addr}{i:Nat}{a:Addr}{o:HO}{G':List Addr} (s1:Z5 H H1) (f1:∀i,∀b∈F1 i,b∈F i) (ha:a∈F1 i) (hG:∀b∈G',H b=none\/∃j,b∈F j):Frm H F (upd H1 a o) (VY F1 i G'):=fun b u h n=>by
 have hne:b≠a:=fun z=>n i (f1 i b (z▸ha))
 refine⟨by rw[Zq hne];exact s1 b u h,fun j z=>?_⟩
 by_cases q:j=i
 ·subst q;rw[Zt] at z
  rcases hG b z with w|⟨l,w⟩
  ·rw[h] at w;cases w
  ·exact n l w
 ·rw[ZA q] at z;exact n j (f1 j b z)
theorem Trees.setP:∀{xs:List PV}{vs:List V}{G:List Addr}{j:Nat}{y:PV}{w:V},Trees K H xs vs G->Jc K H y w []->∃G',(∀a∈G',a∈G)/\Trees K H (xs.set j y) (vs.set j w) G'
 |[],_,_,_,_,_,h,_=>⟨[],by simp,by rw[h.1];exact⟨rfl,rfl⟩⟩
 |x::xs,_,_,0,y,w,h,h'=>by
  obtain⟨v,r,G1,G2,rfl,h1,h2,h3,rfl⟩:=h
  exact⟨G2,fun a ha=>by simp[ha],w,r,[],G2,rfl,h',h2,by simp,rfl⟩
 |x::xs,_,_,j+1,y,w,h,h'=>by
  obtain⟨v,r,G1,G2,rfl,h1,h2,h3,rfl⟩:=h
  obtain⟨G',h4,h5⟩:=Trees.setP (j:=j) h2 h'
  refine⟨G1++G',fun a ha=>?_,v,r.set j w,G1,G',rfl,h1,h5,fun a ha z=>h3 a ha (h4 a z),rfl⟩
  rcases ZtA.mp ha with z|z
  ·simp[z]
  ·simp[h4 a z]
noncomputable def pSet (x i y:PV):Rr PV:=match x,i with
 |.lst xs,.int j=>match ixN xs.length j with
  |some n=>.ok (.lst (xs.set n y))
  |none=>.bad
 |_,_=>.bad
theorem Dn.pSet {x i y:PV}{ok:PV->Prop}{ex:PX->Prop} (d:Dn (pSet x i y) ok ex):∃xs j n,x=.lst xs/\i=.int j/\ixN xs.length j=some n/\ok (.lst (xs.set n y)):=by
 unfold L2.pSet at d
 split at d
 ·rename_i xs j
  cases e:ixN xs.length j with
  |none=>rw[e] at d;exact d.elim
  |some n=>rw[e] at d;exact⟨xs,j,n,rfl,rfl,e,d⟩
 ·exact d.elim
theorem V5 {i:Nat} (hm:Γ2[i]?=some .O) (he:DE K EX Γ Γ2 .P te f) (hi:DE K EX Γ2 Γ2 .A ti fi) :
  DS K EX Γ ⟨Γ2,Γ1,Γ3,k⟩ (ZgN te (Znc (UA i) ti ZiD)) (fun ρ=>(f ρ).thenS fun y=>(fi ρ).thenS fun j=>(pSet (gv i ρ) j y).thenS fun z=>.next (ρ.set i z)):=fun B H0 H σ ρ F D A d=>by
 refine he B H0 H σ ρ F [] _ A (d.thenS.imp (fun y _ d w H1 s1 r1=>?_) fun e q=>q)
 obtain⟨F1,f1,y1,y2,A1⟩:=r1
 obtain⟨v,h1,h2⟩:=A1.getO hm
 refine⟨v,h1,hi B H0 H1 σ ρ F1 [] _ A1 (d.thenS.imp (fun j _ d jv H2 s2 r2=>?_) fun e q=>q)⟩
 obtain⟨F2,f2,p2,A2⟩:=r2
 obtain⟨xs,jj,n,e1,rfl,e2,d⟩:=Dn.pSet d.thenS
 obtain⟨v',h1',h2'⟩:=A2.getO hm
 rw[h1] at h1';cases h1'
 rw[show ρ.getD i .non=.lst xs from e1] at h2'
 obtain⟨a,vs,G,rfl,hH,ht,hn,hF⟩:=h2'
 cases p2
 refine⟨a,vs,jj,n,rfl,rfl,hH,by rw[ht.length];exact e2, ?_⟩
 obtain⟨G',g1,g2⟩:=Trees.setP (j:=n) ht ((y2.same s2).tree y1)
 have haF:a∈F2 i:=by rw[hF];simp
 have hsub:∀b∈a::G',b∈F2 i:=fun b hb=>by
  rw[hF]
  rcases ZtE.mp hb with rfl|hb
  ·simp
  ·simp[g1 b hb]
 refine d σ _ (VY F2 i (a::G')) (QY (s1.trans s2) (fun j b hb=>f1 j b (f2 j b hb)) haF fun b hb=>.inr ⟨i,f1 i b (f2 i b (hsub b hb))⟩) (Ag.chg (G:=[]) A2 hm haF (fun b hb=>.inl (hsub b hb)) (by simp) ?_)
 exact⟨_,h1,a,_,G',rfl,Z0,g2.put hH (fun z=>hn (g1 a z)),fun z=>hn (g1 a z),rfl⟩
noncomputable def pApp (x y:PV):Rr PV:=match x with
 |.lst xs=>if xs.length<1000000 then .ok (.lst (xs++[y])) else .bad
 |_=>.bad
theorem Dn.pApp {x y:PV}{ok:PV->Prop}{ex:PX->Prop} (d:Dn (pApp x y) ok ex):∃xs,x=.lst xs/\xs.length<1000000/\ok (.lst (xs++[y])):=by
 unfold L2.pApp at d
 split at d
 ·rename_i xs
  by_cases h:xs.length<1000000
  ·rw[if_pos h] at d;exact⟨xs,rfl,h,d⟩
  ·rw[if_neg h] at d;exact d.elim
 ·exact d.elim
theorem Dn.asL {x:PV}{ok:List PV->Prop}{ex:PX->Prop} (d:Dn (asL x) ok ex):∃xs,x=.lst xs/\ok xs:=by
 cases x with
 |lst xs=>exact⟨xs,rfl,d⟩
 |_=>exact d.elim
theorem Zag {i:Nat} (hm:Γ[i]?=some .O) (hm2:Γ2[i]?=some .O) (he:DE K EX Γ Γ2 .F te f) :
  DS K EX Γ ⟨Γ2,Γ1,Γ3,k⟩ (Zcz (tBM K "list" ZaP (UA i) (J4 te Zcx))) (fun ρ=>(asL (gv i ρ)).thenS fun xs=>(f ρ).thenS fun y=>(pApp (.lst xs) y).thenS fun z=>.next (ρ.set i z)):=fun B H0 H σ ρ F D A d=>by
 obtain⟨v,h1,h2⟩:=A.getO hm
 refine⟨v,h1, ?_⟩
 obtain⟨xs,e1,d⟩:=Dn.asL d.thenS
 rw[show ρ.getD i .non=.lst xs from e1] at h2
 obtain⟨a,vs,G,rfl,hH,ht,hn,hF⟩:=h2
 refine⟨.inl ⟨rfl,_,SqL.of hH⟩,he B H0 H σ ρ F [] _ A (d.thenS.imp (fun y _ d w H2 s2 r2=>?_) fun e q=>q)⟩
 obtain⟨F2,f2,G2,y1,y2,A2⟩:=r2
 obtain⟨xs',e2,hlen,d⟩:=Dn.pApp d.thenS
 cases e2
 obtain⟨v',h1',h2'⟩:=A2.getO hm2
 rw[h1] at h1';cases h1'
 rw[show ρ.getD i .non=.lst xs from e1] at h2'
 obtain⟨a',vs',G',e,hH',ht',hn',hF'⟩:=h2'
 cases e
 refine⟨a,vs',w,rfl,rfl,hH',by rw[ht'.length];exact ZtC hlen (by decide), ?_⟩
 have haF:a∈F2 i:=by rw[hF'];simp
 have dj:∀b∈G',b ∉ G2:=fun b hb z=>A2.disjR i b (by rw[hF'];simp[hb]) (Zt8 _ z)
 have na:a ∉ G2:=fun z=>A2.disjR i a haF (Zt8 _ z)
 have hsub:∀b∈a::(G'++G2),b∈F2 i\/b∈G2:=fun b hb=>by
  rw[hF']
  rcases ZtE.mp hb with rfl|hb
  ·simp
  ·rcases ZtA.mp hb with z|z
   ·simp[z]
   ·exact .inr z
 have hna:a ∉ G'++G2:=fun z=>(ZtA.mp z).elim hn' na
 refine d σ _ (VY F2 i (a::(G'++G2))) (QY s2 f2 haF fun b hb=>?_) (Ag.chg (G:=G2) (R:=[]) A2 hm2 haF hsub (by simp) ?_)
 ·rcases hsub b hb with z|z
  ·exact .inr ⟨i,f2 i b z⟩
  ·exact(y2 b z).2
 ·exact⟨_,h1,a,_,G'++G2,rfl,Z0,(Trees.append ht' (Trees.one y1) dj).put hH' hna,hna,rfl⟩
def DG (K:W.Frag) (EX:PX->Hp->Prop) (Γ Γ':List Md) (g:TG) (h:PV->List PV->Rr (List PV)):Prop:=
 ∀(B:Addr->Prop) (H0 H:Hp) (σ:St) (ρ:List PV) (F:Nat->List Addr) (v:V) (x:PV) (N:St->Hp->Prop),Ag K B H0 H σ Γ ρ F []->Rep K H (NO B F []) x v ->
  Dn (h x ρ) (fun ρ'=>∀σ' F',(∀i,∀a∈F' i,a∈F i)->Ag K B H0 H σ' Γ' ρ' F' []->N σ' H) (fun e=>∀H',Z5 H0 H'->EX e H')->g v σ H N
def DGs (K:W.Frag) (EX:PX->Hp->Prop) (Γ Γ':List Md) (g:TGs) (h:List PV->List PV->Rr (List PV)):Prop:=
 ∀(B:Addr->Prop) (H0 H:Hp) (σ:St) (ρ:List PV) (F:Nat->List Addr) (vs:List V) (xs:List PV) (N:St->Hp->Prop),Ag K B H0 H σ Γ ρ F []->Reps K H (NO B F []) xs vs ->
  Dn (h xs ρ) (fun ρ'=>∀σ' F',(∀i,∀a∈F' i,a∈F i)->Ag K B H0 H σ' Γ' ρ' F' []->N σ' H) (fun e=>∀H',Z5 H0 H'->EX e H')->g vs σ H N
theorem Ziw {i:Nat} (hi:i<Γ.length):DG K EX Γ (Γ.set i .P) (Zat i) (fun x ρ=>(grd x).bind fun x=>.ok (ρ.set i x)):=fun B H0 H σ ρ F v x N A r d=>by
 unfold grd at d;dsimp only at d
 by_cases h:x.flat=true
 ·rw[if_pos h] at d
  exact d _ (VY F i []) ZaW (Ag.put (G:=[]) (R:=[]) A hi (by simp) ⟨rfl,v,rfl,h,r.any⟩)
 ·rw[if_neg h] at d;exact d.elim
noncomputable def Zmi (xs ρ:List PV):Rr (List PV):=match xs with
 |[]=>.ok ρ
 |_=>.bad
theorem Zju:DGs K EX Γ Γ ZlF Zmi:=fun B H0 H σ ρ F vs xs N A r d=>by
 cases xs with
 |nil=>exact⟨r,d σ F (fun _ _ h=>h) A⟩
 |cons x xs=>exact d.elim
noncomputable def hdR (h:PV->List PV->Rr (List PV)) (hs:List PV->List PV->Rr (List PV)) (xs:List PV) (ρ:List PV):Rr (List PV):=match xs with
 |x::r=>(h x ρ).bind fun ρ'=>hs r ρ'
 |[]=>.bad
theorem ZdT {g:TG}{gs:TGs}{h:PV->List PV->Rr (List PV)}{hs:List PV->List PV->Rr (List PV)} (h1:DG K EX Γ Γ1 g h) (h2:DGs K EX Γ1 Γ2 gs hs):DGs K EX Γ Γ2 (ZfW g gs) (hdR h hs):=fun B H0 H σ ρ F vs xs N A r d=>by
 cases xs with
 |nil=>exact d.elim
 |cons x xs =>
  obtain⟨v,r',rfl,r1,r2⟩:=r
  refine⟨v,r',rfl,h1 B H0 H σ ρ F v x _ A r1 ((show Dn ((h x ρ).bind fun ρ'=>hs xs ρ') _ _ from d).bind.imp (fun ρ' _ d σ' F' f' A'=>?_) fun e q=>q)⟩
  refine h2 B H0 H σ' ρ' F' r' xs _ A' (Reps.mono (fun a us s r=>⟨r,s.1,s.2.1,fun j z=>s.2.2 j (f' j a z)⟩) (fun a us r=>r) r2) (d.imp (fun ρ2 _ d σ2 F2 f2 A2=>d σ2 F2 (fun j a ha=>f' j a (f2 j a ha)) A2) fun e q=>q)
noncomputable def asT (n:Nat) (x:PV):Rr (List PV):=match x with
 |.tup xs=>if xs.length=n then .ok xs else .bad
 |_=>.bad
theorem Dn.asT {n:Nat}{x:PV}{ok:List PV->Prop}{ex:PX->Prop} (d:Dn (asT n x) ok ex):∃xs,x=.tup xs/\xs.length=n/\ok xs:=by
 cases x with
 |tup xs =>
  unfold L2.asT at d
  by_cases h:xs.length=n
  ·simp only[if_pos h] at d;exact⟨xs,rfl,h,d⟩
  ·simp only[if_neg h] at d;exact d.elim
 |_=>exact d.elim
theorem Zla {n:Nat}{gs:TGs}{hs:List PV->List PV->Rr (List PV)} (h2:DGs K EX Γ Γ2 gs hs):DG K EX Γ Γ2 (ZlE K n gs) (fun x ρ=>(asT n x).bind fun xs=>hs xs ρ):=fun B H0 H σ ρ F v x N A r d=>by
 obtain⟨xs,rfl,hl,d⟩:=Dn.asT d.bind
 obtain⟨a,vs,rfl,hn,hr⟩:=r
 exact⟨a,vs,rfl,hn.sqT,by rw[hr.length];exact hl,h2 B H0 H σ ρ F vs xs N A hr d⟩
def DGF (K:W.Frag) (EX:PX->Hp->Prop) (Γ Γ':List Md) (g:TG) (h:PV->List PV->Rr (List PV)):Prop:=
 ∀(B:Addr->Prop) (H0 H:Hp) (σ:St) (ρ:List PV) (F:Nat->List Addr) (G R:List Addr) (v:V) (x:PV) (N:St->Hp->Prop),Ag K B H0 H σ Γ ρ F (G++R)->(∀a∈G,a ∉ R)->Jc K H x v G ->
  Dn (h x ρ) (fun ρ'=>∀σ' F',(∀i,∀a∈F' i,a∈F i\/a∈G)->Ag K B H0 H σ' Γ' ρ' F' R->N σ' H) (fun e=>∀H',Z5 H0 H'->EX e H')->g v σ H N
def ZlJ (K:W.Frag) (EX:PX->Hp->Prop) (Γ Γ':List Md) (g:TGs) (h:List PV->List PV->Rr (List PV)):Prop:=
 ∀(B:Addr->Prop) (H0 H:Hp) (σ:St) (ρ:List PV) (F:Nat->List Addr) (G R:List Addr) (vs:List V) (xs:List PV) (N:St->Hp->Prop),Ag K B H0 H σ Γ ρ F (G++R)->(∀a∈G,a ∉ R)->Trees K H xs vs G ->
  Dn (h xs ρ) (fun ρ'=>∀σ' F',(∀i,∀a∈F' i,a∈F i\/a∈G)->Ag K B H0 H σ' Γ' ρ' F' R->N σ' H) (fun e=>∀H',Z5 H0 H'->EX e H')->g vs σ H N
theorem ZhD {i:Nat} (hi:i<Γ.length):DGF K EX Γ (Γ.set i .P) (Zat i) (fun x ρ=>(grd x).bind fun x=>.ok (ρ.set i x)):=fun B H0 H σ ρ F G R v x N A hG r d=>by
 unfold grd at d;dsimp only at d
 by_cases h:x.flat=true
 ·rw[if_pos h] at d
  exact d _ (VY F i []) (fun j a ha=>.inl (ZaW j a ha)) (Ag.put (G:=[]) (A.less fun a ha=>Zt9 _ ha) hi (by simp) ⟨rfl,v,rfl,h,r.rep fun _ _=>trivial⟩)
 ·rw[if_neg h] at d;exact d.elim
theorem ZdS:ZlJ K EX Γ Γ ZlF Zmi:=fun B H0 H σ ρ F G R vs xs N A hG r d=>by
 cases xs with
 |nil=>exact⟨r.1,d σ F (fun _ _ h=>.inl h) (A.less fun a ha=>Zt9 _ ha)⟩
 |cons x xs=>exact d.elim
theorem U3 {g:TG}{gs:TGs}{h:PV->List PV->Rr (List PV)}{hs:List PV->List PV->Rr (List PV)} (h1:DGF K EX Γ Γ1 g h) (h2:ZlJ K EX Γ1 Γ2 gs hs):ZlJ K EX Γ Γ2 (ZfW g gs) (hdR h hs):=fun B H0 H σ ρ F G R vs xs N A hG r d=>by
 cases xs with
 |nil=>exact d.elim
 |cons x xs =>
  obtain⟨v,r',G1,G2,rfl,r1,r2,dj,rfl⟩:=r
  refine⟨v,r',rfl,h1 B H0 H σ ρ F G1 (G2++R) v x _ (by rw[<- ZuF];exact A) (fun a ha z=>?_) r1 ((show Dn ((h x ρ).bind fun ρ'=>hs xs ρ') _ _ from d).bind.imp (fun ρ' _ d σ' F' f' A'=>?_) fun e q=>q)⟩
  ·rcases ZtA.mp z with z|z
   ·exact dj a ha z
   ·exact hG a (Zt8 _ ha) z
  ·refine h2 B H0 H σ' ρ' F' G2 R r' xs _ A' (fun a ha=>hG a (Zt9 _ ha)) r2 (d.imp (fun ρ2 _ d σ2 F2 f2 A2=>d σ2 F2 (fun j a ha=>?_) A2) fun e q=>q)
   rcases f2 j a ha with z|z
   ·rcases f' j a z with w|w
    ·exact .inl w
    ·exact .inr (Zt8 _ w)
   ·exact .inr (Zt9 _ z)
theorem Zgb {n:Nat}{gs:TGs}{hs:List PV->List PV->Rr (List PV)} (h2:ZlJ K EX Γ Γ2 gs hs):DGF K EX Γ Γ2 (ZlE K n gs) (fun x ρ=>(asT n x).bind fun xs=>hs xs ρ):=fun B H0 H σ ρ F G R v x N A hG r d=>by
 obtain⟨xs,rfl,hl,d⟩:=Dn.asT d.bind
 obtain⟨a,vs,rfl,hn,hr⟩:=r
 exact⟨a,vs,rfl,hn.sqT,by rw[hr.length];exact hl,h2 B H0 H σ ρ F G R vs xs N A hG hr d⟩
theorem Zga {gt:TG}{h:PV->List PV->Rr (List PV)} (he:DE K EX Γ Γ1 .F te f) (hg:DGF K EX Γ1 Γ2 gt h):DS K EX Γ ⟨Γ2,Γ3,Γ',k⟩ (ZgN te gt) (fun ρ=>(f ρ).thenS fun x=>(h x ρ).thenS fun ρ'=>.next ρ'):=fun B H0 H σ ρ F D A d=>by
 refine he B H0 H σ ρ F [] _ A (d.thenS.imp (fun x _ d v H1 s1 r1=>?_) fun e q=>q)
 obtain⟨F1,f1,G,h1,h2,A1⟩:=r1
 refine hg B H0 H1 σ ρ F1 G [] v x _ A1 (by simp) h1 (d.thenS.imp (fun ρ' _ d σ' F' f' A'=>d σ' H1 F' (fun a o ho n=>⟨s1 a o ho,fun j z=>?_⟩) A') fun e q=>q)
 rcases f' j a z with w|w
 ·exact n j (f1 j a w)
 ·rcases (h2 a w).2 with q|⟨l,q⟩
  ·rw[ho] at q;cases q
  ·exact n l q
end
noncomputable def RS.turn:RS->(List PV->RS)->RS
 |.next ρ,f=>f ρ
 |.cont ρ,f=>f ρ
 |.brk ρ,_=>.next ρ
 |r,_=>r
noncomputable def Ze0 (b:PV->List PV->RS):List PV->List PV->RS
 |[],ρ=>.next ρ
 |x::xs,ρ=>(b x ρ).turn (Ze0 b xs)
noncomputable def Ve (c:List PV->Rr Bool) (b:List PV->RS):Nat->List PV->Option RS
 |0,_=>none
 |n+1,ρ=>match c ρ with
  |.ok true=>match b ρ with
   |.next ρ'=>Ve c b n ρ'
   |.cont ρ'=>Ve c b n ρ'
   |.brk ρ'=>some (.next ρ')
   |r=>some r
  |.ok false=>some (.next ρ)
  |.exc e=>some (.exc e)
  |.bad=>some .bad
open Classical in
noncomputable def Uf (c:List PV->Rr Bool) (b:List PV->RS) (ρ:List PV):RS:=if h:∃n r,Ve c b n ρ=some r then h.choose_spec.choose else .bad
theorem VF {c:List PV->Rr Bool}{b:List PV->RS}:∀{n m:Nat}{ρ:List PV}{r:RS},n<=m->Ve c b n ρ=some r->Ve c b m ρ=some r
 |0,_,_,_,_,h=>by cases h
 |n+1,0,_,_,hl,_=>by omega
 |n+1,m+1,ρ,r,hl,h=>by
  unfold Ve at h ⊢
  cases hc:c ρ with
  |ok b' =>
   cases b' with
   |true =>
    rw[hc] at h
    cases hb:b ρ with
    |next ρ'=>rw[hb] at h;exact VF (by omega) h
    |cont ρ'=>rw[hb] at h;exact VF (by omega) h
    |brk ρ'=>rw[hb] at h;exact h
    |ret x=>rw[hb] at h;exact h
    |exc e=>rw[hb] at h;exact h
    |bad=>rw[hb] at h;exact h
   |false=>rw[hc] at h;exact h
  |exc e=>rw[hc] at h;exact h
  |bad=>rw[hc] at h;exact h
theorem ZfL {c:List PV->Rr Bool}{b:List PV->RS}{n m:Nat}{ρ:List PV}{r r':RS} (h:Ve c b n ρ=some r) (h':Ve c b m ρ=some r'):r=r':=by
 rcases Nat.le_total n m with q|q
 ·have:=VF q h;rw[h'] at this;exact(Option.some.inj this).symm
 ·have:=VF q h';rw[h] at this;exact Option.some.inj this
theorem Q2 {c:List PV->Rr Bool}{b:List PV->RS}{n:Nat}{ρ:List PV}{r:RS} (h:Ve c b n ρ=some r):Uf c b ρ=r:=by
 unfold Uf
 have hx:∃n r,Ve c b n ρ=some r:=⟨n,r,h⟩
 rw[dif_pos hx]
 exact ZfL hx.choose_spec.choose_spec h
theorem ZeE {c:List PV->Rr Bool}{b:List PV->RS} (I:List PV->Prop) (μ:List PV->Nat) {r:RS} (step:∀ρ,I ρ->(c ρ=.ok false/\r=.next ρ)\/(c ρ=.ok true/\((∃ρ',(b ρ=.next ρ'\/b ρ=.cont ρ')/\I ρ'/\μ ρ'<μ ρ)\/(∃ρ',b ρ=.brk ρ'/\r=.next ρ')\/(∃x,b ρ=.ret x/\r=.ret x))))
  :∀ρ,I ρ->Uf c b ρ=r:=by
 have key:∀n ρ,I ρ->μ ρ<n->Ve c b n ρ=some r:=by
  intro n
  induction n with
  |zero=>intro ρ _ h;omega
  |succ n ih =>
   intro ρ hI hμ
   unfold Ve
   rcases step ρ hI with ⟨h1,h2⟩|⟨h1,⟨ρ',h2,h3,h4⟩|⟨ρ',h2,h3⟩|⟨x,h2,h3⟩⟩
   ·rw[h1,h2]
   ·rw[h1]
    rcases h2 with h2|h2<;>(rw[h2];exact ih ρ' h3 (by omega))
   ·rw[h1,h2,h3]
   ·rw[h1,h2,h3]
 exact fun ρ hI=>Q2 (key (μ ρ+1) ρ hI (Zus _))
section
variable {K:W.Frag}{B:Addr->Prop}{EX:PX->Hp->Prop}{H0 H H':Hp}{σ:St}{Γ Γ1 Γ2 Γ3 Γl Γt:List Md}{ρ:List PV}{F F':Nat->List Addr}{k:Kd}{x:PV}{v:V}{te ti:TE}{f fc fe:List PV->Rr PV}
 {t u:TS}{g g':List PV->RS}{Y:Tys}{D:Ze9}
theorem Zae {wi:TI}{gt:TG}{fi:List PV->Rr (List PV)}{h:PV->List PV->Rr (List PV)} (hi:DI K EX Γ Γ1 wi fi) (hw:ZaZ Γ1 Γl=true) (hg:DG K EX Γl Γt gt h) (hb:DS K EX Γt ⟨Γl,Γl,Γl,k⟩ t g) :
  DS K EX Γ ⟨Γl,Γ2,Γ3,k⟩ (ZmN wi gt t) (fun ρ=>(fi ρ).thenS fun xs=>Ze0 (fun x ρ=>(h x ρ).thenS g) xs ρ):=fun B H0 H σ ρ F D A d=>by
 refine hi B H0 H σ ρ F [] _ A (d.thenS.imp (fun xs _ d J H1 F1 s1 f1 A1 it=>?_) fun e q=>q)
 obtain⟨Fl,fl,Al⟩:=A1.weak hw
 have fr0:Frm H F H1 Fl:=Frm.of s1 fun j a ha=>f1 j a (fl j a ha)
 have fr1:Frm H1 F1 H1 Fl:=Frm.of (Z5.refl _) fl
 refine⟨fun i m σ' H'=>∃ρ' F',m=xs.length-i/\i<=xs.length/\Frm H1 F1 H' F'/\Ag K B H0 H' σ' Γl ρ' F' []/\DnS K B EX ⟨Γl,Γ2,Γ3,k⟩ H0 H' F' D (Ze0 (fun x ρ=>(h x ρ).thenS g) (xs.drop i) ρ'),
  ⟨xs.length,ρ,Fl,by simp,Zuk _,fr1,Al,by simpa using DnS.shift fr0 d⟩, ?_⟩
 rintro i m σ' H' ⟨ρ',F',rfl,hi',fr,A',dn⟩
 have itp:=it H' F' fr i
 cases hx:xs[i]? with
 |none =>
  refine .inl ⟨itp.2 hx, ?_⟩
  have hd:xs.drop i=[]:=Zu1 (Zua.mp hx)
  rw[hd] at dn
  exact dn σ' H' F' Frm.refl A'
 |some x =>
  have hlt:i<xs.length:=(ZtN.mp hx).1
  obtain⟨go,yl⟩:=itp.1 x hx
  have hdx:xs.drop i=x::xs.drop (i+1):=by
   rw[Zuv hlt]
   rw[Zt6 hlt] at hx;cases hx;rfl
  rw[hdx] at dn
  simp only[Ze0] at dn
  refine .inr ⟨go,fun σ2 H2=>∃ρ2 F2,Frm H1 F1 H2 F2/\Ag K B H0 H2 σ2 Γl ρ2 F2 []/\DnS K B EX ⟨Γl,Γ2,Γ3,k⟩ H0 H2 F2 D (Ze0 (fun x ρ=>(h x ρ).thenS g) (xs.drop (i+1)) ρ2),
   fun σ2 H2 ⟨ρ2,F2,a1,a2,a3⟩=>⟨xs.length-(i+1),by omega,ρ2,F2,rfl,hlt,a1,a2,a3⟩,fun v H3 y=>?_⟩
  obtain⟨s3,rx⟩:=yl v H3 y
  have fr3:Frm H' F' H3 F':=Frm.of s3 fun _ _ h=>h
  refine hg B H0 H3 σ' ρ' F' v x _ (A'.grow s3) (Rep.mono (fun a us s r=>⟨r,s.1⟩) (fun a us r=>r) rx) ?_
  cases e:h x ρ' with
  |ok ρt =>
   rw[e] at dn
   refine fun σt Ft ft At=>hb B H0 H3 σt ρt Ft _ At ?_
   have frt:Frm H' F' H3 Ft:=Frm.of s3 ft
   simp only[Rr.thenS_ok] at dn
   cases e2:g ρt with
   |next ρ2=>rw[e2] at dn;exact fun σ2 H2 F2 fr2 A2=>⟨ρ2,F2,fr.trans (frt.trans fr2),A2,DnS.shift (frt.trans fr2) dn⟩
   |cont ρ2=>rw[e2] at dn;exact fun σ2 H2 F2 fr2 A2=>⟨ρ2,F2,fr.trans (frt.trans fr2),A2,DnS.shift (frt.trans fr2) dn⟩
   |brk ρ2=>rw[e2] at dn;exact fun σ2 H2 F2 fr2 A2=>dn σ2 H2 F2 (frt.trans fr2) A2
   |ret y=>rw[e2] at dn;exact dn
   |exc q=>rw[e2] at dn;exact dn
   |bad=>rw[e2] at dn;exact dn
  |exc q=>rw[e] at dn;exact dn
  |bad=>rw[e] at dn;exact dn
theorem ZdO {c:TT}{fc:List PV->Rr Bool} (hc:DT K EX Γ Γ c fc) (hb:DS K EX Γ ⟨Γ,Γ,Γ,k⟩ t g):DS K EX Γ ⟨Γ,Γ2,Γ3,k⟩ (ZhW c t) (fun ρ=>Uf fc g ρ):=fun B H0 H σ ρ F D A d=>by
 dsimp only at d
 have ex:∃n,Ve fc g n ρ=some (Uf fc g ρ):=by
  by_cases hx:∃n r,Ve fc g n ρ=some r
  ·obtain⟨n,r,e⟩:=hx
   exact⟨n,by rw[Q2 e];exact e⟩
  ·unfold Uf at d
   rw[dif_neg hx] at d
   exact d.elim
 obtain⟨n0,e0⟩:=ex
 generalize hr:Uf fc g ρ=r at e0 d
 refine⟨fun m σ' H'=>∃ρ' F',Frm H F H' F'/\Ag K B H0 H' σ' Γ ρ' F' []/\Ve fc g m ρ'=some r,⟨n0,ρ,F,Frm.refl,A,e0⟩, ?_⟩
 rintro m σ' H' ⟨ρ',F',fr,A',e⟩
 cases m with
 |zero=>cases e
 |succ m =>
  unfold Ve at e
  refine hc B H0 H' σ' ρ' F' [] _ A' ?_
  cases e1:fc ρ' with
  |ok b =>
   rw[e1] at e
   refine fun H2 F2 s2 f2 A2=>?_
   have fr2:Frm H' F' H2 F2:=Frm.of s2 f2
   cases b with
   |true =>
    refine⟨fun σ3 H3=>∃ρ3 F3,Frm H F H3 F3/\Ag K B H0 H3 σ3 Γ ρ3 F3 []/\Ve fc g m ρ3=some r,fun σ3 H3 h=>⟨m,Zus _,h⟩, ?_⟩
    refine hb B H0 H2 σ' ρ' F2 _ A2 ?_
    cases e2:g ρ' with
    |next ρ2=>rw[e2] at e;exact fun σ3 H3 F3 fr3 A3=>⟨ρ2,F3,fr.trans (fr2.trans fr3),A3,e⟩
    |cont ρ2=>rw[e2] at e;exact fun σ3 H3 F3 fr3 A3=>⟨ρ2,F3,fr.trans (fr2.trans fr3),A3,e⟩
    |brk ρ2 =>
     rw[e2] at e
     have e':RS.next ρ2=r:=Option.some.inj e
     rw[<- e'] at d
     exact fun σ3 H3 F3 fr3 A3=>d σ3 H3 F3 (fr.trans (fr2.trans fr3)) A3
    |ret y =>
     rw[e2] at e
     have e':RS.ret y=r:=Option.some.inj e
     rw[<- e'] at d
     exact d
    |exc q =>
     rw[e2] at e
     have e':RS.exc q=r:=Option.some.inj e
     rw[<- e'] at d
     exact d
    |bad =>
     rw[e2] at e
     have e':RS.bad=r:=Option.some.inj e
     rw[<- e'] at d
     exact d
   |false =>
    have e':RS.next ρ'=r:=Option.some.inj e
    rw[<- e'] at d
    exact d σ' H2 F2 (fr.trans fr2) A2
  |exc q =>
   rw[e1] at e
   have e':RS.exc q=r:=Option.some.inj e
   rw[<- e'] at d
   exact d
  |bad =>
   rw[e1] at e
   have e':RS.bad=r:=Option.some.inj e
   rw[<- e'] at d
   exact d
theorem Trees.get:∀{xs:List PV}{vs:List V}{G:List Addr}{j:Nat}{x:PV},Trees K H xs vs G->xs[j]?=some x->∃v G',vs[j]?=some v/\Jc K H x v G'/\∀a∈G',a∈G
 |[],_,_,_,_,_,e=>by simp at e
 |y::xs,_,_,0,x,h,e=>by
  obtain⟨v,r,G1,G2,rfl,h1,h2,h3,rfl⟩:=h
  simp at e;subst e
  exact⟨v,G1,rfl,h1,fun a ha=>by simp[ha]⟩
 |y::xs,_,_,j+1,x,h,e=>by
  obtain⟨v,r,G1,G2,rfl,h1,h2,h3,rfl⟩:=h
  obtain⟨w,G',e1,e2,e3⟩:=Trees.get (j:=j) h2 (by simpa using e)
  exact⟨w,G',by simpa using e1,e2,fun a ha=>by simp[e3 a ha]⟩
theorem ZgK {xs:List PV}{vs:List V}{G:List Addr}{i:Int}{z:PV} (h:Trees K H xs vs G) (e:atI xs i=some z):∃u G',atI vs i=some u/\Jc K H z u G'/\∀a∈G',a∈G:=by
 unfold atI at e ⊢
 rw[h.length]
 cases q:ixN xs.length i with
 |none=>rw[q] at e;cases e
 |some j=>rw[q] at e;exact h.get e
theorem ZdQ {i:Nat}{h:Int->Int->Int} (hm:Γ2[i]?=some .O) (hmΓ:Γ[i]?=some .O) (hi:DE K EX Γ Γ2 .A ti f) (he:DE K EX Γ2 Γ2 .A te fe) :
  DS K EX Γ ⟨Γ2,Γ1,Γ3,k⟩ (Zkd (UA i) ti te (Zkl K) (ipI h) ZiD) (fun ρ=>(f ρ).thenS fun j=>(pIx (gv i ρ) j).thenS fun z=>(asL (gv i ρ)).thenS fun _=>(fe ρ).thenS fun y=>(oI (fun _ _=>true) (fun a b=>.int (h a b)) z y).thenS fun w=>(pSet (gv i ρ) j w).thenS fun z=>.next (ρ.set i z)):=fun B H0 H σ ρ F D A d=>by
 obtain⟨v,h1,h2⟩:=A.getO hmΓ
 refine⟨v,h1,hi B H0 H σ ρ F [] _ A (d.thenS.imp (fun j _ d jv H1 s1 r1=>?_) fun e q=>q)⟩
 obtain⟨F1,f1,p1,A1⟩:=r1
 obtain⟨z,ez,d⟩:=Dn.pIx d.thenS
 obtain⟨xs,ex,d⟩:=Dn.asL d.thenS
 rw[ex] at ez
 obtain⟨v',h1',h2'⟩:=A1.getO hm
 rw[h1] at h1';cases h1'
 rw[show ρ.getD i .non=.lst xs from ex] at h2'
 obtain⟨a,vs,G,rfl,hH,ht,hn,hF⟩:=h2'
 obtain⟨j,rfl⟩:∃j',j=PV.int j':=by cases j<;>first|exact⟨_,rfl⟩|(simp only[pIx] at ez;cases ez;done)
 cases p1
 simp only[pIx] at ez
 cases e1:atI xs j with
 |none=>rw[e1] at ez;cases ez
 |some z' =>
  rw[e1] at ez;cases ez
  obtain⟨u,G2,e2,e3,e4⟩:=ZgK ht e1
  refine⟨a,vs,j,u,rfl,rfl,SqL.of hH,e2,he B H0 H1 σ ρ F1 [] _ A1 (d.thenS.imp (fun y _ d w H2 s2 r2=>?_) fun e q=>q)⟩
  obtain⟨F2,f2,p2,A2⟩:=r2
  obtain⟨zi,yi,rfl,rfl⟩:∃zi yi,z=PV.int zi/\y=PV.int yi:=by cases z<;>cases y<;>first|exact⟨_,_,rfl,rfl⟩|(exact d.elim;done)
  obtain⟨e5,_⟩:=e3
  subst e5
  cases p2
  refine⟨zi,yi,rfl,rfl, ?_⟩
  obtain⟨xs',jj,n,ex',e6,e7,d⟩:=Dn.pSet (show DnS _ _ _ _ _ _ _ _ ((pSet (gv i ρ) (.int j) (.int (h zi yi))).thenS _) from d).thenS
  cases e6
  rw[ex] at ex';cases ex'
  obtain⟨v',h1',h2'⟩:=A2.getO hm
  rw[h1] at h1';cases h1'
  rw[show ρ.getD i .non=.lst xs from ex] at h2'
  obtain⟨a',vs',G',e,hH',ht',hn',hF'⟩:=h2'
  cases e
  refine⟨a,vs',j,n,rfl,rfl,hH',by rw[ht'.length];exact e7, ?_⟩
  obtain⟨G'',g1,g2⟩:=Trees.setP (j:=n) (y:=.int (h zi yi)) (w:=.int (h zi yi)) ht' ⟨rfl,rfl⟩
  have haF:a∈F2 i:=by rw[hF'];simp
  have hsub:∀b∈a::G'',b∈F2 i:=fun b hb=>by
   rw[hF']
   rcases ZtE.mp hb with rfl|hb
   ·simp
   ·simp[g1 b hb]
  refine d σ _ (VY F2 i (a::G'')) (QY (s1.trans s2) (fun j b hb=>f1 j b (f2 j b hb)) haF fun b hb=>.inr ⟨i,f1 i b (f2 i b (hsub b hb))⟩) (Ag.chg (G:=[]) A2 hm haF (fun b hb=>.inl (hsub b hb)) (by simp) ?_)
  exact⟨_,h1,a,_,G'',rfl,Z0,g2.put hH' (fun z=>hn' (g1 a z)),fun z=>hn' (g1 a z),rfl⟩
end
noncomputable def RS.out:RS->Rr PV
 |.next _=>.ok .non
 |.ret x=>.ok x
 |.exc e=>.exc e
 |.brk _=>.bad
 |.cont _=>.bad
 |.bad=>.bad
@[simp] theorem RS.out_next {ρ:List PV}:(RS.next ρ).out=.ok .non:=rfl
@[simp] theorem RS.out_ret {x:PV}:(RS.ret x).out=.ok x:=rfl
@[simp] theorem RS.out_exc {e:PX}:(RS.exc e).out=.exc e:=rfl
def Ref (r r':Rr PV):Prop:=r=.bad\/r=r'
structure Pm where
 α:Type
 enc:α->List PV
 pre:α->Prop
 out:α->Rr PV
open Classical in
noncomputable def Pm.fn (m:Pm) (xs:List PV):Rr PV:=if h:∃a,m.enc a=xs/\m.pre a then m.out h.choose else .bad
theorem Pm.fn_eq (m:Pm) (a:m.α) (h:m.pre a) (inj:∀b,m.enc b=m.enc a->m.out b=m.out a):m.fn (m.enc a)=m.out a:=by
 unfold Pm.fn
 have hx:∃b,m.enc b=m.enc a/\m.pre b:=⟨a,rfl,h⟩
 rw[dif_pos hx]
 exact inj _ hx.choose_spec.1
theorem Pm.ref (m:Pm) {g:List PV->Rr PV} (h:∀a,m.pre a->g (m.enc a)=m.out a) (xs:List PV):Ref (m.fn xs) (g xs):=by
 unfold Pm.fn
 by_cases hx:∃a,m.enc a=xs/\m.pre a
 ·rw[dif_pos hx]
  have h2:=hx.choose_spec
  right
  have:=h _ h2.2
  rw[h2.1] at this
  exact this.symm
 ·rw[dif_neg hx];exact .inl rfl
section
variable {K:W.Frag}{B:Addr->Prop}{H:Hp}
theorem Ag.init {xs:List PV}{vs:List V}{n:Nat} (h:Reps K H B xs vs):Ag K (fun a=>B a\/H a=none) H H (vs.map some++List.replicate n none) (List.replicate xs.length .S++List.replicate n .U) (xs++List.replicate n .non) (fun _=>[]) []:=by
 refine⟨Z5.refl _,fun a h=>.inr h,by simp,by simp,by simp,by simp,by simp,by simp,by simp[h.length],by simp,fun i=>?_⟩
 by_cases hi:i<xs.length
 ·have e1:(List.replicate xs.length Md.S++List.replicate n Md.U).getD i .U=.S:=by
   rw[Zt5,ZtG (by simpa using hi),Zue hi];rfl
  have e2:(xs++List.replicate n PV.non).getD i .non=xs[i]:=by
   rw[Zt5,ZtG hi,Zt6 hi];rfl
  rw[e1,e2]
  obtain⟨v,h1,h2⟩:=h.get (Zt6 hi)
  refine⟨rfl,v, ?_,Rep.mono (fun a us s r=>⟨r,.inl s,by simp,by simp⟩) (fun a us r=>r) h2⟩
  rw[ZtG (by rw[Zt7,h.length];exact hi),ZtL,h1];rfl
 ·have e1:(List.replicate xs.length Md.S++List.replicate n Md.U).getD i .U=.U:=by
   rw[Zt5,ZtQ (by simpa using hi)]
   by_cases q:i-(List.replicate xs.length Md.S).length<n
   ·rw[Zue q];rfl
   ·rw[ZtF (by simpa using q)];rfl
  rw[e1]
  exact rfl
end
section
variable {P:Program}{w:World}{K:W.Frag}{mg:Str->Option Value}{base:Heap}
theorem Fun.okP {x qual:Str}{st:Stmt}{f:Addr}{fd:FuncData}{N ps:List Str}{k n l:Nat}{kd:Kd}{m:List PV->Rr PV} (F:Fun K x qual st f fd) (S:Zs N ps (Zd st)) (hn:ps.length=n) (hl:N.length-n=l)
  (hbody:∀(cdv:Value) (A:Around) (outer:List Env) (s:Shared) (H:Hp) (E:XK),Vu k (A.deeper (envOfC qual (Zd st) s.heap.objs.size f cdv)) ->
   ∃t g Y,Y.r=kd/\PSs (Zby CX0 P w K mg base N qual (Zd st) f cdv A outer s H E).nox (Zn st) t/\DS K X0 (List.replicate n .S++List.replicate l .U) Y t g/\∀xs,Ref (m xs) (g (xs++List.replicate l .non)).out) (hkN:kd≠.N:=by nofun) (hkM:kd≠.M:=by nofun) :
  Jd P w K mg base CX0 (k+1) f fd ps (spF K n kd W0 m):=by
 refine F.ok S (fun vs H Q E h=>?_) (fun cdv A outer s H vs Q E hr h=>?_)
 ·obtain⟨B,xs,h1,h2,_⟩:=h
  rw[h1.length,h2,hn]
 ·obtain⟨B,xs,h1,h2,dn⟩:=h
  obtain⟨t,g,Y,hY,ht,hd,href⟩:=hbody cdv A outer s H E hr
  refine⟨t,ht, ?_⟩
  have A0:=Ag.init (n:=l) h1
  have est:VN N vs=vs.map some++List.replicate l none:=by
   unfold VN
   rw[h1.length,h2,hl]
  rw[est]
  rw[h2] at A0
  refine hd _ H H _ _ _ _ A0 ?_
  have hdn:Dn (g (xs++List.replicate l .non)).out (fun x=>∀v H',Z5 H H'->ZhR K B H kd x v H'->Q v H') (fun e=>∀H',Z5 H H'->W0 e E H'):=by
   rcases href xs with e|e
   ·rw[e] at dn;exact dn.elim
   ·rw[<- e];exact dn
  have retK:∀{x v H'},ZhR K (fun a=>B a\/H a=none) H kd x v H'->ZhR K B H kd x v H':=fun {x v H'} h=>by
   cases kd with
   |P=>exact h
   |F=>exact h
   |T=>exact Rep.mono (fun a us s r=>⟨r,s.elim id .inr⟩) (fun a us r=>r) h
   |Z=>exact Rep.mono (fun a us s r=>⟨r,s.elim id .inr⟩) (fun a us r=>r) h
   |A=>exact Rep.mono (fun a us s r=>⟨r,s.elim id .inr⟩) (fun a us r=>r) h
   |N=>exact h
   |M=>exact h
  cases e:g (xs++List.replicate l .non) with
  |next ρ =>
   rw[e] at hdn
   refine fun σ' H' F' fr A'=>hdn .non H' A'.same ?_
   cases kd with
   |P=>exact⟨rfl,rfl⟩
   |F=>exact⟨[],⟨rfl,rfl⟩,by simp⟩
   |T=>exact rfl
   |Z=>exact rfl
   |A=>exact rfl
   |N=>exact absurd rfl hkN
   |M=>exact absurd rfl hkM
  |ret x=>rw[e] at hdn;exact fun v H' s r=>hdn v H' s (retK (hY▸r))
  |exc q=>rw[e] at hdn;exact fun H' s=>hdn H' s
  |brk ρ=>rw[e] at hdn;exact hdn.elim
  |cont ρ=>rw[e] at hdn;exact hdn.elim
  |bad=>rw[e] at hdn;exact hdn.elim
end
section
variable {K:W.Frag}{n:Nat}{m:List PV->Rr PV}{e:Expr}{ta:TA}{Γ Γ':List Md}{fa:List PV->Rr (List PV)}
theorem ZjM (hn:Len fa n) (ha:DAA K X0 Γ Γ' ta fa):DE K X0 Γ Γ' .F (Vp (spF K n .F W0 m) ta) (fun ρ=>(fa ρ).bind m):=Zbl (E:=E0) (W:=W0) (fun σ H Q h=>h) (fun e H' h=>h) hn ha
theorem ZhK (hn:Len fa n) (ha:DAA K X0 Γ Γ' ta fa):DE K X0 Γ Γ' .P (Vp (spF K n .P W0 m) ta) (fun ρ=>(fa ρ).bind m):=Zbk (E:=E0) (W:=W0) (fun σ H Q h=>h) (fun e H' h=>h) hn ha
end
theorem Zew {K:W.Frag}{H:Hp}{a:Addr}{ns:List Int}{m:List PV->Rr PV} (hm:m [.lst (ns.map PV.int)]=.ok (.bl true)) (hS:SqL K H a (ns.map V.int)):spF K 1 .P W0 m [.ref a] H (fun v _=>v=.bl true) fun _ _ _=>False:=by
 refine⟨fun _=>True,[.lst (ns.map PV.int)],Reps.one ⟨a,_,rfl,hS.elim (fun h=>.inl ⟨h,trivial⟩) .inr,ZbZ ns⟩,rfl, ?_⟩
 rw[hm]
 exact fun v H' _ r=>r.2
section
variable {X:Cx}{K:W.Frag}{EX:PX->Hp->Prop}{Γ Γ' Γ1 Γ2:List Md}{k:Kd}{te:TE}{f:List PV->Rr PV}
theorem Ze6 (hc:X.calm=true) (e:X.K=K:=by rfl):Vg X (.builtin "min") (Zkk K):=by subst e;exact Zgu hc
theorem ZaC {i:Nat}{wi:TI} (he:DE K EX Γ Γ' .F (ZgM wi te) f) (hi:i<Γ'.length):DS K EX Γ ⟨Γ'.set i .O,Γ1,Γ2,k⟩ (Zdh i wi te) (fun ρ=>(f ρ).thenS fun x=>.next (ρ.set i x)):=Ji he hi
end
def RS.good (r:RS) (I:List PV->Prop):Prop:=match r with
 |.next ρ=>I ρ
 |.cont ρ=>I ρ
 |_=>False
theorem RS.good_ex {r:RS}{I:List PV->Prop} (h:r.good I):∃ρ',(r=.next ρ'\/r=.cont ρ')/\I ρ':=by
 cases r with
 |next ρ=>exact⟨ρ,.inl rfl,h⟩
 |cont ρ=>exact⟨ρ,.inr rfl,h⟩
 |ret x=>exact h.elim
 |brk ρ=>exact h.elim
 |exc e=>exact h.elim
 |bad=>exact h.elim
theorem Qw {b:PV->List PV->RS}{xs:List PV}{ρ:List PV} (I:Nat->List PV->Prop) (h0:I 0 ρ) (h:∀i x ρ,xs[i]?=some x->I i ρ->(b x ρ).good (I (i+1))) :
  ∃ρ',Ze0 b xs ρ=.next ρ'/\I xs.length ρ':=by
 have key:∀n i ρ,xs.length=i+n->I i ρ->∃ρ',Ze0 b (xs.drop i) ρ=.next ρ'/\I xs.length ρ':=by
  intro n
  induction n with
  |zero =>
   intro i ρ hl hI
   rw[Zu1 (by omega)]
   exact⟨ρ,rfl,by rw[hl];exact hI⟩
  |succ n ih =>
   intro i ρ hl hI
   have hi:i<xs.length:=by omega
   rw[Zuv hi]
   obtain⟨ρ',h1,h2⟩:=RS.good_ex (h i _ ρ (Zt6 hi) hI)
   obtain⟨ρ2,h3,h4⟩:=ih (i+1) ρ' (by omega) h2
   refine⟨ρ2, ?_,h4⟩
   simp only[Ze0]
   rcases h1 with h1|h1<;>(rw[h1];exact h3)
 exact key xs.length 0 ρ (by omega) h0
theorem Qo {lo:Int}{n i:Nat}{x:PV} (h:(Zel lo n)[i]?=some x):i<n/\x=.int (lo+i):=by
 unfold Zel at h
 rw[ZtL] at h
 by_cases hi:i<n
 ·rw[ZuB hi] at h;cases h;exact⟨hi,rfl⟩
 ·rw[ZtF (by simpa using hi)] at h;cases h
@[simp] theorem Vj {lo:Int}{n:Nat}:(Zel lo n).length=n:=by simp[Zel]
theorem Zhy {ns:List Int}{i:Nat}{x:PV} (h:(ns.map PV.int)[i]?=some x):∃z,x=.int z/\ns[i]?=some z/\i<ns.length:=by
 rw[ZtL] at h
 cases e:ns[i]? with
 |none=>rw[e] at h;cases h
 |some z=>rw[e] at h;cases h;exact⟨z,rfl,rfl,(ZtN.mp e).1⟩
theorem ZcB {α β:Type}{f:α->Rr β}{g:α->β}:∀{xs:List α},(∀x∈xs,f x=.ok (g x))->Zbc f xs=.ok (xs.map g)
 |[],_=>rfl
 |x::xs,h=>by
  simp only[Zbc,h x (by simp),Rr.bind_ok,ZcB (xs:=xs) fun y hy=>h y (by simp[hy]),ZtI]
@[simp] theorem ZcH {x:PV}{ρ:List PV}:gv 0 (x::ρ)=x:=rfl
@[simp] theorem ZcI {x:PV}{ρ:List PV}{i:Nat}:gv (i+1) (x::ρ)=gv i ρ:=rfl
theorem ZP {ns:List Int}{k:Int} (h0:0<=k) (h1:k<ns.length):pIx (.lst (ns.map PV.int)) (.int k)=.ok (.int (ns.getD k.toNat 0)):=by
 have:atI (ns.map PV.int) k=some (.int (ns.getD k.toNat 0)):=by
  unfold atI
  rw[Zt7,ZbX h0 h1]
  show (ns.map PV.int)[k.toNat]?=_
  rw[ZtL,Zt6 (by omega),Zt5,Zt6 (by omega)]
  rfl
 simp only[pIx,this]
theorem Vc {ns:List Int}{k y:Int} (h0:0<=k) (h1:k<ns.length):pSet (.lst (ns.map PV.int)) (.int k) (.int y)=.ok (.lst ((ns.set k.toNat y).map PV.int)):=by
 simp only[pSet,Zt7,ZbX h0 h1,List.map_set]
theorem ZbP {ns:List Int}{y:Int} (h:ns.length<1000000):pApp (.lst (ns.map PV.int)) (.int y)=.ok (.lst ((ns++[y]).map PV.int)):=by
 simp only[pApp,Zt7,if_pos h,ZtU,ZtI,Zu0]
theorem QL {ns:List Int} (h:ns.length<=1000000):newF (ns.map PV.int)=.ok (.lst (ns.map PV.int)):=by
 unfold newF
 rw[PV.flats_ints,Zt7,decide_eq_true h];rfl
theorem Zcl (ns:List Int):PV.dats (ns.map PV.int)=ns.map PyData.int:=by
 induction ns with
 |nil=>rfl
 |cons n ns ih=>simp[PV.dats,PV.dat,ih]
theorem ZcT (ns:List Int):PyData.canLayAll0 (ns.map PyData.int)=true:=by
 induction ns with
 |nil=>rfl
 |cons n ns ih=>simp[PyData.canLayAll0,PyData.canLay0,ih]
theorem Zf0 (i:Int):okD (.int i)=true:=by simp[okD,PV.noX,PV.dat,PyData.canLay0,PyData.depth]
theorem Zd4 (ns:List Int):okD (.lst (ns.map PV.int))=true:=by
 have hd:PyData.depthAll (ns.map PyData.int)=0:=by
  induction ns with
  |nil=>rfl
  |cons n ns ih=>simp[PyData.depthAll,PyData.depth,ih]
 simp[okD,PV.noX,PV.noXs_ints,PV.dat,Zcl,PyData.canLay0,ZcT,PyData.depth,hd]
theorem Zaa:∀(ns ms:List Int),PyData.eqvAll (ns.map PyData.int) (ms.map PyData.int)=decide (ns=ms)
 |[],[]=>by simp[PyData.eqvAll]
 |[],m::ms=>by simp[PyData.eqvAll]
 |n::ns,[]=>by simp[PyData.eqvAll]
 |n::ns,m::ms=>by
  simp only[ZtI,PyData.eqvAll,PyData.eqv,Zaa ns ms,List.cons.injEq,Bool.decide_and]
  rw[Bool.beq_eq_decide_eq]
theorem Zd2 {g:Bool->Bool} (ns ms:List Int):Zbw g (.lst (ns.map PV.int)) (.lst (ms.map PV.int))=.ok (.bl (g (decide (ns=ms)))):=by
 unfold Zbw
 rw[Zd4,Zd4]
 simp only[Bool.and_self,if_true,PV.dat,Zcl,PyData.eqv,Zaa]
theorem Zfs {g:Bool->Bool} (i j:Int):Zbw g (.int i) (.int j)=.ok (.bl (g (decide (i=j)))):=by
 unfold Zbw
 rw[Zf0,Zf0]
 simp only[Bool.and_self,if_true,PV.dat,PyData.eqv]
 rw[Bool.beq_eq_decide_eq]
theorem ZbM (ns:List Int):ZiP [.lst (ns.map PV.int)]=.ok (.int ns.length):=by simp[ZiP]
theorem ZbL (ns:List Int):ZlZ [.lst (ns.map PV.int)]=.ok (.int ns.sum):=by simp[ZlZ,ZbO]
theorem Zfq {ns:List Int} (h:ns≠[]):Zmc [.lst (ns.map PV.int)]=.ok (.int (UR ns)):=by simp[Zmc,ZbO,h]
theorem Zeo {ns:List Int} (h:ns.length<=1000000):Zhc [.lst (ns.map PV.int)]=.ok (.lst (ns.map PV.int)):=by
 simp only[Zhc];exact QL h
theorem Zfn {ns:List Int}{k:Int} (h0:ns.length*k.toNat<=1000000) (h1:-(2^63)<=k) (h2:k<2^63):Zkw (ns.map PV.int) (.int k)=.ok (.lst ((List.replicate k.toNat ns).flatten.map PV.int)):=by
 simp only[Zkw,Zt7]
 rw[if_pos ⟨h0,h1,h2⟩]
 have e:(List.replicate k.toNat (ns.map PV.int)).flatten=(List.replicate k.toNat ns).flatten.map PV.int:=by
  rw[List.map_flatten,List.map_replicate]
 rw[e]
 refine QL ?_
 rw[ZfB,Nat.mul_comm];exact h0
theorem Zgr {i j:Int} (a b:Nat) (h1:i.natAbs<=10^a) (h2:j.natAbs<=10^b) (ha:a<=4000:=by decide) (hb:b<=4000:=by decide):Zdb i j:=by
 have t:∀c:Nat,c<=4000->(10:Nat)^c<2^60000:=fun c hc=>Zut (Nat.pow_le_pow_right (by decide) hc) (by decide +kernel)
 exact⟨Zut h1 (t a ha),Zut h2 (t b hb)⟩
theorem Zgs {i j:Int} (b:Nat) (h1:0<j) (h2:j.natAbs<=10^b) (hb:b<=2000:=by decide):Zdc i j:=by
 have t:∀c:Nat,c<=2000->(10:Nat)^c<2^9000:=fun c hc=>Zut (Nat.pow_le_pow_right (by decide) hc) (by decide +kernel)
 exact⟨h1,Zut h2 (t b hb)⟩
theorem Zfu {i j:Int} (h:Zdc i j):Zme (.int i) (.int j)=.ok (.int (i/j)):=Zd6 (decide_eq_true h)
theorem Zfp {i j:Int} (h:Zdb i j):ZmZ (.int i) (.int j)=.ok (.int (i*j)):=Zd6 (decide_eq_true h)
theorem VW {i j:Int} (h:0<j):Zna (.int i) (.int j)=.ok (.int (i%j)):=Zd6 (decide_eq_true h)
theorem ZiO {i j:Int} (h:ZjP i j):Zmb (.int i) (.int j)=.ok (.int (i^j.toNat)):=Zd6 (decide_eq_true h)
@[simp] theorem Zfw {i j:Int}:Zmf (.int i) (.int j)=.ok (.int (i+j)):=rfl
@[simp] theorem Zfm {i j:Int}:Zma (.int i) (.int j)=.ok (.int (i-j)):=rfl
@[simp] theorem Zie {i j:Int}:pLt (.int i) (.int j)=.ok (.bl (decide (i<j))):=rfl
@[simp] theorem Zif {i j:Int}:pLe (.int i) (.int j)=.ok (.bl (decide (i<=j))):=rfl
@[simp] theorem Zil {i j:Int}:pGt (.int i) (.int j)=.ok (.bl (decide (j<i))):=rfl
@[simp] theorem Zim {i j:Int}:pGe (.int i) (.int j)=.ok (.bl (decide (j<=i))):=rfl
@[simp] theorem ZfV {i:Int}:grd (.int i)=.ok (.int i):=rfl
@[simp] theorem ZfS {i:Str}:grd (.str i)=.ok (.str i):=rfl
@[simp] theorem ZfT:grd .non=.ok .non:=rfl
@[simp] theorem Ziy {b:Bool}:asB (.bl b)=.ok b:=rfl
@[simp] theorem Zg4 {xs:List PV}:asL (.lst xs)=.ok xs:=rfl
@[simp] theorem Zg5 {i:Int}:asI (.int i)=.ok i:=rfl
@[simp] theorem Zik {n:String}{x:Int}:Zky n (.int x)=.ok (.bl (Zas (VQ (.int x)) n)):=rfl
@[simp] theorem Zij {n:String}{x:List PV}:Zky n (.lst x)=.ok (.bl (Zas (VQ (.lst x)) n)):=rfl
@[simp] theorem Zii {n:String}:Zky n .non=.ok (.bl (Zas "NoneType" n)):=rfl
@[simp] theorem Zfo {i:Int}:ZlB (.int i)=.ok (.int (-i)):=rfl
@[simp] theorem Zih {x:PV}{xs:List PV}:pIx (.tup (x::xs)) (.int 0)=.ok x:=by simp[pIx,atI,ixN]
@[simp] theorem Zig {x y:PV}{xs:List PV}:pIx (.tup (x::y::xs)) (.int 1)=.ok y:=by
 have:atI (x::y::xs) 1=some y:=by unfold atI;rw[ZbX (by omega) (by simp only[ZtK];omega)];rfl
 simp only[pIx,this]
theorem Zd1 {j:Int} (h:-(2^62)<=j/\j<2^62):Zhb [.int j]=.ok (Zel 0 j.toNat):=by simp only[Zhb,okR,decide_eq_true h,if_true]
theorem Zd0 {i j:Int} (h:-(2^62)<=i/\i<2^62) (h':-(2^62)<=j/\j<2^62):Zha [.int i,.int j]=.ok (Zel i (j-i).toNat):=by simp only[Zha,okR,decide_eq_true h,decide_eq_true h',Bool.and_self,if_true]
theorem ZcC {xs:List PV} (h:xs.length<=1000000):lenM xs=.ok ():=by simp only[lenM,if_pos h]
@[simp] theorem ZdG:Zas (VQ (.int i)) "int"=true:=rfl
@[simp] theorem ZdH:Zas (VQ (.int i)) "bool"=false:=rfl
@[simp] theorem ZdF:Zas (VQ (.lst xs)) "list"=true:=rfl
theorem Vk {I:List PV->Prop}{ρ:List PV} (h:I ρ):(RS.next ρ).good I:=h
theorem ZdJ {h:PV->List PV->Rr (List PV)}{hs:List PV->List PV->Rr (List PV)}{x:PV}{xs ρ:List PV}:hdR h hs (x::xs) ρ=(h x ρ).bind fun ρ'=>hs xs ρ':=rfl
theorem Zd8 {ρ:List PV}:Zmi [] ρ=.ok ρ:=rfl
theorem Jb {ns ms:List Int} (e:ns.map PV.int=ms.map PV.int):ns=ms:=by
 have:=congrArg UT e
 simpa using this
theorem Za1 {i j:Int} (h0:0<j) (h1:j<1000000000000):Zme (.int i) (.int j)=.ok (.int (i/j)):=Zfu (Zgs 12 h0 (by omega))
theorem Zk1:Zmb (.int 10) (.int 60)=.ok (.int (10^60)):=by rw[ZiO (by decide)];rfl
theorem Zio {xs:List PV} (h:xs.length<=1000):mkT xs=.ok (.tup xs):=if_pos h
theorem Zip {xs:List PV} (h:xs.length<=1000):mkL xs=.ok (.lst xs):=if_pos h
noncomputable def KD {α:Type}:Sem α->Prop
 |.pure _=>True
 |.raise _=>True
 |.unsupported _=>True
 |.finish _=>True
 |.rule _ k=>KD (k ())
 |.at _ k=>KD (k ())
 |.load _ _ k=>∀o,KD (k o)
 |.update _ _ f k=>(∀o:Obj,(f o).dict=o.dict/\(o.isFreed=false->(f o).isFreed=false))/\KD (k ())
 |.alloc _ k=>∀a,KD (k a)
 |.loadIfAlive _ k=>∀o,KD (k o)
 |.point _ k=>KD (k ())
 |.register _ _=>True
 |.fresh k=>∀t,KD (k t)
 |.ask k=>∀x,KD (k x)
 |.choose _ _ k=>∀n,KD (k n)
 |.os _ _ k=>∀r,KD (k r)
 |.call _ _ _ _ _=>False
 |.handled _ k=>∀x,KD (k x)
 |.newGen _ k=>∀g,KD (k g)
 |.genState _ k=>∀x,KD (k x)
 |.resume _ _ _ _=>False
 |.yield _ _ _ _=>True
 |.stack k=>∀x,KD (k x)
 |.fork _ _=>True
 |.thread k=>∀x,KD (k x)
 |.await _ _ _ _ _=>True
def DK (h h':Heap):Prop:=∀b o,h.get? b=some o->∃o',h'.get? b=some o'/\o'.dict=o.dict
theorem DK.refl (h:Heap):DK h h:=fun b o e=>⟨o,e,rfl⟩
theorem DK.trans {h1 h2 h3:Heap} (a:DK h1 h2) (b:DK h2 h3):DK h1 h3:=fun x o e=>by
 obtain⟨o1,e1,d1⟩:=a x o e
 obtain⟨o2,e2,d2⟩:=b x o1 e1
 exact⟨o2,e2,d2.trans d1⟩
theorem Zmm {M:Model}{Γ:PySem.Ctx}{α:Type}{Q:α->Pos->Shared->Prop}{E:Value->Pos->Shared->Prop}{h0:Heap}:∀(t:Sem α) (p:Pos) (s:Shared),KD t->DK h0 s.heap->Sem.wp M Γ t Q E p s ->
  Sem.wp M Γ t (fun a p' s'=>Q a p' s'/\DK h0 s'.heap) (fun e p' s'=>E e p' s'/\DK h0 s'.heap) p s:=by
 intro t
 induction t with
 |pure a=>intro p s _ d h;exact⟨h,d⟩
 |raise e=>intro p s _ d h;exact⟨h,d⟩
 |unsupported w=>intro p s _ _ h;exact h
 |finish e=>intro p s _ _ h;exact h
 |rule t k ih=>intro p s k d h;exact ih () p s k d h
 |«at» q k ih=>intro p s k d h;exact ih () q s k d h
 |load a q k ih=>intro p s k d h;obtain⟨o,e,h⟩:=h;exact⟨o,e,ih o p s (k o) d h⟩
 |update a q f k ih =>
  intro p s k d h
  refine⟨h.1,ih () p _ k.2 (d.trans fun b o e=>?_) h.2⟩
  by_cases hb:a=b
  ·subst hb
   exact⟨_,Heap.get?_update_self f e ((k.1 o).2 (Heap.get?_some_iff.mp e).2),(k.1 o).1⟩
  ·exact⟨o,(Heap.get?_update_other _ f hb).trans e,rfl⟩
 |alloc o k ih=>intro p s k d h;exact ih _ p _ (k _) (d.trans fun b o' e=>⟨o',Heap.get?_push_of_some _ e,rfl⟩) h
 |loadIfAlive a k ih=>intro p s k d h;exact ih _ p s (k _) d h
 |point l k ih=>intro p s k d h;exact ih () p s k d h
 |register a k ih=>intro p s _ _ h;exact h
 |fresh k ih=>intro p s k d h;exact ih _ p _ (k _) d h
 |ask k ih=>intro p s k d h;exact ih _ p _ (k _) d h
 |choose a n k ih=>intro p s k d h;exact⟨h.1,ih _ p _ (k _) d h.2⟩
 |os q l k ih=>intro p s k d h;exact ih _ p _ (k _) d h
 |call c h g l k ih=>intro p s k d h;exact k.elim
 |handled o k ih=>intro p s k d h;exact ih _ p _ (k _) d h
 |newGen c k ih=>intro p s k d h;exact ih _ p _ (k _) d h
 |genState g k ih=>intro p s k d h;obtain⟨st,e,h⟩:=h;exact⟨st,e,ih _ p s (k _) d h⟩
 |resume g r l k ih=>intro p s k d h;exact k.elim
 |yield v g l k ih=>intro p s _ _ h;exact h
 |stack k ih=>intro p s k d h;exact ih _ p _ (k _) d h
 |fork c k ih=>intro p s _ _ h;exact h
 |thread k ih=>intro p s k d h;exact ih _ p _ (k _) d h
 |await a t d l k ih=>intro p s _ _ h;exact h
theorem ZbW {M:Model}{A:Around}{α:Type}{t:Sem α}{Q:α->Shared->Prop}{E:Value->Shared->Prop}{s:Shared} (k:KD t) (h:wpAny M A t Q E s):wpAny M A t (fun a s'=>Q a s'/\DK s.heap s'.heap) (fun e s'=>E e s'/\DK s.heap s'.heap) s:=
 fun Γ p hΓ=>Zmm t p s k (DK.refl _) (h Γ p hΓ)
theorem ZJ {α β:Type}:∀(m:Sem α) {f:α->Sem β},KD m->(∀a,KD (f a))->KD (m >>= f):=by
 intro m f
 show KD m->_->KD (m.bind f)
 induction m with
 |pure a=>intro _ h;exact h a
 |raise e=>intro _ _;trivial
 |unsupported w=>intro _ _;trivial
 |finish e=>intro _ _;trivial
 |rule t k ih=>intro k h;exact ih () k h
 |«at» q k ih=>intro k h;exact ih () k h
 |load a q k ih=>intro k h o;exact ih o (k o) h
 |update a q g k ih=>intro k h;exact⟨k.1,ih () k.2 h⟩
 |alloc o k ih=>intro k h a;exact ih a (k a) h
 |loadIfAlive a k ih=>intro k h o;exact ih o (k o) h
 |point l k ih=>intro k h;exact ih () k h
 |register a k ih=>intro _ _;trivial
 |fresh k ih=>intro k h a;exact ih a (k a) h
 |ask k ih=>intro k h a;exact ih a (k a) h
 |choose a n k ih=>intro k h a;exact ih a (k a) h
 |os q l k ih=>intro k h a;exact ih a (k a) h
 |call c h g l k ih=>intro k h;exact k.elim
 |handled o k ih=>intro k h a;exact ih a (k a) h
 |newGen c k ih=>intro k h a;exact ih a (k a) h
 |genState g k ih=>intro k h a;exact ih a (k a) h
 |resume g r l k ih=>intro k h;exact k.elim
 |yield v g l k ih=>intro _ _;trivial
 |stack k ih=>intro k h a;exact ih a (k a) h
 |fork c k ih=>intro _ _;trivial
 |thread k ih=>intro k h a;exact ih a (k a) h
 |await a t d l k ih=>intro _ _;trivial
theorem ZX {α:Type}{a:α}:KD (pure a:Sem α):=trivial
theorem Zar {α:Type}{w:String}:KD (unsupported w:Sem α):=trivial
theorem ZcD {a:Addr}:KD (load a):=fun _=>trivial
theorem ZkI (g:Array Value->Array Value) (o:Obj):(Obj.mapFields g o).dict=o.dict/\(o.isFreed=false->(Obj.mapFields g o).isFreed=false):=by
 obtain⟨c,d,dt,sl⟩:=o
 cases dt<;>exact⟨rfl,fun h=>h⟩
theorem ZcF (v:Value):KD (fieldsOf v):=by
 unfold fieldsOf
 cases v<;>try exact Zar
 refine ZJ _ ZcD fun o=>?_
 cases o.data<;>first|exact ZX|exact Zar
theorem Qt (v:Value) (i:Nat):KD (field v i):=by
 unfold field
 refine ZJ _ (ZcF v) fun vs=>?_
 cases vs[i]?<;>first|exact ZX|exact Zar
theorem Uc (v:Value) (i:Nat) (x:Value):KD (setField v i x):=by
 unfold setField
 cases v<;>try exact Zar
 unfold updateField
 refine ZJ _ ZcD fun o=>?_
 cases o.data<;>try exact Zar
 dsimp only
 split
 ·exact⟨fun o=>ZkI _ o,trivial⟩
 ·exact Zar
theorem V2 (e:Value) (f:Option Addr):KD (setFlight e f):=by
 unfold setFlight
 refine ZJ _ (Qt e 1) fun tb=>?_
 split
 ·exact Uc _ _ _
 ·exact ZX
theorem ZbV (ty:String) (vs:List Value):KD (newFields ty vs):=by
 unfold newFields newObj newObjAsIs
 dsimp only
 have al:∀(o:Obj),KD (alloc o):=fun _ _=>trivial
 split
 ·exact ZJ _ Zar fun _=>ZJ _ (al _) fun _=>ZX
 ·exact ZJ _ (al _) fun _=>ZX
theorem ZfI (env:Env) (outer:List Env):KD (behindIsImport env outer):=by
 unfold behindIsImport
 split
 ·exact ZX
 ·split
  ·exact ZX
  ·exact ZJ _ (Qt _ _) fun _=>ZX
theorem ZcE (env:Env) (i:Bool) (outer:List Env):KD (keptBack env i outer):=by
 cases outer with
 |nil =>
  have u:KD underTheClaimsCaller:=by
   unfold underTheClaimsCaller
   exact ZJ _ (show KD stack from fun _=>trivial) fun _=>ZX
  rw[keptBack]
  split
  ·exact ZX
  ·exact ZJ _ u fun _=>ZX
 |cons c r=>unfold keptBack;exact ZX
theorem Zhu {o:Obj}{sl:Array (Option Value)}:({ o with slots:=sl }:Obj).dict=o.dict/\(o.isFreed=false->({ o with slots:=sl }:Obj).isFreed=false):=by
 obtain⟨c,d,dt,s⟩:=o
 cases dt<;>exact⟨rfl,fun h=>h⟩
theorem ZdE:∀(l:List Env),KD (readyFrames l)
 |[]=>trivial
 |env::outer=>by
  unfold readyFrames
  cases env.frame with
  |none=>exact Zar
  |some f =>
   dsimp only
   refine ZJ _ ZcD fun o=>?_
   split
   ·exact ZX
   ·refine ZJ _ (ZfI _ _) fun _=>ZJ _ (ZcE _ _ _) fun _=>ZJ _ ⟨fun o=>Zhu,trivial⟩ fun _=>ZdE outer
theorem Zez (env:Env):KD (PySem.frameOf env):=by
 unfold PySem.frameOf
 refine ZJ _ ?_ fun l=>ZJ _ ?_ fun r=>?_
 ·unfold frameEnvs
  exact ZJ _ (fun _=>trivial) fun _=>ZX
 ·cases (List.dropWhile (fun x=>x.frame != env.frame) l) with
  |nil=>exact ZX
  |cons a r=>exact ZJ _ (ZdE _) fun _=>ZX
 ·cases r<;>first|exact ZX|exact Zar
theorem Zhv (f:Addr) (b:Bool):KD (entryPlaceOf f b):=by
 unfold entryPlaceOf
 refine ZJ _ (show KD stack from fun _=>trivial) fun acts=>?_
 split<;>exact ZX
theorem ZfH (e:Value) (env:Env):KD (noteFrame e env):=by
 unfold noteFrame
 cases env.frame with
 |none=>exact Zar
 |some f =>
  dsimp only
  refine ZJ _ (Qt _ _) fun head=>?_
  have tail:∀(hd:Bool),KD (do setField e 1 (<- EntryCells.newEntry head (<- PySem.frameOf env) .none (rawInt f) .none (<- entryPlaceOf f hd))):=fun hd =>
   ZJ _ (Zez env) fun _=>ZJ _ (Zhv _ _) fun _=>ZJ _ (ZbV _ _) fun _=>Uc _ _ _
  split
  ·refine ZJ _ (Qt _ _) fun x=>?_
   split
   ·exact ZX
   ·exact ZJ _ (Uc _ _ _) fun _=>tail _
  ·exact tail _
theorem Za7 (env:Env) (e:Value):KD (leaving env e):=ZJ _ (ZfH e env) fun _=>V2 e none
theorem Jz.there {P:Program}{w:World}{H:Hp}{h:Heap}{a:Addr}{o:HO} (x:Jz P w H h a o):∃u,h.get? a=some u:=by
 cases o with
 |lst xs=>obtain⟨_,_,_,_,e⟩:=x;exact⟨_,e⟩
 |tup xs=>obtain⟨_,_,_,_,e,_⟩:=x;exact⟨_,e⟩
 |dK kvs=>obtain⟨_,_,_,_,o,_,_,e,_⟩:=x;exact⟨_,e⟩
 |dT kvs=>obtain⟨_,_,_,_,o,_,_,e,_⟩:=x;exact⟨_,e⟩
 |set S n=>obtain⟨o,_,_,_,e,_⟩:=x;exact⟨_,e⟩
 |ins C dx fs=>obtain⟨_,_,_,e,_⟩:=x;exact⟨_,e⟩
 |own y=>obtain⟨_,e⟩:=x;exact⟨_,e⟩
 |xd fs=>obtain⟨_,⟨_,_,_,e,_⟩,_⟩:=x;exact⟨_,e⟩
 |rng lo hi=>obtain⟨_,_,_,e⟩:=x;exact⟨_,e⟩
 |frz ob u=>exact⟨_,x.1⟩
 |tbl ps=>exact⟨_,x⟩
 |met f y=>exact⟨_,x⟩
 |ext φ=>exact x.2.1
def ZjC (H:Hp) (ea k:Addr) (o:Obj):Prop:=(o.dict=none/\k=ea)\/(o.dict=some k/\∃fs,H k=some (.xd fs))
structure Fly (P:Program) (w:World) (outer:List Env) (H:Hp) (s:Shared) (ea k:Addr) (cls:Value) (H':Hp) (s':Shared):Prop where
 os:s'.os=s.os
 bare:AllBare s'.gens
 un:Un (frs outer) [] H H' s.heap s'.heap
 hok:HOk P w H' s'.heap
 new:H' ea=none
 dict:∃o,s'.heap.get? ea=some o/\ZjC H' ea k o
 fly:∃(Bh:Heap) (t:Addr),Heap.FlyingW Bh outer ea cls (.ref t) s'.heap/\(∀b u,H' b=some u->∀o,s'.heap.get? b=some o->Bh.get? b=some o)/\∀b o,s.heap.get? b=some o->b ∉ frs outer->∃o',Bh.get? b=some o'
noncomputable def CX1 (P:Program) (w:World):CXT:=fun outer H s E e s'=>∃ea k cls H',e=.ref ea/\Fly P w outer H s ea k cls H' s'/\E cls (some k) H'
section
variable {P:Program}{w:World}{K:W.Frag}{mg:Str->Option Value}{base:Heap}{N:List Str}{qual:Str}{scope:Scope}{f:Addr}{cd:Value}{A:Around}{outer:List Env}{s:Shared}{H:Hp}{E:XK}
 {pins:List (Addr×Obj)}{σ:St}{H1 H':Hp}{s1 s':Shared}{g h'' Bh:Heap}{ea k t:Addr}{cls:Value}
theorem ZfX (I:Inv (Zby (CX1 P w) P w K mg base N qual scope f cd A outer s H E) pins σ H1 s1) (os:s'.os=s1.os) (bare:AllBare s'.gens) (un:Un (s.heap.objs.size::frs outer) [] H1 H' s1.heap g) (hok:HOk P w H' g) (up:g.UpToSlots h'')
  (fl:Heap.FlyingW Bh outer ea cls (.ref t) h'') (st:Bh.StaysIn g) (c1:∀b u,H' b=some u->∀o,g.get? b=some o->Bh.get? b=some o) (c2:∀b o,s.heap.get? b=some o->b ∉ s.heap.objs.size::frs outer->∃o',Bh.get? b=some o')
  (new:H' ea=none) (dn:∃o,g.get? ea=some o/\ZjC H' ea k o) (dk:DK g h''):Fly P w outer H s ea k cls H' { s' with heap:=h'' }:=by
 have neL:∀b o,s.heap.get? b=some o->b≠s.heap.objs.size:=fun b o e=>ZtP (Heap.lt_size e)
 have nin:∀b o,s.heap.get? b=some o->b ∉ frs outer->b ∉ s.heap.objs.size::frs outer:=fun b o e n z=>(ZtE.mp z).elim (neL b o e) n
 have b0:Un (frs outer) [] H H1 s.heap s1.heap:=I.base
 have fr0:∀b∈frs outer,H b=none:=I.ok.frf
 have slot:∀b o,s.heap.get? b=some o->H b=none->b∈frs outer->∃sl,h''.get? b=some { o with slots:=sl }:=fun b o q n hb=>by
  obtain⟨s2,e1⟩:=b0.slot b o q n hb (by simp)
  obtain⟨s3,e2⟩:=un.slot b _ e1 (b0.free b o q n (by simp)) (ZtM _ hb) (by simp)
  obtain⟨_,o',ho',hnf⟩:=Heap.FunFrames.mem (show s.heap.FunFrames base outer from I.ok.funs) hb
  rw[q] at ho';cases ho'
  obtain⟨s4,e3⟩:=up b _ e2 hnf
  exact⟨s4,e3⟩
 have keepB:∀b o,s.heap.get? b=some o->H b=none->b ∉ frs outer->Bh.get? b=some o:=fun b o q n hb=>by
  have e1:=b0.keep b o q n hb (by simp)
  have e2:=un.keep b o e1 (b0.free b o q n (by simp)) (nin b o q hb) (by simp)
  obtain⟨o',e3⟩:=c2 b o q (nin b o q hb)
  have e4:=st b o' e3
  rw[e2] at e4;cases e4
  exact e3
 have thereB:∀b o,s.heap.get? b=some o->b ∉ frs outer->∃o',Bh.get? b=some o':=fun b o q hb=>by
  exact c2 b o q (nin b o q hb)
 refine⟨os.trans I.os,bare,⟨fun b o q n hb _=>fl.1 b o (keepB b o q n hb),fun b o q n hb _=>slot b o q n hb,fun b o q n _=>?_,fun b o q _=>?_,fun b xs q=>un.tups b xs (b0.tups b xs q),fun b o xs q=>un.frzs b o xs (b0.frzs b o xs q),fun b ps q=>?_⟩,fun b u e=>?_,new,(let ⟨o,e,d⟩:=dn;let ⟨o',e',d'⟩:=dk ea o e;⟨o',e',by unfold ZjC at d ⊢;rw[d'];exact d⟩),Bh,t,fl,fun b u e o q=>?_,thereB⟩
 ·obtain⟨o1,e1⟩:=b0.there b o q (by simp)
  exact un.free b o1 e1 (b0.free b o q n (by simp)) (by simp)
 ·by_cases hb:b∈frs outer
  ·obtain⟨sl,e⟩:=slot b o q (fr0 b hb) hb
   exact⟨_,e⟩
  ·obtain⟨o',e⟩:=thereB b o q hb
   exact⟨o',fl.1 b o' e⟩
 ·obtain⟨m1,e1⟩:=b0.tbls b ps q
  obtain⟨m2,e2⟩:=un.tbls b _ e1
  exact⟨m1++m2,by rw[e2,Array.append_assoc]⟩
 ·refine(hok b u e).stay (fun c v hc q=>?_) (fun _ q=>q) fun _ _ q=>q
  rcases hc with rfl|hc
  ·exact fl.1 c v (c1 c u e v q)
  ·exact fl.1 c v (c1 c _ hc v q)
 ·obtain⟨o1,e1⟩:=(hok b u e).there
  have e2:=c1 b u e o1 e1
  have e3:=fl.1 b o1 e2
  rw[e3] at q;cases q
  exact e2
def Ze8 (X:Cx) (E:St->XK):Prop:=∀(pins:List (Addr×Obj)) (σ:St) (H:Hp) (s:Shared) (e:Value) (s':Shared),Inv X pins σ H s->CX1 X.prog X.w X.stack H s (E σ) e s'->X.xe e s'
def Zl4 (X:Cx) (E:St->XK):Prop:=∀(pins:List (Addr×Obj)) (σ:St) (H:Hp) (s:Shared) (h':Heap) (ea:Addr) (cls:Value) (args:List Value),Inv X pins σ H s->Heap.MadeExcOf s.heap h' ea cls args->E σ cls (some ea) H->X.xe (.ref ea) { s with heap:=h' }
theorem JT:Ze8 (Zby (CX1 P w) P w K mg base N qual scope f cd A outer s H E) (fun _=>E):=fun pins σ H1 s1 e s' I hq=>by
 obtain⟨ea,k,cls,H',rfl,F,hE⟩:=hq
 obtain⟨Bh,t,fl,c1,c2⟩:=F.fly
 refine wpAny_mono (ZbW (Za7 _ _) (wpAny_leaves_onW (Q:=fun _ s''=>∃h'',s''={ s' with heap:=h'' }/\Heap.FlyingW Bh outer ea cls (.ref t) h''/\s'.heap.UpToSlots h'') I.ok.frames rfl fl fun h'' fl'' up=>⟨h'',rfl,fl'',up⟩)) (fun _ s'' q=>?_) fun _ _ q=>q.1
 obtain⟨⟨h'',rfl,fl'',up⟩,dk⟩:=q
 exact⟨ea,k,cls,H',rfl,ZfX I F.os F.bare F.un F.hok up fl'' fl.1 c1 (fun b o e n=>let ⟨o1,e1⟩:=(show Un (frs outer) [] H H1 s.heap s1.heap from I.base).there b o e (by simp);c2 b o1 e1 n) F.new F.dict dk,hE⟩
theorem QN:Zl4 (Zby (CX1 P w) P w K mg base N qual scope f cd A outer s H E) (fun _=>E):=fun pins σ H1 s1 h' ea cls args I hx hE=>by
 have hin:∀env∈(Zby (CX1 P w) P w K mg base N qual scope f cd A outer s H E).stack,∀b,env.frame=some b->b∈frs (Zby (CX1 P w) P w K mg base N qual scope f cd A outer s H E).stack:=fun env he b hb=>ZuD.mpr ⟨env,he,hb⟩
 have trk:∀b u,H1 b=some u->b ∉ frs (Zby (CX1 P w) P w K mg base N qual scope f cd A outer s H E).stack:=fun b u e z=>by rw[I.stkFree b z] at e;cases e
 have new:H1 ea=none:=by
  cases q:H1 ea with
  |none=>rfl
  |some u=>obtain⟨o,e⟩:=(I.hok ea u q).there;rw[hx.new] at e;cases e
 refine wpAny_mono (ZbW (Za7 _ _) (wpAny_leaves_madeW (Q:=fun _ s''=>∃h'' t,s''={ s1 with heap:=h'' }/\Heap.FlyingW (PySem.W.hideAll s1.heap (frs (Zby (CX1 P w) P w K mg base N qual scope f cd A outer s H E).stack)) outer ea cls (.ref t) h''/\h'.UpToSlots h'')
  (base:=PySem.W.hideAll s1.heap (frs (Zby (CX1 P w) P w K mg base N qual scope f cd A outer s H E).stack)) (h:=s1.heap) I.ok.frames rfl (fun b o q=>PySem.W.of_hideAll _ q) (PySem.W.funFrames_hide I.stack hin) hx fun h'' t fl _ _ up=>⟨h'',t,rfl,fl,up⟩)) (fun _ s'' q=>?_) fun _ _ q=>q.1
 obtain⟨⟨h'',t,rfl,fl,up⟩,dk⟩:=q
 have dn:∃o,h'.get? ea=some o/\ZjC H1 ea ea o:=by obtain⟨t,e,_⟩:=hx.there;exact⟨_,e,.inl ⟨rfl,rfl⟩⟩
 refine⟨ea,ea,cls,H1,rfl,ZfX (g:=h') (t:=t) (s':={ s1 with heap:=h' }) I rfl I.bare (Un.kept hx.keeps) (I.hok.kept hx.keeps) up fl (fun b o q=>hx.keeps b o (PySem.W.of_hideAll _ q)) (fun b u e o q=>?_) (fun b o q n=>let ⟨o1,e1⟩:=(show Un (frs outer) [] H H1 s.heap s1.heap from I.base).there b o q (by simp);⟨o1,PySem.W.hideAll_get _ e1 n⟩) new dn dk,hE⟩
 obtain⟨o1,e1⟩:=(I.hok b u e).there
 have e2:=hx.keeps b o1 e1
 rw[q] at e2;cases e2
 exact PySem.W.hideAll_get _ e1 (trk b u e)
end
noncomputable def Zmv:List Value:=[.type "ValueError",.type "Exception",.type "BaseException",.type "object"]
noncomputable def ZhX (C:Addr) (E:St->XK) (ta:TA):TS:=fun D σ H=>ta σ H fun vs H1=>vs.length<=1000/\∀ea,H1 ea=none->E σ (.ref C) (some ea) H1
theorem Zjk {K:W.Frag}{h₀:Heap}{C:Addr}{bmB:List Value}{newId:String} (X:K.In h₀) (q:PySem.W.excIn K C bmB newId=true) :
  ∃tl N nm qn bs hdct sn sub ab col dd k0 k1 k2 k3 k5 mN,h₀.get? C=some (excClassObj nm qn C N bs tl hdct sn sub ab col dd k0 k1 k2 k3 k5 newId)/\h₀.Ns N mN/\mN "__init__"=none/\OwnTail h₀ bmB tl:=by
 unfold PySem.W.excIn at q
 split at q
 ·rename_i dd cd sl ho
  split at q
  ·rename_i C' bm k0 k1 k2 k3 n k5 hm hs
   simp only[Bool.and_eq_true,beq_iff_eq,Bool.not_eq_true'] at q
   obtain⟨⟨⟨⟨⟨rfl,rfl⟩,hdel⟩,ht⟩,hok⟩,hni⟩:=q
   obtain⟨nm,bs,mro,ns,qn,hd,sn,sub,ab,col,del⟩:=cd
   dsimp only at hm hdel hok hni
   subst hm hdel
   have hsl:sl=#[k0,k1,k2,k3,some (.builtin n),k5]:=by
    obtain⟨l⟩:=sl
    simp only at hs
    rw[hs]
   subst hsl
   exact⟨bm,ns,nm,qn,bs,hd,sn,sub,ab,col,dd,k0,k1,k2,k3,k5,_,X _ _ ho,.of_isNs (PySem.W.isNs_of_in X hok),PySem.W.nsMap_none_of_in X hok hni,PySem.W.tail_of_in X ht⟩
  ·cases q
 ·cases q
section
variable {X:Cx}{E:St->XK}{x:Str}{C:Addr}{np cpos pos:Pos}{e:Expr}{es:List Expr}{ta:TA}
theorem Uo (hM:Zl4 X E) (hq:PySem.W.excIn X.K C Zmv "ValueError.__new__"=true) (hg:Gl X x) (hm:X.mg x=some (.ref C)) (hc:X.calm=true) (ha:PA X (e::es) ta) (hdb:(x==("__debug__":Str))=false:=by decide)
  (he:starEach (e::es) X.env=(false,eval e X.env)::starEach es X.env:=by rfl) (hpl:(backTo cpos (starEach es X.env)).any (·.1)=false:=by rfl) :
  PS X (.Raise (some (.Call (.Name x np) (e::es) [] cpos)) none pos) (ZhX C E ta):=by
 intro pins s σ H D I h
 obtain⟨tl,N,nm,q,bs,hdct,sn,sub,ab,col,dd,k0,k1,k2,k3,k5,mN,hC,hN,hni,T⟩:=Zjk I.ok.mod.kin hq
 refine wpAny_Raise_call_subT (C:=C) (nm:=nm) (q:=q) (N:=N) (bs:=bs) (bm:=tl) (hdct:=hdct) (sn:=sn) (sub:=sub) (ab:=ab) (col:=col) (dd:=dd) (k0:=k0) (k1:=k1) (k2:=k2) (k3:=k3) (k5:=k5)
  PySem.F.excBase_ValueError (mN:=mN) (T.hasType PySem.F.excBase_ValueError.hasBase) (I.ok.hd hc) (by rw[he];show (false || (backTo cpos (starEach es X.env)).any (·.1))=false;rw[hpl];rfl) hni (Ua I hg hm ⟨rfl, ?_⟩ hdb)
 have h2:=ha cpos pins s σ H _ I h
 rw[he] at h2 ⊢
 refine Calls.evalArgs_plain (wpAny_mono h2 (fun us s₂ z=>?_) fun _ _ y=>y)
 obtain⟨vs,H1,I1,r,hl,hE⟩:=z
 have hnew:∀{h':Heap}{ea:Addr}{args:List Value},Heap.MadeExcOf s₂.heap h' ea (.ref C) args->H1 ea=none:=fun {h' ea args} hx=>by
  cases q:H1 ea with
  |none=>rfl
  |some u=>obtain⟨o,e⟩:=(I1.hok ea u q).there;rw[hx.new] at e;cases e
 exact⟨rfl,ZtS (by rw[<- r.length];exact hl) (by decide),I1.bk _ _ hC,hN.keeps I1.bk,T.keeps I1.bk,fun h' ea hx=>hM pins σ H1 s₂ h' ea _ _ I1 hx (hE ea (hnew hx))⟩
end
theorem ZkT {P:Program}{w:World}{outer:List Env}{H H':Hp}{s s':Shared}{ea k t:Addr}{cls:Value}{Bh h'':Heap} (F:Fly P w outer H s ea k cls H' s') (fl:Heap.FlyingW Bh outer ea cls (.ref t) s'.heap)
  (c1:∀b u,H' b=some u->∀o,s'.heap.get? b=some o->Bh.get? b=some o) (c2:∀b o,s.heap.get? b=some o->b ∉ frs outer->∃o',Bh.get? b=some o') (st:Bh.StaysIn h'') (up:s'.heap.UpToSlots h'') :
  Un (frs outer) [] H H' s.heap h''/\HOk P w H' h'':=by
 refine⟨⟨fun b o q n hb _=>?_,fun b o q n hb _=>?_,fun b o q n hx=>F.un.free b o q n hx,fun b o q _=>?_,F.un.tups,F.un.frzs,F.un.tbls⟩,fun b u e=>?_⟩
 ·have e2:=F.un.keep b o q n hb (by simp)
  obtain⟨o',e3⟩:=c2 b o q hb
  have e4:=fl.1 b o' e3
  rw[e2] at e4;cases e4
  exact st b o e3
 ·obtain⟨s2,e2⟩:=F.un.slot b o q n hb (by simp)
  obtain⟨_,o',ho',hnf⟩:=Heap.FunFrames.mem fl.2.2.1 hb
  rw[e2] at ho';cases ho'
  obtain⟨s3,e3⟩:=up b _ e2 hnf
  exact⟨s3,e3⟩
 ·by_cases hb:b∈frs outer
  ·obtain⟨_,o',ho',hnf⟩:=Heap.FunFrames.mem fl.2.2.1 hb
   obtain⟨sl,e⟩:=up b _ ho' hnf
   exact⟨_,e⟩
  ·obtain⟨o',e⟩:=c2 b o q hb
   exact⟨o',st b o' e⟩
 ·refine(F.hok b u e).stay (fun c v hc q=>?_) (fun _ q=>q) fun _ _ q=>q
  rcases hc with rfl|hc
  ·exact st c v (c1 c u e v q)
  ·exact st c v (c1 c _ hc v q)
section
variable {X:Cx}{pins:List (Addr×Obj)}{σ:St}{H:Hp}{s:Shared}
theorem Inv.track {ea:Addr}{oe:Obj} (I:Inv X pins σ H s) (e:s.heap.get? ea=some oe) (hn:H ea=none) (hL:ea≠X.env.locals) (hC:∀x c,X.env.cells.lookup x=some c->c≠ea) (hp:∀p∈X.pn++pins,p.1≠ea) (h0:X.s₀.heap.get? ea=none) :
  Inv X pins σ (upd H ea (.frz oe (.own ea))) s:=by
 refine⟨I.ok,I.os,I.bare,⟨I.base.keep,I.base.slot,fun b o q n hx=>?_,I.base.there,fun b xs q=>?_,fun b o u q=>?_,fun b ps q=>?_⟩,I.loc,I.cell, ?_,fun x c q=>?_,fun p hq=>?_,fun b u q=>?_,I.len⟩
 ·rw[Zq (fun z=>by rw[z,h0] at q;cases q)];exact I.base.free b o q n hx
 ·have:=I.base.tups b xs q
  rw[Zq (Zz this hn)];exact this
 ·have:=I.base.frzs b o u q
  rw[Zq (Zz this hn)];exact this
 ·obtain⟨m,this⟩:=I.base.tbls b ps q
  exact⟨m,by rw[Zq (Zz this hn)];exact this⟩
 ·rw[Zq (Ne.symm hL)];exact I.free
 ·rw[Zq (hC x c q)];exact I.freeC x c q
 ·obtain⟨a,b,c,d,e⟩:=I.pin p hq
  exact⟨a,by rw[Zq (hp p hq)];exact b,c,d,e⟩
 ·by_cases hb:b=ea
  ·subst hb
   rw[Z0] at q;cases q
   exact⟨e,oe,e⟩
  ·rw[Zq hb] at q
   exact(I.hok b u q).stay (fun c v _ z=>z) (fun c z=>by rw[Zq (Zz z hn)];exact z) fun c xs z=>by rw[Zq (Zz z hn)];exact z
theorem Inv.gone {i:Nat}{n:Str}{m:Str->Option Value}{v:Option Value}{h':Heap}{t':Nat} (I:Inv X pins σ H s) (hN:X.N.Nodup) (hi:X.N[i]?=some n) (hm:∀(j:Nat) (x:Str) (v:V),X.N[j]?=some x->σ[j]?=some (some v)->Vis X.env.scope x->∃u,Jp v u/\Znl X.env s.heap m x u)
  (hn:h'.Ns X.env.locals (fun x=>if x=n then v else m x)) (hs:Heap.SameBut X.env.locals s.heap h') (hoL:∃o,s.heap.get? X.env.locals=some o):Inv X pins (σ.set i none) H { s with heap:=h',toks:=t' }:=by
 have tracked:HOk X.prog X.w H h':=fun b ob e=>by
  refine(I.hok b ob e).stay (fun c w' hc q=>(hs.2 c ?_).trans q) (fun _ q=>q) fun _ _ q=>q
  intro z
  rw[z] at hc
  rcases hc with hc|hc
  ·rw[<- hc,I.free] at e;cases e
  ·rw[I.free] at hc;cases hc
 have neL:∀b o,X.s₀.heap.get? b=some o->b≠X.env.locals:=fun b o e=>ZtP (ZtC (Heap.lt_size e) I.ok.above)
 refine⟨I.ok,I.os,I.bare,⟨fun b o e n hb hx=>?_,fun b o e n hb hx=>?_,I.base.free,fun b o e hx=>?_,I.base.tups,I.base.frzs,I.base.tbls⟩,⟨_,hn,fun j y v' e1 e2 e3=>?_⟩,fun y c e=>?_,I.free,I.freeC,fun p hp=>?_,tracked,by simpa using I.len⟩
 ·exact(hs.2 b (neL b o e)).trans (I.base.keep b o e n hb hx)
 ·obtain⟨sl,e1⟩:=I.base.slot b o e n hb hx
  exact⟨sl,(hs.2 b (neL b o e)).trans e1⟩
 ·obtain⟨o',e1⟩:=I.base.there b o e hx
  exact⟨o',(hs.2 b (neL b o e)).trans e1⟩
 ·by_cases hj:j=i
  ·subst hj
   rw[List.getElem?_set] at e2
   simp only[if_true] at e2
   split at e2<;>cases e2
  ·rw[ZtJ (Ne.symm hj)] at e2
   obtain⟨u',r',q⟩:=hm j y v' e1 e2 e3
   refine⟨u',r', ?_⟩
   rcases q with ⟨k,e⟩|⟨k,c,e,z⟩
   ·refine .inl ⟨k, ?_⟩
    have:y≠n:=fun e=>hj (ZaY hN e1 (e▸hi))
    simp[this,e]
   ·exact .inr ⟨k,c,e,z.sameBut hs (I.cne y c e)⟩
 ·obtain⟨w',z⟩:=I.cell y c e
  exact⟨w',z.sameBut hs (I.cne y c e)⟩
 ·obtain⟨e,n,ne,nf,d⟩:=I.pin p hp
  exact⟨(hs.2 p.1 ne).trans e,n,ne,nf,d⟩
end
noncomputable def unE (D:Ze9) (i:Nat):Ze9:=⟨fun σ H=>D.nx (σ.set i none) H,D.rt,fun σ H=>D.bk (σ.set i none) H,fun σ H=>D.ct (σ.set i none) H⟩
noncomputable def ZlG (K:W.Frag) (C:Addr) (i:Nat) (th:TS) (D:Ze9):St->XK:=fun σ1 cls ea H1=>PySem.W.exmOne K cls (.ref C)=some true/\∃k,ea=some k/\∀(a:Addr) (oe:Obj),H1 a=none->oe.cls=cls->ZjC H1 a k oe->PySem.W.notCls oe=true->th (unE D i) (σ1.set i (some (.ref a))) (upd H1 a (.frz oe (.own a)))
noncomputable def ZlP (K:W.Frag) (C:Addr) (i:Nat) (tb:(St->XK)->TS) (th:TS):TS:=fun D σ H=>tb (ZlG K C i th D) D σ H
noncomputable abbrev Cx.inTry (X:Cx) (xe:Value->Shared->Prop) (pn:List (Addr×Obj)):Cx:={ X with xe:=xe,pn:=pn }
noncomputable abbrev Cx.inExc (X:Cx) (A:Around):Cx:={ X with A:=A,calm:=false,xe:=fun _ _=>False }
section
variable {X:Cx}{pins:List (Addr×Obj)}{σ:St}{H:Hp}{s:Shared}
theorem Inv.tryIn {xe:Value->Shared->Prop} (I:Inv X pins σ H s):Inv (X.inTry xe (X.pn++pins)) [] σ H s:=
 ⟨⟨I.ok.mod,I.ok.kind,I.ok.glob,I.ok.blt,I.ok.above,I.ok.inj,I.ok.has,I.ok.cab,I.ok.hd,I.ok.frames,I.ok.stk,I.ok.exf,I.ok.bs,I.ok.bsz,I.ok.noex,I.ok.exfs,I.ok.funs,I.ok.frf⟩,I.os,I.bare,I.base,I.loc,I.cell,I.free,I.freeC,fun p hp=>I.pin p (by simpa using hp),I.hok,I.len⟩
theorem Inv.tryOut {xe:Value->Shared->Prop}{pins':List (Addr×Obj)} (I:Inv (X.inTry xe (X.pn++pins)) pins' σ H s):Inv X pins σ H s:=
 ⟨⟨I.ok.mod,I.ok.kind,I.ok.glob,I.ok.blt,I.ok.above,I.ok.inj,I.ok.has,I.ok.cab,I.ok.hd,I.ok.frames,I.ok.stk,I.ok.exf,I.ok.bs,I.ok.bsz,I.ok.noex,I.ok.exfs,I.ok.funs,I.ok.frf⟩,I.os,I.bare,I.base,I.loc,I.cell,I.free,I.freeC,fun p hp=>I.pin p (Zt8 _ hp),I.hok,I.len⟩
theorem Inv.excIn {e:Value} (I:Inv X pins σ H s):Inv (X.inExc (X.A.mark (some e))) pins σ H s:=
 ⟨⟨I.ok.mod,I.ok.kind,I.ok.glob,I.ok.blt,I.ok.above,I.ok.inj,I.ok.has,I.ok.cab,fun z=>(by cases z),I.ok.frames,I.ok.stk,I.ok.exf,I.ok.bs,I.ok.bsz,I.ok.noex,I.ok.exfs,I.ok.funs,I.ok.frf⟩,I.os,I.bare,I.base,I.loc,I.cell,I.free,I.freeC,I.pin,I.hok,I.len⟩
theorem Inv.excOut {e:Value} (h:X.Ok) (I:Inv (X.inExc (X.A.mark (some e))) pins σ H s):Inv X pins σ H s:=⟨h,I.os,I.bare,I.base,I.loc,I.cell,I.free,I.freeC,I.pin,I.hok,I.len⟩
end
section
variable {X:Cx}{C:Addr}{i:Nat}{tb:(St->XK)->TS}{th:TS}{c n:Str}{np hpos pos:Pos}{body suite:List Stmt}{b₀:Stmt}
theorem Zkp (hb:∀(xe:Value->Shared->Prop) (pn:List (Addr×Obj)) (E:St->XK),Ze8 (X.inTry xe pn) E->PSs (X.inTry xe pn) body (tb E)) (hh:∀A,PSs (X.inExc A) (b₀::suite) th)
  (hN:X.N.Nodup) (hi:X.N[i]?=some n) (hl:X.env.scope.names.lookup n=some .local) (hg:Gl X c) (hm:X.mg c=some (.ref C)) (hst:X.stack=X.env::X.outer) (hf:X.env.frame=some X.env.locals) (hex:X.ex=[]) (hdb:(c==("__debug__":Str))=false:=by decide) :
  PS X (.Try body [.ExceptHandler (some (.Name c np)) (some n) (b₀::suite) hpos] [] [] pos) (ZlP X.K C i tb th):=by
 intro pins s σ H D I h
 refine wpAny_Try_except ?_
 refine wpAny_mono (hb (fun e s'=>∃σ1 H1 s1,Inv X pins σ1 H1 s1/\CX1 X.prog X.w X.stack H1 s1 (ZlG X.K C i th D σ1) e s') (X.pn++pins) (ZlG X.K C i th D) (fun pins' σ1 H1 s1 e s' I' hq=>⟨σ1,H1,s1,I'.tryOut,hq⟩) [] s σ H D I.tryIn h) (fun f s1 q=>?_) (fun e s1 q=>?_)
 ·cases f with
  |next=>obtain⟨σ',H',I',q⟩:=q;exact wpAny_execs_nil ⟨σ',H',I'.tryOut,q⟩
  |brk=>obtain⟨σ',H',I',q⟩:=q;exact⟨σ',H',I'.tryOut,q⟩
  |cont=>obtain⟨σ',H',I',q⟩:=q;exact⟨σ',H',I'.tryOut,q⟩
  |ret u=>obtain⟨v,σ',H',I',r,q⟩:=q;exact⟨v,σ',H',I'.tryOut,r,q⟩
 ·obtain⟨σ1,H1,s0,I1,ea,kk,cls,H',rfl,F,hx,a,ha,hth⟩:=q
  cases ha
  obtain⟨Bh,t,fl,c1,c2⟩:=F.fly
  have hfr:X.A.frames=some (X.env::X.outer):=by rw[<- hst];exact I.ok.frames
  have fl0:=fl
  rw[hst] at fl
  have new0:s0.heap.get? ea=none:=by
   cases q:s0.heap.get? ea with
   |none=>rfl
   |some o =>
    exfalso
    by_cases hb:ea∈frs X.stack
    ·obtain⟨_,o',ho',hnf⟩:=Heap.FunFrames.mem fl0.2.2.1 hb
     obtain⟨oe,vs,hoe,_,hd,_⟩:=fl0.first
     rw[hoe] at ho';cases ho'
     exact hnf vs hd
    ·obtain⟨o',e⟩:=c2 ea o q hb
     rw[fl0.2.1] at e;cases e
  have neL:ea≠X.env.locals:=fun z=>by
   obtain⟨m,⟨o,_,_,ho,_⟩,_⟩:=I1.loc
   rw[<- z,new0] at ho;cases ho
  have neC:∀x c,X.env.cells.lookup x=some c->c≠ea:=fun x c e z=>by
   obtain⟨v,o,ho,_⟩:=I1.cell x c e
   rw[z,new0] at ho;cases ho
  have neP:∀p∈X.pn++pins,p.1≠ea:=fun p hp z=>by
   have:=(I1.pin p hp).1
   rw[z,new0] at this;cases this
  have new1:X.s₀.heap.get? ea=none:=by
   cases q:X.s₀.heap.get? ea with
   |none=>rfl
   |some o=>obtain⟨o',e⟩:=I1.base.there ea o q (by rw[hex];simp);rw[new0] at e;cases e
  have land:∀{h'':Heap},Bh.StaysIn h''->s1.heap.UpToSlots h''->Inv X pins σ1 H' { s1 with heap:=h'' }:=fun {h''} st up=>by
   obtain⟨u,hok⟩:=ZkT F fl0 c1 c2 st up
   exact I1.call' (s':={ s1 with heap:=h'' }) (ch:=[]) F.os u hok F.bare (fun b z=>absurd z (by simp))
  refine wpAny_mono (ZbW (ZfH _ _) (wpAny_looks_onW (Q:=fun _ s''=>∃h4,s''={ s1 with heap:=h4 }/\Heap.HeldW Bh (X.env::X.outer) ea cls (.ref t) X.env.locals h4/\s1.heap.UpToSlots h4) hfr hf fl fun h4 held4 up4=>⟨h4,rfl,held4,up4⟩)) (fun _ s'' q=>?_) fun _ _ q=>q.1
  obtain⟨⟨h4,rfl,held4,up4⟩,dk4⟩:=q
  refine wpAny_mono (ZbW (V2 _ _) (wpAny_landsW (Q:=fun _ s''=>∃h5,s''={ s1 with heap:=h5 }/\Heap.FlyingW Bh (X.env::X.outer) ea cls (.ref t) h5/\h4.UpToSlots h5) held4 fun h5 fl5 up5=>⟨h5,rfl,fl5,up5⟩)) (fun _ s'' q=>?_) fun _ _ q=>q.1
  obtain⟨⟨h5,rfl,fl5,up5⟩,dk5⟩:=q
  have up5':s1.heap.UpToSlots h5:=up4.trans up5
  have I5:=land fl5.1 up5'
  refine wpAny_handleBy_cons (codeAny_handlers_test ?_) (by intro q;cases q)
  refine Ua (X:=X.inExc (X.A.mark (some (.ref ea)))) I5.excIn hg hm ?_ hdb
  obtain⟨oe5,hoe5,hc5⟩:=fl5.there
  have LT:PySem.W.Looks (model X.prog X.w) h5 (typeOf (.ref ea)) cls:=by
   subst hc5
   exact(PySem.W.Looks.ld hoe5).andThen .now
  refine PySem.W.Looks.here (s:={ s1 with heap:=h5 }) (PySem.W.exm_one I5.kIn LT hx) ?_
  refine codeAny_handlers_suite_as ?_
  refine wpAny_mono (ZbW (V2 _ _) (lands_againW (Q:=fun _ s''=>∃h6,s''={ s1 with heap:=h6 }/\Heap.FlyingW Bh (X.env::X.outer) ea cls (.ref t) h6/\h5.UpToSlots h6) fl5 fun h6 fl6 up6=>⟨h6,rfl,fl6,up6⟩)) (fun _ s'' q=>?_) fun _ _ q=>q.1
  obtain⟨⟨h6,rfl,fl6,up6⟩,dk6⟩:=q
  have I6:=land fl6.1 (up5'.trans up6)
  obtain⟨oe,ws,hoe,hc,hfd,_⟩:=fl6.first
  have hdn:ZjC H' ea kk oe:=by
   obtain⟨o1,e1,d1⟩:=F.dict
   obtain⟨o2,e2,d2⟩:=dk4 ea o1 e1
   obtain⟨o3,e3,d3⟩:=dk5 ea o2 e2
   obtain⟨o4,e4,d4⟩:=dk6 ea o3 e3
   have e4':h6.get? ea=some o4:=e4
   rw[hoe] at e4';cases e4'
   unfold ZjC at d1 ⊢
   rw[d4,d3,d2];exact d1
  have hnc:PySem.W.notCls oe=true:=by unfold PySem.W.notCls;rw[hfd]
  have I7:=I6.track (ea:=ea) (oe:=oe) hoe F.new neL neC neP new1
  refine Ug (X:=X) I7 hN hi (.inl hl) (v:=.ref ea) rfl (fun s8 I8=>?_) (.inr hl)
  refine wpAny_mono (hh (X.A.mark (some (.ref ea))) pins s8 _ _ (unE D i) I8.excIn (hth ea oe F.new hc hdn hnc)) (fun f s9 q=>?_) (fun _ _ z=>False.elim z)
  have hcls:(X.env.scope.kind==.class || (X.env.scope.kind==.module&&X.env.locals != X.env.globals))=false:=by rw[I.ok.kind];rfl
  have go:∀{σ9:St}{H9:Hp},Inv (X.inExc (X.A.mark (some (.ref ea)))) pins σ9 H9 s9->∀{Q:Unit->Shared->Prop},(∀s',Inv X pins (σ9.set i none) H9 s'->Q () s') ->
    wpAny (model X.prog X.w) X.A (do bindName X.env n .none;unbindBehindTheSuite X.env n hpos) Q X.xe s9:=fun {σ9 H9} J {Q} hQ=>by
   have J':=Inv.excOut I.ok J
   obtain⟨m,hn,hlook⟩:=id J'.loc
   obtain⟨o,_,_,ho,_⟩:=id hn
   exact wpAny_nameGoes_keeps hl hn hcls fun h' v hn' hs'=>hQ _ (J'.gone hN hi hlook hn' hs' ⟨o,ho⟩)
  cases f with
  |next=>obtain⟨σ',H',I',q⟩:=q;exact go I' fun s' J=>⟨_,_,J,q⟩
  |brk=>obtain⟨σ',H',I',q⟩:=q;exact go I' fun s' J=>⟨_,_,J,q⟩
  |cont=>obtain⟨σ',H',I',q⟩:=q;exact go I' fun s' J=>⟨_,_,J,q⟩
  |ret u=>obtain⟨v,σ',H',I',r,q⟩:=q;exact go I' fun s' J=>⟨v,_,_,J,r,q⟩
end
end L2
namespace PySem.W
open PySem PySem.Spec PySem.Calls PyProof.Rows
section
variable {prog:Program}{w:World}{A:Around}{E:Value->Shared->Prop}{s:Shared}{K:Frag}{x D:Addr}{ox:Obj}{od:Option Obj}
theorem Ze5:Manifest.canonical "BaseException.__getattribute__" = "object.__getattribute__":=by decide +kernel
theorem method_exc {name:Str}{f:Addr}{pl:Sem Bool}{Q:Value×List Value->Shared->Prop} (X:K.In s.heap) (I:InstAt s.heap x ox D od) (hga:findIn K (.ref D) "__getattribute__"=some (some (.builtin "BaseException.__getattribute__"))) (hk:findIn K (.ref D) "__getattr__"=some none) (hown:∀o,od=some o->lookIn name o=some none)
  (hf:findIn K (.ref D) name=some (some (.ref f))) (ht:typeIn K (.ref f)=some (.type "function")) (h:Q (.ref f,[.ref x]) s):wpAny (model prog w) A (getMethod (.ref x) name pl) Q E s:=by
 have hcan:=Ze5
 unfold getMethod specialOf
 refine wpAny_bind (wpAny_bind (I.type.here ((looks_findIn X hga).here ?_)))
 dsimp only
 rw[hcan,if_neg (by decide)]
 refine wpAny_bind (wpAny_bind (I.type.here ((looks_findIn X hk).here ?_)))
 refine wpAny_bind (wpAny_bind (I.type.here ((looks_findIn X hf).here (wpAny_bind ((looks_typeIn X ht).here ?_)))))
 rw[if_neg (by decide +kernel)]
 refine wpAny_bind (wpAny_loadPart I.at_ ?_)
 have hd:=I.dict
 cases e:ox.dict with
 |none=>exact wpAny_bind (wpAny_rule (wpAny_pure h))
 |some dx =>
  rw[e] at hd
  cases od with
  |none=>exact hd.elim
  |some o =>
   dsimp only
   refine wpAny_bind (wpAny_bind (wpAny_loadPart hd ?_))
   rw[nsLook_of (hown o rfl)]
   exact wpAny_pure (wpAny_bind (wpAny_rule (wpAny_pure h)))
theorem Ze4 {M:Model}{nameV:Value}{Q:Unit->Shared->Prop} (X:K.In s.heap) (I:InstAt s.heap x ox D od) (hb:mroIn K D (.type "BaseException")=some true) (hq:Q () s):wpAny M A (checkBuiltinCall "BaseException.__getattribute__" ⟨[.ref x,nameV],[]⟩) Q E s:=by
 have hk:builtinKind "BaseException.__getattribute__"=some .slot:=by decide +kernel
 have hsplit:splitId "BaseException.__getattribute__"=some ("BaseException", "__getattribute__"):=by decide +kernel
 have ha:=F.args_bexc_ga (.ref x) nameV
 have L:Looks M s.heap (isInstance (.ref x) (.type "BaseException")) true:=(I.type (M:=M)).andThen (looks_mroIn X hb)
 simp only[checkBuiltinCall,hk,hsplit]
 refine wpAny_bind ?_
 refine L.here ?_
 obtain⟨h,g,d,t,os⟩:=s
 repeat (first|wp_step)
 all_goals exact hq
theorem ZfY {Q:Option Value->Shared->Prop} (X:K.In s.heap) (I:InstAt s.heap x ox D od) (hga:findIn K (.ref D) "__getattribute__"=some (some (.builtin "BaseException.__getattribute__"))) (hk:findIn K (.ref D) "__getattr__"=some none)
  (hb:mroIn K D (.type "BaseException")=some true) (hf:findObj K D od "__class__"=some (.bind (.builtin "getset_descriptor.__get__") (.builtin "object.__class__"))) (hm:mroIn K D (.type "object")=some true)
  (h:Q (some (.ref D)) { s with toks:=s.toks+1 }):wpAny (model prog w) A (getAttr? (.ref x) "__class__") Q E s:=by
 obtain⟨hh,g,d,t,os⟩:=s
 have L0:=I.type (M:=model prog w)
 have L1:=looks_findIn (M:=model prog w) X hga
 have L2:=looks_findIn (M:=model prog w) X hk
 have L3:=looks_find (M:=model prog w) X I hf
 unfold getAttr? getAttrBy? getAttrBy
 refine wpAny_bind (wpAny_mkText (wpAny_bind (wpAny_attempt (wpAny_holding (wpAny_bind (L0.at (wpAny_bind (L1.at ?_))))))))
 dsimp only
 have hne:(onTheHeap (Value.ref D)&&Value.builtin "BaseException.__getattribute__" == Value.builtin "object.__getattribute__")=false:=by
  have hx2:(Value.builtin "BaseException.__getattribute__" == Value.builtin "object.__getattribute__")=false:=by decide +kernel
  rw[hx2];rfl
 rw[if_neg (by rw[hne];decide)]
 unfold getAttrByItsOwn hookBefore
 rw[show onTheHeap (Value.ref D)=true from rfl,if_pos rfl]
 refine wpAny_bind (L2.at ?_)
 refine wpAny_bind (wpAny_attempt (wpAny_holding ?_))
 unfold callGetattribute
 rw[if_neg (by decide)]
 unfold boundAndCalled
 refine wpAny_bind (wpAny_of_eq (PySem.F.attrBase_ValueError.ga.bind (.ref x)) ?_)
 refine wpAny_call (codeAny_call_builtin PySem.F.attrBase_ValueError.ga.plain F.entry_bexc_ga (Ze4 X I hb ?_))
 unfold Builtin.«object.__getattribute__»
 refine wpAny_bind (wpAny_pure ?_)
 refine wpAny_bind (wpAny_pure ?_)
 refine wpAny_bind (L0.at (wpAny_bind (L3.at ?_)))
 show wpAny _ _ (holding [Value.builtin "object.__class__"] (call (.builtin "getset_descriptor.__get__") [.builtin "object.__class__",.ref x,.ref D]) >>= fun v=>ret v) _ _ _
 refine wpAny_bind (wpAny_holding (wpAny_call (class_get (s:=⟨hh,g,d,t+1,os⟩) (ox:=ox) (od:=od) X I hm ?_)))
 exact wpAny_pure (handed_on rfl (wpAny_pure h))
noncomputable def exOk (K:Frag) (D:Addr):Bool:=(findIn K (.ref D) "__getattribute__" == some (some (.builtin "BaseException.__getattribute__")))&&(findIn K (.ref D) "__getattr__" == some none)&&(mroIn K D (.type "BaseException")==some true)&&(mroIn K D (.type "object")==some true) &&
 (findIn K (.ref D) "__class__" == some (some (.builtin "object.__class__")))&&(specialIn K (.builtin "object.__class__") "__get__" == some (some (.builtin "getset_descriptor.__get__")))&&(takesIn K (.builtin "object.__class__")==some true)&&(clsIn K D).isSome
theorem Zch {C:Addr}{name:Str}{a g:Value} (hc:(clsIn K C).isSome=true) (ha:findIn K (.ref C) name=some (some a)) (hg:specialIn K a "__get__"=some (some g)) (ht:takesIn K a=some true):findObj K C od name=some (.bind g a):=by
 obtain⟨cd,hc⟩:=Zuz.mp hc
 unfold findObj
 rw[hc,Zuw,ha,Zuw]
 simp only[hg,ht,Zuw]
theorem kitx_exc (h:exOk K D=true):KitX K (.ref x) (.ref D) (fun h=>∃ox od,InstAt h x ox D od):=by
 simp only[exOk,Bool.and_eq_true,beq_iff_eq] at h
 obtain⟨⟨⟨⟨⟨⟨⟨h1,h2⟩,h3⟩,h4⟩,h5⟩,h6⟩,h7⟩,h8⟩:=h
 have hob:∃c' d' cd' sl',K.lookup D=some ⟨c',d',.cls cd',sl'⟩:=by
  obtain⟨cd,e⟩:=Zuz.mp h8
  unfold clsIn at e
  split at e
  ·rename_i c' d' cd' sl' ho;exact⟨_,_,_,_,ho⟩
  ·cases e
 obtain⟨c',d',cd',sl',ho⟩:=hob
 refine⟨fun M h _ ⟨ox,od,I⟩=>I.type,fun M h X _=>?_,fun h tp dd its n sl X htp=>?_,fun X ⟨ox,od,I⟩ k=>ZfY X I h1 h2 h3 (Zch h8 h5 h6 h7) h4 k⟩
 ·intro A' Q' E' s' k q
  unfold isType loadHead
  exact wpAny_bind (wpAny_loadPart (k _ _ (X _ _ ho)) (wpAny_pure q))
 ·refine Bool.eq_false_iff.mpr fun q=>?_
  have e:D=tp:=Value.ref.inj (beq_iff_eq.mp q)
  subst e
  have z:=(X _ _ ho).symm.trans htp
  cases z
end
end PySem.W
namespace L2
open PySem PySem.Spec PyProof.Rows
def OkX (P:Program) (w:World) (K:W.Frag) (mg:Str->Option Value) (base:Heap) (k:Nat) (x:Str) (ps:List Str) (sp:Sp):Prop:=
 ∃f fd,Jd P w K mg base (CX1 P w) k f fd ps sp/\mg x=some (.ref f)/\PySem.W.keepIn K (.ref f)=true/\UK K fd ps []
theorem UZ {P:Program}{w:World}{K:W.Frag}{mg:Str->Option Value}{base:Heap}{k:Nat}{x:Str}{st:Stmt}{ps:List Str}{sp:Sp} (d:Dfn K mg x st) (b:ZD x st ps)
  (h:∀{f fd},Fun K x x st f fd->Jd P w K mg base (CX1 P w) k f fd ps sp):OkX P w K mg base k x ps sp:=by
 obtain⟨f,fd,F,hm⟩:=d
 exact⟨f,fd,h F,hm,F.kp,F.binds b⟩
section
variable {X:Cx}{k:Nat}{x:Str}{ps:List Str}{sp:Sp}{p pos:Pos}{e:Expr}{es:List Expr}{t:TA}{E:St->XK}
noncomputable def UM (sp:Sp) (E:St->XK) (t:TA):TE:=fun σ H Q=>t σ H fun vs H1=>sp vs H1 Q (E σ)
theorem Jk (G:OkX X.prog X.w X.K X.mg X.base k x ps sp) (hr:Vu k X.A) (hg:Gl X x) (hx:Ze8 X E) (ha:PA X (e::es) t) (hdb:(x==("__debug__":Str))=false:=by decide)
  (he:starEach (e::es) X.env=(false,eval e X.env)::starEach es X.env:=by rfl) (hpl:(backTo pos (starEach es X.env)).any (·.1)=false:=by rfl):PE X (.Call (.Name x p) (e::es) [] pos) (UM sp E t):=by
 obtain⟨f,fd,F,hm,hk,hb⟩:=G
 intro pins s σ H Q I h
 refine wpAny_Call_Name_kw (Ua I hg hm ?_ hdb)
 refine PySem.W.callWith_K (h₀:=X.base) I.ok.mod.kin hk (thn (ha pos pins s σ H _ I h) fun us s1 ⟨vs,H1,I1,r,q⟩=>⟨I1.kIn, ?_⟩) he hpl
 have hl:(us++[]).length=ps.length:=by rw[ZtW,<- r.length];exact F.len _ _ _ _ q
 have hb':=hb s1 us I1.kIn hl
 rw[ZtW] at hb'
 refine wpAny_call (codeAny_mono (F.run X.A X.stack s1 H1 ⟨us,[]⟩ us vs Q (E σ) hr I1.env0 hb' r q) fun r s' hq=>?_)
 cases r with
 |error e=>exact hx pins σ H1 s1 e s' I1 hq
 |ok fl =>
  cases fl with
  |ret u=>exact I1.after hq
  |next=>exact False.elim hq
  |brk=>exact False.elim hq
  |cont=>exact False.elim hq
end
noncomputable def Znx:PV->Hp->Addr->Prop
 |.non,H,k=>H k=none
 |.int i,H,k=>∃fs,H k=some (.xd fs)/\fs=[(("at":Str),V.int i)]
 |_,_,_=>False
def W1 (K:W.Frag):PX->XK->Hp->Prop:=fun e E H'=>∀C k,VP K e.1 C->Znx e.2 H' k->E (.ref C) (some k) H'
section
variable {P:Program}{w:World}{K:W.Frag}{mg:Str->Option Value}{base:Heap}
theorem Fun.okX {x qual:Str}{st:Stmt}{f:Addr}{fd:FuncData}{N ps:List Str}{k n l:Nat}{kd:Kd}{m:List PV->Rr PV} (F:Fun K x qual st f fd) (S:Zs N ps (Zd st)) (hn:ps.length=n) (hl:N.length-n=l)
  (hbody:∀(cdv:Value) (A:Around) (outer:List Env) (s:Shared) (H:Hp) (E:XK),Vu k (A.deeper (envOfC qual (Zd st) s.heap.objs.size f cdv)) ->
   ∃t g Y,Y.r=kd/\PSs (Zby (CX1 P w) P w K mg base N qual (Zd st) f cdv A outer s H E) (Zn st) t/\DS K (fun e H'=>W1 K e E H') (List.replicate n .S++List.replicate l .U) Y t g/\∀xs,Ref (m xs) (g (xs++List.replicate l .non)).out) (hkN:kd≠.N:=by nofun) (hkM:kd≠.M:=by nofun) :
  Jd P w K mg base (CX1 P w) (k+1) f fd ps (spF K n kd (W1 K) m):=by
 obtain⟨oc,od,kV,doc,pm,an,cdv,ct,osl,rfl,lk,hcd⟩:=F.ex
 refine ZkS lk hcd S (fun vs H Q E h=>?_) fun A outer s H vs Q E hr h=>?_
 ·obtain⟨B,xs,h1,h2,_⟩:=h
  rw[h1.length,h2,hn]
 ·obtain⟨B,xs,h1,h2,dn⟩:=h
  obtain⟨t,g,Y,hY,ht,hd,href⟩:=hbody cdv A outer s H E hr
  refine⟨t,ht, ?_⟩
  have A0:=Ag.init (n:=l) h1
  have est:VN N vs=vs.map some++List.replicate l none:=by
   unfold VN
   rw[h1.length,h2,hl]
  rw[est]
  rw[h2] at A0
  refine hd _ H H _ _ _ _ A0 ?_
  have hdn:Dn (g (xs++List.replicate l .non)).out (fun x=>∀v H',Z5 H H'->ZhR K B H kd x v H'->Q v H') (fun e=>∀H',Z5 H H'->W1 K e E H'):=by
   rcases href xs with e|e
   ·rw[e] at dn;exact dn.elim
   ·rw[<- e];exact dn
  have retK:∀{x v H'},ZhR K (fun a=>B a\/H a=none) H kd x v H'->ZhR K B H kd x v H':=fun {x v H'} h=>by
   cases kd with
   |P=>exact h
   |F=>exact h
   |T=>exact Rep.mono (fun a us s r=>⟨r,s.elim id .inr⟩) (fun a us r=>r) h
   |Z=>exact Rep.mono (fun a us s r=>⟨r,s.elim id .inr⟩) (fun a us r=>r) h
   |A=>exact Rep.mono (fun a us s r=>⟨r,s.elim id .inr⟩) (fun a us r=>r) h
   |N=>exact h
   |M=>exact h
  cases e:g (xs++List.replicate l .non) with
  |next ρ =>
   rw[e] at hdn
   refine fun σ' H' F' fr A'=>hdn .non H' A'.same ?_
   cases kd with
   |P=>exact⟨rfl,rfl⟩
   |F=>exact⟨[],⟨rfl,rfl⟩,by simp⟩
   |T=>exact rfl
   |Z=>exact rfl
   |A=>exact rfl
   |N=>exact absurd rfl hkN
   |M=>exact absurd rfl hkM
  |ret x=>rw[e] at hdn;exact fun v H' s r=>hdn v H' s (retK (hY▸r))
  |exc q=>rw[e] at hdn;exact fun H' s=>hdn H' s
  |brk ρ=>rw[e] at hdn;exact hdn.elim
  |cont ρ=>rw[e] at hdn;exact hdn.elim
  |bad=>rw[e] at hdn;exact hdn.elim
end
section
variable {K:W.Frag}{n:Nat}{m:List PV->Rr PV}{ta:TA}{Γ Γ':List Md}{fa:List PV->Rr (List PV)}{E:XK}
noncomputable abbrev EX1 (K:W.Frag) (E:XK):PX->Hp->Prop:=fun e H'=>W1 K e E H'
theorem Znf (hn:Len fa n) (ha:DAA K (EX1 K E) Γ Γ' ta fa):DE K (EX1 K E) Γ Γ' .F (UM (spF K n .F (W1 K) m) (fun _=>E) ta) (fun ρ=>(fa ρ).bind m):=Zbl (E:=E) (W:=W1 K) (fun σ H Q h=>h) (fun e H' h=>h) hn ha
theorem ZkX (hn:Len fa n) (ha:DAA K (EX1 K E) Γ Γ' ta fa):DE K (EX1 K E) Γ Γ' .P (UM (spF K n .P (W1 K) m) (fun _=>E) ta) (fun ρ=>(fa ρ).bind m):=Zbk (E:=E) (W:=W1 K) (fun σ H Q h=>h) (fun e H' h=>h) hn ha
theorem Zne {EX:PX->Hp->Prop} (hn:Len fa n) (hm:∀xs q,m xs≠.exc q) (ha:DAA K EX Γ Γ' ta fa):DE K EX Γ Γ' .F (Vp (spF K n .F W0 m) ta) (fun ρ=>(fa ρ).bind m):=fun B H0 H σ ρ F R Q A d=>by
 refine ha B H0 H σ ρ F R _ A (d.bind.imp (fun xs hx d vs H1 F1 s1 f1 p1 A1=>?_) fun e q=>q)
 refine⟨fun _=>True,xs,p1,hn ρ xs hx, ?_⟩
 cases e:m xs with
 |ok x =>
  rw[e] at d
  intro v H2 s2 r
  obtain⟨G,r1,r2⟩:=r
  exact d v H2 (s1.trans s2) ⟨F1,f1,G,r1,fun a ha=>⟨(A1.fresh (r2 a ha)).1,.inl (s1.free (r2 a ha))⟩,A1.more s2 r2 r1.alive⟩
 |exc q=>exact(hm xs q e).elim
 |bad=>rw[e] at d;exact d.elim
theorem Znd {EX:PX->Hp->Prop} (hn:Len fa n) (hm:∀xs q,m xs≠.exc q) (ha:DAA K EX Γ Γ' ta fa):DE K EX Γ Γ' .P (Vp (spF K n .P W0 m) ta) (fun ρ=>(fa ρ).bind m):=fun B H0 H σ ρ F R Q A d=>by
 refine ha B H0 H σ ρ F R _ A (d.bind.imp (fun xs hx d vs H1 F1 s1 f1 p1 A1=>?_) fun e q=>q)
 refine⟨fun _=>True,xs,p1,hn ρ xs hx, ?_⟩
 cases e:m xs with
 |ok x=>rw[e] at d;exact fun v H2 s2 r=>d v H2 (s1.trans s2) ⟨F1,f1,r.1,r.2,A1.grow s2⟩
 |exc q=>exact(hm xs q e).elim
 |bad=>rw[e] at d;exact d.elim
def Pm.calm (m:Pm):Prop:=∀a q,m.out a≠.exc q
theorem Pm.calm_fn {m:Pm} (h:m.calm) (xs:List PV) (q:PX):m.fn xs≠.exc q:=by
 unfold Pm.fn
 by_cases hx:∃a,m.enc a=xs/\m.pre a
 ·rw[dif_pos hx];exact h _ q
 ·rw[dif_neg hx];exact fun z=>by cases z
theorem U2 {C:Addr}{x:Str}{Y:Tys} (hC:VP K x C) (hn:Len fa n) (hl:n<=1000) (ha:DAA K (EX1 K E) Γ Γ' ta fa):DS K (EX1 K E) Γ Y (ZhX C (fun _=>E) ta) (fun ρ=>(fa ρ).thenS fun _=>.exc (x,.non)):=fun B H0 H σ ρ F D A d=>by
 refine ha B H0 H σ ρ F [] _ A (d.thenS.imp (fun xs hx d vs H1 F1 s1 f1 p1 A1=>?_) fun e q=>q)
 exact⟨by rw[p1.length,hn ρ xs hx];exact hl,fun ea hea=>d H1 A1.same C ea hC hea⟩
end
noncomputable def Zmt:V->Value
 |.ref a=>.ref a
 |.ty n=>.type n
 |_=>.none
noncomputable def ZkM:V->Bool
 |.ref _=>true
 |.ty _=>true
 |_=>false
theorem Zlk {c:V}{u:Value} (h:ZkM c=true) (r:Jp c u):u=Zmt c:=by
 cases c<;>first|exact r|cases h
structure IsT (K:PySem.W.Frag) (c:V) (L:List (Str×Bool)):Prop where
 cls:ZkM c=true
 non:PySem.W.kitOne K (.type "NoneType") (Zmt c)=some false
 own:∀n b,L.lookup n=some b->∀D,VP K n D->PySem.W.exOk K D=true/\PySem.W.kitOne K (.ref D) (Zmt c)=some b
def ZhT (K:W.Frag) (H:Hp) (n:Str) (v:V):Prop:=ZjD K H n v\/∃i,ZjE K H n i v
theorem ZhT.inst {X:Cx}{pins:List (Addr×Obj)}{σ:St}{H:Hp}{s:Shared}{n:Str}{v:V} (I:Inv X pins σ H s) (h:ZhT X.K H n v):∃a o C od,v=.ref a/\VP X.K n C/\PySem.W.InstAt s.heap a o C od/\∀u,od=some u->PySem.W.lookIn ("called":Str) u=some none:=by
 rcases h with ⟨a,o,C,rfl,h1,h2,h3,h4,h5⟩|⟨i,a,o,C,d,fs,rfl,h1,h1d,h2,h3,h4,h5,rfl⟩
 ·exact⟨a,o,C,none,rfl,h5,⟨(I.hok a _ h1.1).1,h2,h4,by rw[h3];trivial⟩,fun u z=>by cases z⟩
 ·obtain⟨m,n1,n2⟩:=I.hok d _ h1d.1
  obtain⟨ou,hu,hl⟩:=ZbT n1
  refine⟨a,o,C,some ou,rfl,h5,⟨(I.hok a _ h1.1).1,h2,h4,by rw[h3];exact hu⟩,fun u z=>?_⟩
  cases z
  rw[hl]
  have z:=n2 ("called":Str)
  cases q:m ("called":Str) with
  |none=>rfl
  |some y=>rw[q] at z;exact z.elim
def ZmY (K:W.Frag) (c:V) (L:List (Str×Bool)):List V->Hp->VK->Prop:=fun xs H Q=>∃x,xs=[x,c]/\((x=.non/\Q (.bl false) H)\/∃n b,ZhT K H n x/\L.lookup n=some b/\Q (.bl b) H)
theorem Qz {X:Cx}{K:W.Frag}{c:V}{L:List (Str×Bool)} (T:IsT K c L) (e:X.K=K:=by rfl):Vg X (.builtin "isinstance") (ZmY K c L):=by
 subst e
 intro pins s σ H xs us Q I r h
 obtain⟨x,rfl,h⟩:=h
 obtain⟨u,w',rfl,rx,rn⟩:=ZjS r
 obtain rfl:=Zlk T.cls rn
 rcases h with ⟨rfl,q⟩|⟨n,b,hx,hb,q⟩
 ·cases rx
  exact PySem.W.kia_one PySem.W.kitx_none I.kIn True.intro T.non (fun z=>nomatch z) fun tk=>⟨.bl false,H,I.tok _,rfl,q⟩
 ·obtain⟨a,o,C,od,rfl,h5,hI,-⟩:=hx.inst I
  cases rx
  obtain⟨t1,t2⟩:=T.own n b hb C h5
  exact PySem.W.kia_one (PySem.W.kitx_exc t1) I.kIn ⟨o,od,hI⟩ t2 (fun z=>nomatch z) fun tk=>⟨.bl b,H,I.tok _,rfl,q⟩
noncomputable def ZbN (L:List (Str×Bool)) (x:PV):Rr PV:=match x with
 |.non=>.ok (.bl false)
 |.exc n=>(match L.lookup n with|some b=>.ok (.bl b)|none=>.bad)
 |.exa n _=>(match L.lookup n with|some b=>.ok (.bl b)|none=>.bad)
 |_=>.bad
section
variable {K:W.Frag}{EX:PX->Hp->Prop}{Γ Γ':List Md}{te:TE}{f:List PV->Rr PV}
theorem ZdV {c:V}{L:List (Str×Bool)} (he:DE K EX Γ Γ' .A te f):DE K EX Γ Γ' .P (tCB (ZmY K c L) (J4 te (J4 (tC c) Zcx))) (fun ρ=>(f ρ).bind (ZbN L)):=fun B H0 H σ ρ F R Q A d=>by
 refine he B H0 H σ ρ F R _ A (d.bind.imp (fun x _ d v H1 s1 r1=>?_) fun e q=>q)
 obtain⟨F1,f1,p1,A1⟩:=r1
 cases x with
 |non=>exact⟨v,rfl,.inl ⟨p1,d _ H1 s1 ⟨F1,f1,rfl,rfl,A1⟩⟩⟩
 |exc n =>
  simp only[ZbN] at d
  cases hb:L.lookup n with
  |some b=>rw[hb] at d;exact⟨v,rfl,.inr ⟨n,b,.inl p1,hb,d _ H1 s1 ⟨F1,f1,rfl,rfl,A1⟩⟩⟩
  |none=>rw[hb] at d;exact d.elim
 |exa n i =>
  simp only[ZbN] at d
  cases hb:L.lookup n with
  |some b=>rw[hb] at d;exact⟨v,rfl,.inr ⟨n,b,.inr ⟨i,p1⟩,hb,d _ H1 s1 ⟨F1,f1,rfl,rfl,A1⟩⟩⟩
  |none=>rw[hb] at d;exact d.elim
 |_=>exact d.elim
end
def MOk (P:Program) (w:World) (K:W.Frag) (mg:Str->Option Value) (base:Heap) (k:Nat) (m n:Str):Prop:=
 ∃C f fd,VP K n C/\PySem.W.exOk K C=true/\PySem.W.findIn K (.ref C) m=some (some (.ref f))/\PySem.W.typeIn K (.ref f)=some (.type "function")/\PySem.W.keepIn K (.ref f)=true/\UK K fd ["self"] [] /\
  Jd P w K mg base CX0 k f fd ["self"] (spF K 1 .P W0 fun _=>.ok (.str n))
noncomputable def ZeO (K:W.Frag) (L:List Str) (ta:TE):TE:=fun σ H Q=>ta σ H fun v H1=>∃n,n∈L/\ZhT K H1 n v/\∀H2,Z5 H1 H2->Q (.str n) H2
theorem Zfi {X:Cx}{k:Nat}{L:List Str}{o:Expr}{ta:TE}{apos pos:Pos}{pl:Sem Bool} (hM:∀n∈L,MOk X.prog X.w X.K X.mg X.base k "called" n) (hr:Vu k X.A) (he:PE X o ta)
  (ht:eval (.Call (.Attribute o "called" apos) [] [] pos) X.env=(do
   let ov <- eval o X.env
   standAt apos.atName
   let (f,first) <- holding [ov] (getMethod ov "called" pl)
   callWith pos f first (backTo pos (starEach [] X.env)) (backToKw pos (keywordEach [] X.env))):=by rfl) :
  PE X (.Call (.Attribute o "called" apos) [] [] pos) (ZeO X.K L ta):=by
 intro pins s σ H Q I h
 refine PySem.W.methodCall_KW (pl:=pl) (thn (he pins s σ H _ I h) fun u s1 ⟨x,H1,I1,rx,n,hn,hx,q⟩=>?_) ht
 obtain⟨a,oe,C,od,rfl,h5,hI,hl⟩:=hx.inst I1
 obtain rfl:u=Value.ref a:=rx
 obtain⟨C',f,fd,c1,c2,c3,c4,c5,c6,c7⟩:=hM n hn
 have hCC:C'=C:=by have z:=c1.symm.trans h5;simpa using z
 subst hCC
 simp only[PySem.W.exOk,Bool.and_eq_true,beq_iff_eq] at c2
 obtain⟨⟨⟨⟨⟨⟨⟨d1,d2⟩,d3⟩,d4⟩,d5⟩,d6⟩,d7⟩,d8⟩:=c2
 refine PySem.W.method_exc I1.kIn hI d1 d2 hl c3 c4 ?_
 refine PySem.W.callWith_K0 (first:=[.ref a]) I1.kIn c5 (ZbC (us:=[.ref a]) (vs:=[.ref a]) (dvs:=[]) (E:=E0) c7 hr c6 .nil Zen I1 (.cons rfl .nil) ?_)
 have fin:∀v H',Z5 H1 H'->ZhR X.K (fun _=>True) H1 .P (.str n) v H'->Q v H':=fun v H' sm r=>by
  obtain rfl:v=.str n:=r.2
  exact q H' sm
 rcases hx with hx|⟨i,hx⟩
 ·exact⟨fun _=>True,[.exc n],⟨_,_,rfl,hx,rfl⟩,rfl,fin⟩
 ·exact⟨fun _=>True,[.exa n i],⟨_,_,rfl,hx,rfl⟩,rfl,fin⟩
noncomputable def V1 (L:List Str) (x:PV):Rr PV:=match x with
 |.exc n=>if n∈L then .ok (.str n) else .bad
 |.exa n _=>if n∈L then .ok (.str n) else .bad
 |_=>.bad
section
variable {K:W.Frag}{EX:PX->Hp->Prop}{Γ Γ':List Md}{te:TE}{f:List PV->Rr PV}
theorem Zgk {L:List Str} (he:DE K EX Γ Γ' .A te f):DE K EX Γ Γ' .P (ZeO K L te) (fun ρ=>(f ρ).bind (V1 L)):=fun B H0 H σ ρ F R Q A d=>by
 refine he B H0 H σ ρ F R _ A (d.bind.imp (fun x _ d v H1 s1 r1=>?_) fun e q=>q)
 obtain⟨F1,f1,p1,A1⟩:=r1
 cases x with
 |exc n =>
  simp only[V1] at d
  by_cases hn:n∈L
  ·rw[if_pos hn] at d;exact⟨n,hn,.inl p1,fun H2 s2=>d _ H2 (s1.trans s2) ⟨F1,f1,rfl,rfl,A1.grow s2⟩⟩
  ·rw[if_neg hn] at d;exact d.elim
 |exa n i =>
  simp only[V1] at d
  by_cases hn:n∈L
  ·rw[if_pos hn] at d;exact⟨n,hn,.inr ⟨i,p1⟩,fun H2 s2=>d _ H2 (s1.trans s2) ⟨F1,f1,rfl,rfl,A1.grow s2⟩⟩
  ·rw[if_neg hn] at d;exact d.elim
 |_=>exact d.elim
end
noncomputable def Zk6 (Γ:List Md):Bool:=Γ.all fun m=>m==.U || m==.P || m==.S
theorem ZiV {K:W.Frag}{B:Addr->Prop}{H0 H:Hp}{σ:St}{Γ:List Md}{ρ:List PV}{F:Nat->List Addr}{R:List Addr} (h:Zk6 Γ=true) (A:Ag K B H0 H σ Γ ρ F R):∀i,F i=[]:=fun i=>by
 have sl:=A.slot i
 by_cases hi:i<Γ.length
 ·have hm:=ZtX.mp h Γ[i] (Zuf hi)
  have e:Γ.getD i .U=Γ[i]:=by rw[Zt5,Zt6 hi];rfl
  rw[e] at sl
  simp only[Bool.or_eq_true,beq_iff_eq] at hm
  rcases hm with (hm|hm)|hm
  ·rw[hm] at sl;exact sl
  ·rw[hm] at sl;exact sl.1
  ·rw[hm] at sl;exact sl.1
 ·have e:Γ.getD i .U=.U:=by rw[Zt5,ZtF (by omega)];rfl
  rw[e] at sl
  exact sl
theorem Ag.near {K:W.Frag}{B:Addr->Prop}{H0 H:Hp}{σ:St}{Γ:List Md}{ρ:List PV}{F:Nat->List Addr} (A:Ag K B H0 H σ Γ ρ F []) (h:∀i,F i=[]):Ag K B H H σ Γ ρ F []:=
 ⟨Z5.refl _,fun a q=>A.own a (A.same.free q),fun i a ha=>by rw[h i] at ha;simp at ha,by simp,A.live,A.liveR,A.disj,A.disjR,A.lenS,A.lenR,A.slot⟩
theorem Z5.newO {H:Hp}{p:Addr}{o:HO} (hp:H p=none):Z5 H (L2.upd H p o):=fun b u h=>by rw[L2.Zq (Zz h hp)];exact h
theorem Ag.unset {K:W.Frag}{B:Addr->Prop}{H0 H:Hp}{σ:St}{Γ Γ':List Md}{ρ:List PV}{F:Nat->List Addr} (i:Nat) (A:Ag K B H0 H σ Γ ρ F []) (h:ZaZ (Γ.set i .U) Γ'=true) :
  ∃F',(∀i,∀a∈F' i,a∈F i)/\Ag K B H0 H (σ.set i none) Γ' ρ F' []:=by
 have h0:ZaZ Γ (Γ.set i .U)=true:=by
  have:∀(Γ:List Md) (i:Nat),ZaZ Γ (Γ.set i .U)=true:=fun Γ=>by
   induction Γ with
   |nil=>intro i;rfl
   |cons m ms ih =>
    intro i
    have refl:∀l:List Md,ZaZ l l=true:=fun l=>by induction l with|nil=>rfl|cons a l ih=>simp[ZaZ,mle,ih]
    cases i with
    |zero=>simp[ZaZ,mle,refl]
    |succ i=>simp[ZaZ,mle,ih i]
  exact this Γ i
 obtain⟨F1,f1,A1⟩:=A.weak h0
 have hFi:F1 i=[]:=by
  have sl:=A1.slot i
  by_cases hi:i<Γ.length
  ·have e:(Γ.set i .U).getD i .U=.U:=by rw[Zt5,ZtH hi];rfl
   rw[e] at sl;exact sl
  ·have e:(Γ.set i .U).getD i .U=.U:=by rw[Zt5,ZtF (by simp;omega)];rfl
   rw[e] at sl;exact sl
 have A2:Ag K B H0 H (σ.set i none) (Γ.set i .U) ρ F1 []:=⟨A1.same,A1.own,A1.young,A1.youngR,A1.live,A1.liveR,A1.disj,A1.disjR,by simpa using A1.lenS,A1.lenR,fun j=>by
  by_cases hj:j=i
  ·subst hj
   have e:(Γ.set j .U).getD j .U=.U:=by
    by_cases hi:j<Γ.length
    ·rw[Zt5,ZtH hi];rfl
    ·rw[Zt5,ZtF (by simp;omega)];rfl
   rw[e];exact hFi
  ·have sl:=A1.slot j
   rw[ZtJ (Ne.symm hj)];exact sl⟩
 obtain⟨F3,f3,A3⟩:=A2.weak h
 exact⟨F3,fun j a ha=>f1 j a (f3 j a ha),A3⟩
noncomputable def Ziv (e:PX):PV:=match e.2 with
 |.int i=>.exa e.1 i
 |_=>.exc e.1
section
end
noncomputable def ZmI (K:W.Frag) (n:Str):Bool:=match PySem.W.nsIn K mainGlobals n with
 |some (some (.ref C))=>PySem.W.exOk K C&&(PySem.W.kitOne K (.type "NoneType") (.ref C)==some false)&&(PySem.W.kitOne K (.ref C) (.type "ValueError")==some true)
 |_=>false
noncomputable def ZmH (K:W.Frag) (q:Str×Str×Bool):Bool:=match PySem.W.nsIn K mainGlobals q.1,PySem.W.nsIn K mainGlobals q.2.1 with
 |some (some (.ref D)),some (some (.ref C))=>(PySem.W.kitOne K (.ref D) (.ref C)==some q.2.2)&&(PySem.W.exmOne K (.ref D) (.ref C)==some q.2.2)
 |_,_=>false
noncomputable def ZgB (K:W.Frag) (ns:List Str) (ss:List (Str×Str×Bool)):Bool:=(PySem.W.kitOne K (.type "NoneType") (.type "ValueError")==some false)&&(ns.all (ZmI K)&&ss.all (ZmH K))
section
variable {K:W.Frag}{ns:List Str}{ss:List (Str×Str×Bool)}{n c:Str}
theorem JH (h:ZgB K ns ss=true) (hn:n∈ns):∃C,VP K n C/\True/\PySem.W.exOk K C=true/\PySem.W.kitOne K (.type "NoneType") (.ref C)=some false/\PySem.W.kitOne K (.ref C) (.type "ValueError")=some true:=by
 simp only[ZgB,Bool.and_eq_true] at h
 have:=ZtX.mp h.2.1 n hn
 unfold ZmI at this
 split at this
 ·rename_i C e
  simp only[Bool.and_eq_true,beq_iff_eq] at this
  exact⟨C,e,trivial,this.1.1,this.1.2,this.2⟩
 ·cases this
noncomputable def Zi4 (K:W.Frag) (ns:List Str):Bool:=ns.all fun n=>match PySem.W.nsIn K mainGlobals n with
 |some (some (.ref C))=>PySem.W.excIn K C Zmv "ValueError.__new__"
 |_=>false
theorem VA (h:Zi4 K ns=true) (hn:n∈ns):∃C,VP K n C/\PySem.W.excIn K C Zmv "ValueError.__new__"=true:=by
 have:=ZtX.mp h n hn
 split at this
 ·rename_i C e
  exact⟨C,e,this⟩
 ·cases this
theorem VP.inj {C D:Addr} (a:VP K n C) (b:VP K n D):C=D:=by have z:=a.symm.trans b;simpa using z
theorem Zdd (h:ZgB K ns ss=true) {b:Bool} (hm:(n,c,b)∈ss) {D C:Addr} (hD:VP K n D) (hC:VP K c C):PySem.W.kitOne K (.ref D) (.ref C)=some b/\PySem.W.exmOne K (.ref D) (.ref C)=some b:=by
 simp only[ZgB,Bool.and_eq_true] at h
 have:=ZtX.mp h.2.2 _ hm
 unfold ZmH at this
 have hD':PySem.W.nsIn K mainGlobals n=some (some (.ref D)):=hD
 have hC':PySem.W.nsIn K mainGlobals c=some (some (.ref C)):=hC
 simp only[hD',hC',Bool.and_eq_true,beq_iff_eq] at this
 exact this
theorem QM {L:List (Str×Bool)}{b:Bool} (h:L.lookup n=some b):(n,b)∈L:=PySem.mem_of_lookup h
theorem ZaH {L:List (Str×Bool)} (h:ZgB K ns ss=true) (hc:c∈ns) (hL:(L.all fun p=>ns.contains p.1&&ss.contains (p.1,c,p.2))=true):∃C,VP K c C/\IsT K (.ref C) L:=by
 obtain⟨C,e,_,_,e2,_⟩:=JH h hc
 refine⟨C,e,rfl,e2,fun n b hb D hD=>?_⟩
 have:=ZtX.mp hL _ (QM hb)
 simp only[Bool.and_eq_true,Zu3] at this
 obtain⟨D',d1,_,d2,_⟩:=JH h this.1
 obtain rfl:=d1.inj hD
 exact⟨d2,(Zdd h this.2 hD e).1⟩
theorem ZgH {L:List (Str×Bool)} (h:ZgB K ns ss=true) (hL:(L.all fun p=>ns.contains p.1&&p.2)=true):IsT K (.ty "ValueError") L:=by
 have h0:=h
 simp only[ZgB,Bool.and_eq_true,beq_iff_eq] at h0
 refine⟨rfl,h0.1,fun n b hb D hD=>?_⟩
 have:=ZtX.mp hL _ (QM hb)
 simp only[Bool.and_eq_true,Zu3] at this
 obtain⟨D',d1,_,d2,_,d3⟩:=JH h this.1
 obtain rfl:=d1.inj hD
 have hb':b=true:=this.2
 rw[hb']
 exact⟨d2,d3⟩
theorem ZgI {L:List Str}{C:Addr} (h:ZgB K ns ss=true) (hC:VP K c C) (hL:(L.all fun n=>ss.contains (n,c,true))=true):∀n∈L,∀D,VP K n D->PySem.W.exmOne K (.ref D) (.ref C)=some true:=fun n hn D hD=>by
 have:=ZtX.mp hL n hn
 exact(Zdd h (Zu3.mp this) hD hC).2
end
def Zao (K:W.Frag) (n m qual:Str) (st:Stmt):Prop:=∃C f fd,VP K n C/\PySem.W.findIn K (.ref C) m=some (some (.ref f))/\PySem.W.typeIn K (.ref f)=some (.type "function")/\Fun K m qual st f fd
theorem Zbr:bootBuiltins "ValueError"=some (.type "ValueError"):=by decide +kernel
theorem QH {X:Cx}:Ze8 X (fun _=>E0):=fun _ _ _ _ _ _ _ h=>by obtain⟨_,_,_,_,_,_,q⟩:=h;exact q.elim
section
variable {K:W.Frag}{n:Nat}{m:List PV->Rr PV}{ta:TA}{Γ Γ':List Md}{fa:List PV->Rr (List PV)}
theorem ZlH (hn:Len fa n) (ha:DAA K X0 Γ Γ' ta fa):DE K X0 Γ Γ' .F (UM (spF K n .F (W1 K) m) (fun _=>E0) ta) (fun ρ=>(fa ρ).bind m):=Zbl (E:=E0) (W:=W1 K) (fun σ H Q h=>h) (fun e H' h=>h.elim) hn ha
theorem Znr (hn:Len fa n) (ha:DAA K X0 Γ Γ' ta fa):DE K X0 Γ Γ' .P (UM (spF K n .P (W1 K) m) (fun _=>E0) ta) (fun ρ=>(fa ρ).bind m):=Zbk (E:=E0) (W:=W1 K) (fun σ H Q h=>h) (fun e H' h=>h.elim) hn ha
end
theorem Jl {L:List (Str×Bool)}{n:Str}{b:Bool} (h:L.lookup n=some b):ZbN L (.exc n)=.ok (.bl b):=by unfold ZbN;simp only[h]
theorem VX {L:List Str}{n:Str} (h:n∈L):V1 L (.exc n)=.ok (.str n):=by unfold V1;simp only[if_pos h]
@[simp] theorem Zhf {n:Str}{g:Bool->Bool}:Zmd g (.exc n)=.ok (.bl (g false)):=rfl
section
end
theorem Zfz {x:Str} (h:PyData.canLay0 (.str x)=true):okD (.str x)=true:=by simp[okD,PV.noX,PV.dat,PyData.depth,h]
theorem Zc6 {g:Bool->Bool}{a b:Str} (ha:PyData.canLay0 (.str a)=true) (hb:PyData.canLay0 (.str b)=true):Zbw g (.str a) (.str b)=.ok (.bl (g (a==b))):=by
 unfold Zbw
 rw[Zfz ha,Zfz hb]
 simp only[Bool.and_self,if_true,PV.dat,PyData.eqv]
section
end
theorem VG {ns ms:List Int}:ns.map PV.int=ms.map PV.int ↔ ns=ms:=⟨Jb,fun h=>by rw[h]⟩
noncomputable def orX (o:Option Str) (x:PV):Rr PV:=match o with
 |none=>.ok x
 |some n=>.exc (n,.non)
theorem Uz {b:PV->List PV->RS}{xs:List PV}{ρ:List PV}{W:RS} (hw:Ze0 b xs ρ=W) (I:Nat->List PV->Prop) (h0:I 0 ρ) (h:∀i x ρ,xs[i]?=some x->I i ρ->(b x ρ).good (I (i+1))) :
  ∃ρ',W=.next ρ'/\I xs.length ρ':=by
 obtain⟨ρ',h1,h2⟩:=Qw I h0 h
 exact⟨ρ',hw.symm.trans h1,h2⟩
theorem Q1 {c:List PV->Rr Bool}{b:List PV->RS}{ρ:List PV}{W:RS} (hw:Uf c b ρ=W) (N:Nat) (I:Nat->List PV->Prop) (h0:I 0 ρ) (hs:∀i ρ,i<N->I i ρ->c ρ=.ok true/\(b ρ).good (I (i+1))) (he:∀ρ,I N ρ->c ρ=.ok false) :
  ∃ρ',W=.next ρ'/\I N ρ':=by
 subst hw
 have key:∀m i ρ,N=i+m->I i ρ->∃ρ',Ve c b (m+1) ρ=some (.next ρ')/\I N ρ':=by
  intro m
  induction m with
  |zero =>
   intro i ρ hl hI
   obtain rfl:N=i:=by omega
   refine⟨ρ, ?_,hI⟩
   unfold Ve
   rw[he ρ hI]
  |succ m ih =>
   intro i ρ hl hI
   obtain⟨h1,h2⟩:=hs i ρ (by omega) hI
   obtain⟨ρ',h3,h4⟩:=RS.good_ex h2
   obtain⟨ρ2,h5,h6⟩:=ih (i+1) ρ' (by omega) h4
   refine⟨ρ2, ?_,h6⟩
   unfold Ve
   rw[h1]
   rcases h3 with h3|h3<;>(rw[h3];exact h5)
 obtain⟨ρ',h1,h2⟩:=key N 0 ρ (by omega) h0
 exact⟨ρ',Q2 h1,h2⟩
theorem ZiZ {f:PV->Rr PV}{g:Int->Bool}{ns:List Int} (h:∀z∈ns,f (.int z)=.ok (.bl (g z))):Zbc f (ns.map PV.int)=.ok ((ns.map g).map PV.bl):=by
 induction ns with
 |nil=>rfl
 |cons n ns ih =>
  simp only[ZtI,Zbc,h n (by simp),Rr.bind_ok,ih fun z hz=>h z (by simp[hz])]
theorem Zhi (bs:List Bool):Zk0 [.lst (bs.map PV.bl)]=.ok (.bl (bs.all id)):=by simp only[Zk0,Zg1]
theorem Zj8 {ns:List Int}{p:Int->Prop} [DecidablePred p]:(ns.map fun z=>decide (p z)).all id=decide (∀x∈ns,p x):=by
 rw[Bool.eq_iff_iff,ZtX,decide_eq_true_iff]
 simp
theorem Zll {ns:List Int}{h:Int} (h0:0<=h):Zlm (ns.map PV.int) none (some h)=(ns.take h.toNat).map PV.int:=by
 unfold Zlm HT.sIx
 simp only[Zt7,List.drop_zero,Nat.sub_zero]
 rw[if_neg (by omega),<- List.map_take]
 congr 1
 rw[List.take_eq_take_iff];omega
theorem Zhk {x:PV}:orX none x=.ok x:=rfl
theorem Zhj {x:PV}{n:Str}:orX (some n) x=.exc (n,.non):=rfl
theorem Zfb {n:Nat}:List.replicate (n+1) PV.non=PV.non::List.replicate n PV.non:=rfl
theorem Zfa:List.replicate 0 PV.non=[]:=rfl
section
end
theorem ZfR {a:Str}{b c:Int}:grd (.tup [.str a,.int b,.int c])=.ok (.tup [.str a,.int b,.int c]):=rfl
theorem Zh3 {a:Str}{b:Int}:grd (.tup [.str a,.int b])=.ok (.tup [.str a,.int b]):=rfl
theorem Zh4 {a b:Int}:grd (.tup [.int a,.int b])=.ok (.tup [.int a,.int b]):=rfl
theorem Zhe {g:Bool->Bool}:Zmd g .non=.ok (.bl (g true)):=rfl
section
variable {X:Cx}{pins:List (Addr×Obj)}{σ:St}{H:Hp}{s:Shared}{h':Heap}
theorem Inv.turned2 {t':Nat}{it e:Addr} (I:Inv X pins σ H s) (k:∀b o,b≠e->b≠it->s.heap.get? b=some o->h'.get? b=some o)
  (f:∀b,b=e\/b=it->H b=none/\b≠X.env.locals/\(b∈X.ex\/X.s₀.heap.objs.size<=b)/\(∀x c,X.env.cells.lookup x=some c->c≠b)/\∀p∈X.pn++pins,p.1≠b):Inv X pins σ H { s with heap:=h',toks:=t' }:=by
 have nit:∀b u,H b=some u->b≠e/\b≠it:=fun b u q=>by
  refine⟨fun z=>?_,fun z=>?_⟩
  ·rw[z,(f e (.inl rfl)).1] at q;cases q
  ·rw[z,(f it (.inr rfl)).1] at q;cases q
 refine I.step (g':=s.gens) (d':=s.drawn) (ch:=[e,it]) (fun b hb=>?_) (fun b o _ _ hc q _=>k b o (fun z=>hc (by simp[z])) (fun z=>hc (by simp[z])) q) (fun b o _ _ hc q _=>⟨o.slots,k b o (fun z=>hc (by simp[z])) (fun z=>hc (by simp[z])) q⟩) (fun _ _ _ _ n=>n)
  (fun b o hc q=>⟨o,k b o (fun z=>hc (by simp[z])) (fun z=>hc (by simp[z])) q⟩) (fun _ _ q=>q) (fun _ _ _ q=>q) (fun b ps q=>⟨#[],by rw[q];simp⟩) (fun m hm=>?_) (fun b u q=>?_) I.bare
 ·obtain⟨g0,g1,g2,g3,g4⟩:=f b (by simpa using hb)
  exact⟨g2,g1,g3,g4⟩
 ·obtain⟨o,es,ep,ho,r⟩:=hm
  exact⟨o,es,ep,k _ o (Ne.symm (f e (.inl rfl)).2.1) (Ne.symm (f it (.inr rfl)).2.1) ho,r⟩
 ·refine(I.hok b u q).stay (fun c v hc q2=>?_) (fun _ q2=>q2) fun _ _ q2=>q2
  have:c≠e/\c≠it:=by
   rcases hc with z|z
   ·rw[z];exact nit b u q
   ·exact nit c _ z
  exact k c v this.1 this.2 q2
theorem Inv.adoptT {D:Addr}{ys:List V}{its:List Value} (I:Inv X pins σ H s) (hn:H D=none) (h1:X.s₀.heap.objs.size<=D) (hL:D≠X.env.locals) (hc:∀x c,X.env.cells.lookup x=some c->c≠D)
  (hp:∀p∈X.pn++pins,p.1≠D) (ho:s.heap.get? D=some { cls:=.type "tuple",data:=.seq its.toArray }) (r:ZT ys its) (hz:ys.length<=sizeLine):Inv X pins σ (upd H D (.tup ys)) s:=by
 refine I.step (h':=s.heap) (g':=s.gens) (d':=s.drawn) (t':=s.toks) (ch:=[D]) (fun b hb=>?_) (fun b o _ _ _ e _=>e) (fun b o _ _ _ e _=>⟨o.slots,e⟩) (fun b o hb _ e=>?_) (fun b o _ e=>⟨o,e⟩)
  (fun b xs e=>?_) (fun b o u e=>?_) (fun b ps e=>⟨#[], ?_⟩) (fun m hm=>hm) (fun b u e=>?_) I.bare
 ·have e:b=D:=by simpa using hb
  subst e
  exact⟨.inr h1,hL,hc,hp⟩
 ·rw[Zq (by simpa using hb)];exact e
 ·rw[Zq (Zz e hn)];exact e
 ·rw[Zq (Zz e hn)];exact e
 ·rw[Zq (Zz e hn),e];simp
 ·by_cases hb:b=D
  ·subst hb
   rw[Z0] at e;cases e
   exact⟨hz,its,r,_,ho,rfl,_,rfl⟩
  ·rw[Zq hb] at e
   exact(I.hok b u e).stay (fun c v _ q=>q) (fun c q=>by rw[Zq (Zz q hn)];exact q) fun c xs q=>by rw[Zq (Zz q hn)];exact q
end
noncomputable def Ite (K:W.Frag) (a:Addr):It:=
 ⟨fun i H=>∃xs x,SqL K H a xs/\xs[i]?=some x,fun i H v H'=>∃t x,v=.ref t/\H t=none/\H'=upd H t (.tup [.int i,x])/\∀xs,SqL K H a xs->xs[i]?=some x,fun i H=>∃xs,SqL K H a xs/\xs.length<=i⟩
theorem ZeH {P:Program}{w:World}{K:W.Frag}{elts:List Expr}{x1:Nat}{tpos:Pos} (a e it:Addr) (hne:e≠it):Zl0 P w K (.Tuple elts x1 tpos) (Ite K a) [e,it] e (fun i h=>∃old,IsEnum h e it i old/\h.IsListIter it a i) where
 mem:=by simp
 obj:=fun i h ⟨old,s1,s2⟩ b hb=>by
  rcases ZtE.mp hb with z|z
  ·subst z
   exact⟨_,s1,fun v z=>by
    have z':Data.fields _=Data.cell v:=z
    cases z'⟩
  ·have z:b=it:=by simpa using z
   subst z
   obtain⟨o,e,c,d⟩:=s2
   exact⟨o,e,fun v z=>by rw[d] at z;cases z⟩
 keep:=fun i h h' ⟨old,s1,s2⟩ k=>⟨old,k e (by simp) _ s1,s2.at fun o q=>k it (by simp) o q⟩
 item:=by
  intro X hP hw hK hc i pins s σ H E I hf ⟨old,s1,s2⟩ hg
  subst hP hw hK
  obtain⟨xs,x,hq,hx⟩:=hg
  obtain⟨its,rv,p,hz⟩:=I.list hq
  obtain⟨u,hu,ru⟩:=rv.get hx
  have fz:∀b,b=e\/b=it->H b=none/\b≠X.env.locals/\(b∈X.ex\/X.s₀.heap.objs.size<=b)/\(∀x c,X.env.cells.lookup x=some c->c≠b)/\∀p∈X.pn++pins,p.1≠b:=fun b hb=>by
   obtain⟨f0,f1,f2,f3,f4,f5⟩:=hf b (by simpa using hb)
   exact⟨f0,f1,f3,f4,f5⟩
  refine wpAny_pyNext_enum_item s1 s2 p.isList (x:=u) (by simpa using hu) hne fun h1 e1 i1 t1 z1 k1=>?_
  refine⟨_,rfl, ?_⟩
  refine wpAny_letOwnedTupleGo_enum e1 fun h2 e2 sb2=>?_
  have I2:Inv X pins σ H { s with heap:=h2,toks:=s.toks+1 }:=I.turned2 (fun b o n1 n2 q=>sb2.extBut b o n1 (k1 b o n1 n2 q)) fz
  have hfr:=I.hok.fresh (ZtD s.heap.objs.size)
  have het:s.heap.objs.size≠e:=ZuC (Heap.lt_size s1)
  have fsz:=I.fpOk (H':=H) (ZtD s.heap.objs.size) hfr
  obtain⟨g0,g1,g2,g3,g4,g5⟩:=fsz
  have I3:=I2.adoptT (D:=s.heap.objs.size) (ys:=[.int i,x]) (its:=[.int i s.toks,u]) hfr I.sz g1 g4 g5 (sb2.extBut _ _ het t1) (.cons ⟨_,rfl⟩ (.cons ru .nil)) (show 2<=sizeLine by decide)
  refine⟨.ref s.heap.objs.size,_,I3,rfl,⟨_,x,rfl,hfr,rfl,fun ys hy=>by rw[I.list_inj hy hq];exact hx⟩,⟨u,by
   have:((i+1:Nat):Int)=(i:Int)+1:=by omega
   rw[this];exact e2,i1.extBut sb2.extBut (Ne.symm hne)⟩,fun b hb=>?_⟩
  have hbn:b≠s.heap.objs.size:=by
   rcases ZtE.mp hb with z|z
   ·rw[z];exact het.symm
   ·have z:b=it:=by simpa using z
    obtain⟨o,q,_⟩:=s2
    rw[z];exact ZtP (Heap.lt_size q)
  rw[Zq hbn]
  exact(hf b hb).1
 done:=by
  intro X hP hw hK hc i pins s σ H E I hf ⟨old,s1,s2⟩ hg
  subst hP hw hK
  obtain⟨xs,hq,hx⟩:=hg
  obtain⟨its,rv,p,hz⟩:=I.list hq
  obtain⟨f0,f1,f2,f3,f4,f5⟩:=hf it (by simp)
  have hl:=rv.length
  exact wpAny_pyNext_enum_end (I.ok.hd hc) s1 s2 p.isList (by simp;omega) fun h' eb=>⟨rfl,I.turned (t':=s.toks) (fun b o hb q=>eb b o hb q) f0 f1 f3 f4 f5⟩
 self:=fun _ _ _ _ _ ⟨old,st,_⟩ h=>wpAny_pyIter_enum st h
section
variable {X:Cx}{elts:List Expr}{x1:Nat}{tpos:Pos}
noncomputable def Zjh (K:W.Frag) (tl:TA):TI:=fun σ H R=>tl σ H fun vs H1=>∃a,vs=[.ref a]/\(∃xs,SqL K H1 a xs)/\R (Ite K a) H1
theorem Zcq:bootBuiltins "enumerate"=some (.type "enumerate"):=by decide +kernel
theorem ZiK {l:Expr}{tl:TA}{p pos:Pos} (hg:Gl X "enumerate") (hm:X.mg "enumerate"=none) (ha:PA X [l] tl) (hs:starEach [l] X.env=[(false,eval l X.env)]:=by rfl):PI X (.Tuple elts x1 tpos) (.Call (.Name "enumerate" p) [l] [] pos) (Zjh X.K tl):=by
 intro pins s σ H R I h
 refine Call_ (Za6 I hg hm Zcq (PyProof.Rows.callWith_type1 (thn (ha pos pins s σ H _ I h) fun us s1 ⟨vs,H1,I1,r1,q1⟩=>?_) hs rfl))
 obtain⟨a,e,⟨xs,hq⟩,q⟩:=q1
 subst e
 cases r1 with
 |cons r rr =>
  cases rr
  cases r
  obtain⟨its,rv,pl,hz⟩:=I1.list hq
  refine call_enumerate_list pl.isList fun h' e1 i1 z1 k1=>?_
  refine wpAny_pyIter_enum e1 ?_
  have I2:Inv X pins σ H1 { s1 with heap:=h' }:=I1.kept (t':=s1.toks) k1
  refine⟨s1.heap.objs.size+1,[s1.heap.objs.size+1,s1.heap.objs.size],_,_,H1,rfl,I2,ZeH a _ _ (Nat.succ_ne_self _),⟨_,e1,i1⟩,fun b hb=>?_,q⟩
  have hb':s1.heap.objs.size<=b:=by
   rcases ZtE.mp hb with z|z
   ·rw[z];exact Nat.le_succ _
   ·have z:b=s1.heap.objs.size:=by simpa using z
    rw[z];exact ZtD _
  exact I1.fpOk hb' (I1.hok.fresh hb')
theorem ZgV {K:W.Frag}{l:Expr}{tl:TA}{p pos:Pos} (hg:Gl X "enumerate") (hm:X.mg "enumerate"=none) (ha:PA X [l] tl) (hs:starEach [l] X.env=[(false,eval l X.env)]:=by rfl) (e:X.K=K:=by rfl):PI X (.Tuple elts x1 tpos) (.Call (.Name "enumerate" p) [l] [] pos) (Zjh K tl):=by subst e;exact ZiK hg hm ha hs
end
noncomputable def Zbh (xs:List PV):List PV:=xs.mapIdx fun i x=>.tup [.int (i:Nat),x]
section
variable {K:W.Frag}{H:Hp}{EX:PX->Hp->Prop}{Γ Γ':List Md}
theorem Zhx {a:Addr}{xs:List PV}{S:Addr->Prop} (h:Rep K H S (.lst xs) (.ref a)):ItP K S (Ite K a) (Zbh xs) H:=by
 obtain⟨a',vs,e,hn,hr⟩:=h
 cases e
 intro i
 constructor
 ·intro x hx
  unfold Zbh at hx
  rw[Zu6] at hx
  cases hxi:xs[i]? with
  |none=>rw[hxi] at hx;cases hx
  |some y =>
   rw[hxi] at hx
   cases hx
   obtain⟨u,e1,e2⟩:=hr.get hxi
   refine⟨⟨vs,u,JC hn,e1⟩,fun v H' ⟨t,z,e3,e4,e5,e6⟩=>?_⟩
   have:=e6 vs (JC hn)
   rw[e1] at this;cases this
   subst e3 e5
   have sm:Z5 H (upd H t (.tup [.int i,u])):=Z5.upd (Z5.refl H) e4
   exact⟨sm,t,_,rfl,⟨Z0,trivial⟩,⟨_,_,rfl,rfl,_,_,rfl,e2.same sm,rfl⟩⟩
 ·intro hx
  unfold Zbh at hx
  rw[Zu6] at hx
  have:xs[i]?=none:=by cases hxi:xs[i]? with
   |none=>rfl
   |some y=>rw[hxi] at hx;cases hx
  exact⟨vs,JC hn,by rw[hr.length];exact Zua.mp this⟩
noncomputable def ZiR (xs:List PV):Rr (List PV):=match xs with
 |[.lst ys]=>.ok (Zbh ys)
 |_=>.bad
theorem Zjt {ta:TA}{fa:List PV->Rr (List PV)} (ha:DAZ K EX Γ Γ' ta fa):DI K EX Γ Γ' (Zjh K ta) (fun ρ=>(fa ρ).bind ZiR):=fun B H0 H σ ρ F R Q A d=>by
 refine ha B H0 H σ ρ F R _ A (d.bind.imp (fun xs _ d vs H1 F1 s1 f1 p1 A1=>?_) fun e q=>q)
 unfold ZiR at d
 split at d
 ·rename_i ys
  obtain⟨v,rfl,h1⟩:=VV p1
  obtain⟨a,us,rfl,hn,hr⟩:=id h1
  exact⟨a,rfl,⟨us,JC hn⟩,d _ H1 F1 s1 f1 A1 fun H2 F2 h=>Zhx (h1.frm h A1)⟩
 ·exact d.elim
theorem Zhg {ys:List PV}:ZiR [.lst ys]=.ok (Zbh ys):=rfl
end
noncomputable def Zmn (xs:List Str) (y:Str):Str:=if xs.contains y then "" else y
noncomputable abbrev TB:=V->Hp->List V->Prop
section
end
theorem ZaI:∀{bs:List Bool}{us:List Value},ZT (bs.map V.bl) us->us=bs.map Value.bool
 |[],_,.nil=>rfl
 |b::bs,_,.cons r t=>by
  cases r
  rw[ZaI t];rfl
noncomputable def eqB (b:Bool):Value->Bool
 |.bool a=>a==b
 |_=>false
theorem ZaE (b:Bool):∀bs:List Bool,(bs.map Value.bool).countP (eqB b)=bs.count b
 |[]=>rfl
 |a::bs=>by
  rw[ZtI,List.countP_cons,ZaE b bs,List.count_cons];rfl
section
variable {X:Cx}{K:W.Frag}
def Zfd (K:W.Frag):V->List V->Hp->VK->Prop:=fun x xs H Q=>∃p,∃bs:List Bool,∃b,x=.ref p/\xs=[.bl b]/\SqL K H p (bs.map V.bl)/\Q (.int (bs.count b:Nat)) H
def Zfc (K:W.Frag):V->List V->Hp->VK->Prop:=fun x xs H Q=>∃p,∃bs:List Bool,∃b,x=.ref p/\xs=[.bl b]/\SqL K H p (bs.map V.bl)/\bs.length<=1000000/\bs.idxOf b<bs.length/\Q (.int (bs.idxOf b:Nat)) H
theorem Zf4 (e:X.K=K:=by rfl):MtR X "list.count" (Zfd K):=by
 subst e
 intro pins s σ H x xs v us Q I rx rv h
 obtain⟨p,bs,b,rfl,rfl,hq,q⟩:=h
 cases rx
 obtain⟨u,rfl,ru⟩:=rv.one
 cases ru
 obtain⟨its,r',pl,hz⟩:=I.list hq
 obtain rfl:=ZaI r'
 obtain⟨⟨c,dct,dt,sl⟩,hl,hc,n,hd⟩:=pl.isList
 replace hc:c=.type "list":=hc
 replace hd:dt=.seq (bs.map Value.bool).toArray n:=hd
 subst hc hd
 refine call_meets F.slot_list_count ⟨_,hl,rfl⟩ F.entry_list_count (F.args_list_count_2 _ _) (PySem.SeqAt.list_countAt p (bs.map Value.bool).toArray n dct sl (.bool b) (eqB b)) ⟨hl,fun y hy=>?_, ?_⟩
 ·have:y∈bs.map Value.bool:=by simpa using hy
  obtain⟨a,_,rfl⟩:=Zub.mp this
  exact PySem.SeqAt.EqAt.bool_bool a b
 ·have e:(bs.map Value.bool).toArray.toList.countP (eqB b)=bs.count b:=ZaE b bs
  rw[e]
  exact⟨.int (bs.count b:Nat),H,I.tok _,⟨_,rfl⟩,q⟩
theorem Zf3 (e:X.K=K:=by rfl):MtR X "list.index" (Zfc K):=by
 subst e
 intro pins s σ H x xs v us Q I rx rv h
 obtain⟨p,bs,b,rfl,rfl,hq,hl6,hlt,q⟩:=h
 cases rx
 obtain⟨u,rfl,ru⟩:=rv.one
 cases ru
 obtain⟨its,r',pl,hz⟩:=I.list hq
 obtain rfl:=ZaI r'
 obtain⟨⟨c,dct,dt,sl⟩,hl,hc,n,hd⟩:=pl.isList
 replace hc:c=.type "list":=hc
 replace hd:dt=.seq (bs.map Value.bool).toArray n:=hd
 subst hc hd
 have hs:(bs.map Value.bool).toArray.size=bs.length:=by simp
 have hj:bs.idxOf b<(bs.map Value.bool).toArray.size:=by rw[hs];exact hlt
 refine call_meets F.slot_list_index ⟨_,hl,rfl⟩ F.entry_list_index (F.args_list_index_2 _ _) (PySem.SeqAt.list_indexAt p (bs.map Value.bool).toArray n dct sl (.bool b) (eqB b) (bs.idxOf b) hj (by omega) ?_ fun m hm hmj=>?_) ⟨hl,fun y hy=>?_, ?_⟩
 ·simp only[List.getElem_toArray,ZuI,eqB]
  rw[List.getElem_idxOf];exact beq_self_eq_true b
 ·simp only[List.getElem_toArray,ZuI,eqB]
  have:=List.not_of_lt_findIdx (p:=(·==b)) (xs:=bs) (i:=m) hmj
  simpa using this
 ·have:y∈bs.map Value.bool:=by simpa using hy
  obtain⟨a,_,rfl⟩:=Zub.mp this
  exact PySem.SeqAt.EqAt.bool_bool a b
 ·exact⟨.int (bs.idxOf b:Nat),H,I.tok _,⟨_,rfl⟩,q⟩
end
noncomputable def QK (ys as:List PV):Rr PV:=match as with
 |[.bl b]=>match Zbs ys with
  |some bs=>.ok (.int (bs.count b:Nat))
  |none=>.bad
 |_=>.bad
noncomputable def QJ (ys as:List PV):Rr PV:=match as with
 |[.bl b]=>match Zbs ys with
  |some bs=>if bs.length<=1000000/\bs.idxOf b<bs.length then .ok (.int (bs.idxOf b:Nat)) else .bad
  |none=>.bad
 |_=>.bad
section
variable {K:W.Frag}{EX:PX->Hp->Prop}{Γ Γ1 Γ2:List Md}{te:TE}{ta:TA}{f:List PV->Rr PV}{fa:List PV->Rr (List PV)}
theorem Zgi (he:DE K EX Γ Γ1 .A te f) (ha:DAA K EX Γ1 Γ2 ta fa):DE K EX Γ Γ2 .P (tBM K "list" (Zfd K) te ta) (fun ρ=>(f ρ).bind fun x=>(asL x).bind fun ys=>(fa ρ).bind fun as=>QK ys as):=fun B H0 H σ ρ F R Q A d=>by
 refine he B H0 H σ ρ F R _ A (d.bind.imp (fun x _ d v H1 s1 r1=>?_) fun e q=>q)
 obtain⟨F1,f1,p1,A1⟩:=r1
 obtain⟨ys,rfl,d2⟩:=Dn.asL d.bind
 obtain⟨a,vs,rfl,hn,hr⟩:=id p1
 refine⟨.inl ⟨rfl,vs,JC (S:=fun _=>True) hn⟩,ha B H0 H1 σ ρ F1 R _ A1 (d2.bind.imp (fun as _ d us H2 F2 s2 f2 p2 A2=>?_) fun e q=>q)⟩
 unfold QK at d
 split at d
 ·rename_i b _
  split at d
  ·rename_i bs hb
   obtain⟨u,rfl,hu⟩:=VV p2
   have hu:u=.bl b:=hu
   subst hu
   obtain⟨a',vs',e,hn',hr'⟩:=p1.same s2
   cases e
   rw[Q0 hb] at hr'
   have:=Qp hr'
   subst this
   exact⟨a,bs,b,rfl,rfl,JC (S:=fun _=>True) hn',d _ H2 (s1.trans s2) ⟨F2,fun i z h=>f1 i z (f2 i z h),rfl,rfl,A2⟩⟩
  ·exact d.elim
 ·exact d.elim
theorem Zgh (he:DE K EX Γ Γ1 .A te f) (ha:DAA K EX Γ1 Γ2 ta fa):DE K EX Γ Γ2 .P (tBM K "list" (Zfc K) te ta) (fun ρ=>(f ρ).bind fun x=>(asL x).bind fun ys=>(fa ρ).bind fun as=>QJ ys as):=fun B H0 H σ ρ F R Q A d=>by
 refine he B H0 H σ ρ F R _ A (d.bind.imp (fun x _ d v H1 s1 r1=>?_) fun e q=>q)
 obtain⟨F1,f1,p1,A1⟩:=r1
 obtain⟨ys,rfl,d2⟩:=Dn.asL d.bind
 obtain⟨a,vs,rfl,hn,hr⟩:=id p1
 refine⟨.inl ⟨rfl,vs,JC (S:=fun _=>True) hn⟩,ha B H0 H1 σ ρ F1 R _ A1 (d2.bind.imp (fun as _ d us H2 F2 s2 f2 p2 A2=>?_) fun e q=>q)⟩
 unfold QJ at d
 split at d
 ·rename_i b _
  split at d
  ·rename_i bs hb
   split at d
   ·rename_i hc
    obtain⟨u,rfl,hu⟩:=VV p2
    have hu:u=.bl b:=hu
    subst hu
    obtain⟨a',vs',e,hn',hr'⟩:=p1.same s2
    cases e
    rw[Q0 hb] at hr'
    have:=Qp hr'
    subst this
    exact⟨a,bs,b,rfl,rfl,JC (S:=fun _=>True) hn',hc.1,hc.2,d _ H2 (s1.trans s2) ⟨F2,fun i z h=>f1 i z (f2 i z h),rfl,rfl,A2⟩⟩
   ·exact d.elim
  ·exact d.elim
 ·exact d.elim
end
theorem Qr {xs:List PV}{y:PV} (h:xs.length<1000000):pApp (.lst xs) y=.ok (.lst (xs++[y])):=if_pos h
theorem ZmD {a b:PV}:asT 2 (.tup [a,b])=.ok [a,b]:=rfl
noncomputable def Znn:Nat:=4000000
def Zl5 (i j:Int):Prop:=i.natAbs<2^Znn/\j.natAbs<2^Znn
noncomputable instance (i j:Int):Decidable (Zl5 i j):=by unfold Zl5;infer_instance
end L2
namespace Att
open PySem PySem.W PySem.Calls PyProof.Rows
end Att
namespace L2
open PySem PySem.Spec PyProof.Rows
section
end
theorem Zkx {x y z:PV}{xs:List PV}:pIx (.tup (x::y::z::xs)) (.int 2)=.ok z:=by
 have:atI (x::y::z::xs) 2=some z:=by unfold atI;rw[ZbX (by omega) (by simp only[ZtK];omega)];rfl
 simp only[pIx,this]
section
end
theorem JK {xs:List PV}:ZiP [.lst xs]=.ok (.int xs.length):=by simp[ZiP]
theorem ZiQ {xs:List PV}{k:Int} (h0:0<=k) (h1:k<xs.length):pIx (.lst xs) (.int k)=.ok (xs.getD k.toNat .non):=by
 simp only[pIx,atI,ZbX h0 h1,Zuw]
 rw[Zt5,Zt6 (by omega)]
 rfl
section
end
structure Dat (n:Nat) (x:PV):Prop where
 nx:x.noX=true
 can:x.dat.canLay0=true
 dep:x.dat.depth<=n
theorem Dat.ok {n:Nat}{x:PV} (h:Dat n x) (hn:n<=64:=by decide):okD x=true:=by
 unfold okD
 rw[h.nx,h.can,decide_eq_true (ZtS h.dep hn)];rfl
theorem ZcR (i:Int):Dat 0 (.int i):=⟨rfl,by simp[PV.dat,PyData.canLay0],by simp[PV.dat,PyData.depth]⟩
theorem Zbn {n:Nat}:∀{xs:List PV},(∀x∈xs,Dat n x)->PV.noXs xs=true/\PyData.canLayAll0 (PV.dats xs)=true/\PyData.depthAll (PV.dats xs)<=n
 |[],_=>⟨rfl,rfl,Zuk _⟩
 |x::xs,h=>by
  obtain⟨h1,h2,h3⟩:=Zbn (xs:=xs) fun y hy=>h y (by simp[hy])
  have hx:=h x (by simp)
  refine⟨by simp[PV.noXs,hx.nx,h1],by simp[PV.dats,PyData.canLayAll0,hx.can,h2], ?_⟩
  simp only[PV.dats,PyData.depthAll]
  exact Nat.max_le.mpr ⟨hx.dep,h3⟩
theorem Zgm {n:Nat}{xs:List PV} (h:∀x∈xs,Dat n x):Dat (n+1) (.lst xs):=by
 obtain⟨h1,h2,h3⟩:=Zbn h
 exact⟨by simp[PV.noX,h1],by simp[PV.dat,PyData.canLay0,h2],by simp only[PV.dat,PyData.depth];omega⟩
theorem Zgl {n:Nat}{xs:List PV} (h:∀x∈xs,Dat n x):Dat (n+1) (.tup xs):=by
 obtain⟨h1,h2,h3⟩:=Zbn h
 exact⟨by simp[PV.noX,h1],by simp[PV.dat,PyData.canLay0,h2],by simp only[PV.dat,PyData.depth];omega⟩
theorem ZcQ {a:Str} (h:PyData.canLay0 (.str a)=true):Dat 0 (.str a):=⟨rfl,h,by simp[PV.dat,PyData.depth]⟩
theorem ZkA {α:Type}{f:PV->Rr PV}{q:α->PV}{g:α->Int}{L:List α} (h:∀x∈L,f (q x)=.ok (.int (g x))):Zbc f (L.map q)=.ok ((L.map g).map PV.int):=by
 induction L with
 |nil=>rfl
 |cons n ns ih =>
  simp only[ZtI,Zbc,h n (by simp),Rr.bind_ok,ih fun z hz=>h z (by simp[hz])]
theorem Ziq {α:Type}{f:PV->Rr PV}{q g:α->PV}{L:List α} (h:∀x∈L,f (q x)=.ok (g x)):Zbc f (L.map q)=.ok (L.map g):=by
 induction L with
 |nil=>rfl
 |cons n ns ih =>
  simp only[ZtI,Zbc,h n (by simp),Rr.bind_ok,ih fun z hz=>h z (by simp[hz])]
theorem Zhd {α:Type}{q:α->PV}{L:List α}{k:Int}{d:α} (h0:0<=k) (h1:k<L.length):pIx (.lst (L.map q)) (.int k)=.ok (q (L.getD k.toNat d)):=by
 rw[ZiQ h0 (by simpa using h1),Zt5,Zt5,ZtL,Zt6 (by omega)]
 rfl
section
end
theorem us1 {α:Type}{us:List α} (h:us.length=1):∃a,us=[a]:=match us,h with | [a],_=>⟨a,rfl⟩
theorem us2 {α:Type}{us:List α} (h:us.length=2):∃a b,us=[a,b]:=match us,h with | [a,b],_=>⟨a,b,rfl⟩
theorem us3 {α:Type}{us:List α} (h:us.length=3):∃a b c,us=[a,b,c]:=match us,h with | [a,b,c],_=>⟨a,b,c,rfl⟩
theorem us4 {α:Type}{us:List α} (h:us.length=4):∃a b c d,us=[a,b,c,d]:=match us,h with | [a,b,c,d],_=>⟨a,b,c,d,rfl⟩
theorem us5 {α:Type}{us:List α} (h:us.length=5):∃a b c d e,us=[a,b,c,d,e]:=match us,h with | [a,b,c,d,e],_=>⟨a,b,c,d,e,rfl⟩
section
end
noncomputable abbrev PL2:=Addr×List Int
section
end
end L2
namespace L2
open PySem PyProof.Rows
structure Zn0 (prog:Program) (w:World) (A:Around) (s:Shared) (κ:SortKind) (U:Keyed->Prop) (R:Keyed->Keyed->Bool) (Ok:Keyed->Keyed->Prop):Prop where
 ask:∀x y,U x->U y->Ok x y->∀(Q:Bool->Shared->Prop),Q (R x y) s->wpAny (model prog w) A (keyLt' κ x.1 y.1) Q (fun _ _=>False) s
 asy:∀x y,U x->U y->R x y=true->R y x=false
 tr:∀x y z,U x->U y->U z->R y x=false->R z y=false->R z x=false
section
variable {U:Keyed->Prop}{R:Keyed->Keyed->Bool}{Ok:Keyed->Keyed->Prop}
structure Zni (U:Keyed->Prop) (R:Keyed->Keyed->Bool) (Ok:Keyed->Keyed->Prop) (left:Bool) (key:Keyed) (arr:Array Keyed) (base n:Nat) (P:Nat->Bool):Prop where
 uk:U key
 it:∀i,i<n->∃x,arr[base+i]?=some x/\U x/\(if left=true then Ok x key else Ok key x)/\P i=(if left=true then R x key else !R key x)
 mono:∀i j,i<=j->j<n->P j=true->P i=true
end
def Srt (R:Keyed->Keyed->Bool) (l:List Keyed):Prop:=l.Pairwise fun x y=>R y x=false
structure MI (R:Keyed->Keyed->Bool) (a b o:List Keyed) (i j:Nat):Prop where
 perm:o.Perm (a.take i++b.take j)
 srt:Srt R o
 ga:∀x∈o,∀y∈a.drop i,R y x=false
 gb:∀x∈o,∀y∈b.drop j,R y x=false
 hi:i<=a.length
 hj:j<=b.length
section
variable {U:Keyed->Prop}{R:Keyed->Keyed->Bool}{Ok:Keyed->Keyed->Prop}
structure MLo (U:Keyed->Prop) (R:Keyed->Keyed->Bool) (Ok:Keyed->Keyed->Prop) (a b:Array Keyed):Prop where
 ua:∀x∈a.toList,U x
 ub:∀x∈b.toList,U x
 ok:∀x∈b.toList,∀y∈a.toList,Ok x y
 sa:Srt R a.toList
 sb:Srt R b.toList
 na:0<a.size
 nb:0<b.size
 fst:∀x y,b.toList[0]?=some x->a.toList[0]?=some y->R y x=false
 lst:∀x∈b.toList,∀y,a.toList[a.size-1]?=some y->R y x=false
end
section
section
end
end
structure MH (R:Keyed->Keyed->Bool) (a b q:List Keyed) (i j:Nat):Prop where
 perm:q.Perm (a.drop i++b.drop j)
 srt:Srt R q
 ga:∀x∈a.take i,∀y∈q,R y x=false
 gb:∀x∈b.take j,∀y∈q,R y x=false
 hi:i<=a.length
 hj:j<=b.length
section
end
section
section
end
end
section
end
noncomputable def gA (X:Array Keyed) (i:Nat):Keyed:=X.getD i (.none,.none)
def Up (R:Keyed->Keyed->Bool) (X:Array Keyed) (lo m:Nat):Prop:=∀i j,i<j->j<m->R (gA X (lo+j)) (gA X (lo+i))=false
def Dn' (R:Keyed->Keyed->Bool) (X:Array Keyed) (lo m:Nat):Prop:=∀i j,i<j->j<m->R (gA X (lo+i)) (gA X (lo+j))=false
structure Znv (X Y:Array Keyed) (lo m:Nat):Prop where
 perm:Y.Perm X
 out:∀k,k<lo\/lo+m<=k->Y[k]?=X[k]?
def Sep (Ok:Keyed->Keyed->Prop) (X:Array Keyed) (e:Nat):Prop:=∀p q,p<e->e<=q->q<X.size->Ok (gA X q) (gA X p)
section
variable {U:Keyed->Prop}
def Znz (U:Keyed->Prop) (X:Array Keyed):Prop:=∀i,i<X.size->U (gA X i)
variable {R0 R:Keyed->Keyed->Bool}{Ok:Keyed->Keyed->Prop}
def Eqv (R:Keyed->Keyed->Bool) (X:Array Keyed) (lo a b:Nat):Prop:=∀i j,a<=i->i<b->a<=j->j<b->R (gA X (lo+i)) (gA X (lo+j))=false
structure Zn1 (R0 R:Keyed->Keyed->Bool) (Ok:Keyed->Keyed->Prop):Prop where
 up:∀x y,R0 x y=true->R x y=true
 ok:∀x y,Ok x y->R x y=R0 x y
structure Fal (R0 R:Keyed->Keyed->Bool) (X Y:Array Keyed) (lo q k:Nat):Prop where
 t:Znv X Y lo q
 d:Dn' R Y lo q
 e:Eqv R0 Y lo q k
 st:∀i j,i<q->q<=j->j<k->R0 (gA Y (lo+j)) (gA Y (lo+i))=true
 qk:q<k
end
noncomputable abbrev Znw:=Nat×Nat×Nat
def UpS (R:Keyed->Keyed->Bool) (Ok:Keyed->Keyed->Prop) (X:Array Keyed) (c n:Nat):Prop:=Up R X c n/\Sep Ok X c
noncomputable def Znh (R:Keyed->Keyed->Bool) (Ok:Keyed->Keyed->Prop) (X:Array Keyed):Nat->List Znw->Nat->Prop
 |s,[],e=>s=e
 |s,(c,n,_)::r,e=>c=s/\0<n/\UpS R Ok X c n/\Znh R Ok X (s+n) r e
section
variable {κ:SortKind}{U:Keyed->Prop}{R:Keyed->Keyed->Bool}{Ok:Keyed->Keyed->Prop}
structure RSt (κ:SortKind) (U:Keyed->Prop) (R:Keyed->Keyed->Bool) (Ok:Keyed->Keyed->Prop) (X:Array Keyed) (lo hi:Nat) (st':SortSt):Prop where
 kd:kindOf st'=κ
 fl:failedOf st'=none
 pm:(arrOf st').Perm X
 us:Znz U (arrOf st')
 rn:Znh R Ok (arrOf st') 0 (pendingOf st').toList lo
 le:lo<=X.size
 lh:lo<=hi
 sp:∀e,e=lo\/hi<=e->Sep Ok (arrOf st') e
end
end L2
namespace L2
open PySem PySem.Spec PyProof.Rows
section
end
noncomputable def minus (H:Hp) (G:List Addr):Hp:=fun a=>if a∈G then none else H a
theorem Zba {H:Hp}{G:List Addr}{a:Addr} (h:a∈G):minus H G a=none:=if_pos h
theorem ZE {H:Hp}{G:List Addr}{a:Addr} (h:a ∉ G):minus H G a=H a:=if_neg h
theorem Za3 {H:Hp}{G:List Addr}:Z5 (minus H G) H:=fun a o h=>by
 unfold minus at h
 split at h
 ·cases h
 ·exact h
theorem Rd.minus {H:Hp}{G:List Addr}{a:Addr}{u:HO} (h:Rd H a u) (n:a ∉ G):Rd (minus H G) a u:=by
 rcases h with h|⟨o,h⟩
 ·exact .inl (by rw[ZE n];exact h)
 ·exact .inr ⟨o,by rw[ZE n];exact h⟩
theorem Im.minus {K:W.Frag}{H:Hp}{G:List Addr}{a:Addr}{k:HO} (hG:∀b∈G,∃vs:LvO,H b=some vs.1) (h:Im K H a k):Im K (minus H G) a k:=by
 refine⟨?_,h.2⟩
 rw[ZE fun z=>?_]
 ·exact h.1
 ·obtain⟨vs,q⟩:=hG a z
  exact Qs vs.2 h.2 (by rw[h.1] at q;exact Option.some.inj q)
section
variable {K:W.Frag}{B:Addr->Prop}{H0 H H':Hp}{σ:St}{Γ:List Md}{ρ:List PV}{F:Nat->List Addr}
theorem Ag.lost {G:List Addr} (A:Ag K B H0 H σ Γ ρ F (G++[])) (s:Z5 (minus H G) H'):Ag K B H0 H' σ Γ ρ F []:=by
 have hG:∀b∈G,∃vs:LvO,H b=some vs.1:=fun b hb=>A.liveR b (by simp[hb])
 refine⟨fun a o h=>s a o ?_,A.own,A.young,by simp,fun i a ha=>?_,by simp,A.disj,by simp,A.lenS,A.lenR,fun i=>?_⟩
 ·rw[ZE (fun z=>by have:=A.youngR a (by simp[z]);rw[h] at this;cases this)]
  exact A.same a o h
 ·obtain⟨vs,q⟩:=A.live i a ha
  exact⟨vs,s _ _ (by rw[ZE (fun z=>A.disjR i a ha (by simp[z]))];exact q)⟩
 ·refine(A.slot i).mono (fun a vs n r=>⟨(r.minus (fun z=>n.2.1 (by simp[z]))).same s,n.1,by simp,n.2.2⟩) (fun a vs r=>s.im (r.minus hG)) fun a ha vs q=>s _ _ (by rw[ZE (fun z=>A.disjR i a ha (by simp[z]))];exact q)
end
noncomputable def frz (m:Md):Md:=if m=.O\/m=.T then .S else m
section
variable {K:W.Frag}{B:Addr->Prop}{H0 H:Hp}{σ:St}{Γ:List Md}{ρ:List PV}{F:Nat->List Addr}{R:List Addr}
theorem Ag.freezeAll (A:Ag K B H0 H σ Γ ρ F R):Ag K B H0 H σ (Γ.map frz) ρ (fun _=>[]) R:=by
 refine⟨A.same,A.own,by simp,A.youngR,by simp,A.liveR,by simp,by simp,by simp[A.lenS],by simp[A.lenR],fun i=>?_⟩
 have sl:=A.slot i
 have e:(Γ.map frz).getD i .U=frz (Γ.getD i .U):=by
  rw[Zt5,Zt5,ZtL]
  cases Γ[i]?<;>rfl
 rw[e]
 have up:∀{a},NO B F R a->NO B (fun _=>[]) R a:=fun {a} s=>⟨s.1,s.2.1,by simp⟩
 have ow:∀a∈F i,NO B (fun _=>[]) R a:=fun a ha=>⟨A.own a (A.young i a ha),A.disjR i a ha,by simp⟩
 cases hm:Γ.getD i .U with
 |U=>exact rfl
 |P=>rw[hm] at sl;exact⟨rfl,sl.2⟩
 |S =>
  rw[hm] at sl
  obtain⟨_,v,h1,h2⟩:=sl
  exact⟨rfl,v,h1,Rep.mono (fun a vs s r=>⟨r,up s⟩) (fun a vs r=>r) h2⟩
 |T =>
  rw[hm] at sl
  obtain⟨a,vs,xs,h1,h2,h3,h4,h5⟩:=sl
  refine⟨rfl,.ref a,h1, ?_⟩
  rw[h2]
  exact⟨a,vs,rfl,.inl ⟨.inl h3,ow a (by rw[h5];simp)⟩,Reps.mono (fun a vs s r=>⟨r,up s⟩) (fun a vs r=>r) h4⟩
 |O =>
  rw[hm] at sl
  obtain⟨v,h1,h2⟩:=sl
  exact⟨rfl,v,h1,h2.rep ow⟩
end
end L2
namespace HL
open PySem PyProof.Rows
section
open PySem.SeqAt
open PySem.AutoSeq1 (wpAny_loadPart')
open PySem.MeetsSeq PySem.MeetsSeq2 PySem.MeetsSeq3 SeqRoads2
end
section
end
end HL
namespace L2
open PySem PySem.Spec PyProof.Rows
section
end
def G0 (K:W.Frag) (B:Addr->Prop) (H0 H:Hp) (σ:St) (Γb:List Md) (ρ:List PV) (L v:Nat) (a:Addr) (vs:List V) (xs:List PV) (G Gx:List Addr):Prop:=
 Ag K B H0 H σ Γb ρ (fun _=>[]) (a::(G++Gx))/\σ[L]?=some (some (.ref a))/\gv L ρ=.lst xs/\H a=some (.lst vs)/\Trees K H xs vs G/\a ∉ G/\∃w,σ[v]?=some (some w)/\vs[0]?=some w/\xs[0]?=some (gv v ρ)
section
end
structure CkC (N:List Str) (sc scope:Scope) (x:Str):Prop where
 one:((scope.names.filter fun p=>p.2==.cell).map fun p=>p.1)=[x]
 kind:scope.kind=.function
 locs:∀p∈scope.names,p.2=.local->scope.names.lookup p.1=some .local
 var:scope.names.lookup x=some .cell
 nd:(N.map (Zmn [x])++[x]).Nodup
 noN:∀y∈N,y ∉ [x]->scope.names.lookup y≠some .local/\scope.names.lookup y≠some .cell
 noE:scope.names.lookup (Str.ofString "")=none
 fr:∀p∈scope.names,p.2=.free->sc.names.lookup p.1=some .cell\/sc.names.lookup p.1=some .free
section
end
section
open Builtin Builtin.Str
end
section
variable {K:W.Frag}{B:Addr->Prop}{EX:PX->Hp->Prop}{H0 H:Hp}{σ:St}{Γ Γ':List Md}{ρ:List PV}{F:Nat->List Addr}{R:List Addr}
theorem Zjz {ta:TA}{fa:List PV->Rr (List PV)} (ha:DAA K EX Γ Γ' ta fa):DE K EX Γ Γ' .A (Zl7 ta) (fun ρ=>(fa ρ).bind mkL):=fun B H0 H σ ρ F R Q A d=>by
 refine ha B H0 H σ ρ F R _ A (d.bind.imp (fun xs _ d vs H1 F1 s1 f1 p1 A1=>?_) fun e q=>q)
 obtain⟨hl,d⟩:=Dn.mkL d
 refine⟨by rw[p1.length];exact Uv hl,fun p hp=>?_⟩
 have e:=Z5.new (H:=H1) (o:=.lst vs) hp
 exact d _ _ (s1.trans e) ⟨F1,f1,⟨p,vs,rfl,.inl ⟨.inl Z0,trivial⟩,p1.same e⟩,A1.grow e⟩
end
section
variable {κ:Type} [DecidableEq κ]
noncomputable def ZeF (kvs:List (κ×V)) (k:κ):Option V:=(kvs.find? fun kv=>decide (kv.1=k)).map (·.2)
noncomputable def ZeA (kvs:List (κ×V)) (k:κ) (v:V):List (κ×V):=
 if (kvs.any fun kv=>decide (kv.1=k))=true then kvs.map (fun kv=>if kv.1=k then (kv.1,v) else kv) else kvs++[(k,v)]
theorem Qm {p:κ×V}{r:List (κ×V)}{k:κ} (e:p.1=k):ZeF (p::r) k=some p.2:=by simp[ZeF,Zuu,e]
theorem Qn {p:κ×V}{r:List (κ×V)}{k:κ} (e:¬p.1=k):ZeF (p::r) k=ZeF r k:=by simp[ZeF,Zuu,e]
theorem Zde (k:κ):∀kvs:List (κ×V),(kvs.any fun kv=>decide (kv.1=k))=(ZeF kvs k).isSome
 |[]=>rfl
 |p::r=>by
  rw[ZuG]
  by_cases e:p.1=k
  ·simp only[Qm e,decide_eq_true e,Bool.true_or,Option.isSome_some]
  ·rw[Qn e,decide_eq_false e,Bool.false_or];exact Zde k r
theorem QP (kvs:List (κ×V)) (k:κ) (v:V):(ZeA kvs k v).length<=kvs.length+1:=by
 unfold ZeA
 split
 ·rw[Zt7];omega
 ·rw[Zud,ZtK,Zuq];omega
theorem ZaF.isSome_eq {o:Option V}{u:Option Value} (r:ZaF o u):o.isSome=u.isSome:=by
 cases o with
 |none=>cases u with
  |none=>rfl
  |some _=>exact(show False from r).elim
 |some _=>cases u with
  |none=>exact(show False from r).elim
  |some _=>rfl
theorem KV.val {kvs:List (κ×V)}{vs:List (κ×Value)} (r:KV kvs vs) (k:κ):ZaF (ZeF kvs k) (valueAt vs k):=by
 unfold KV at r
 induction r with
 |nil=>exact True.intro
 |@cons p q ps qs h t ih =>
  obtain⟨h1,h2⟩:=h
  by_cases e:p.1=k
  ·have e':q.1=k:=h1.symm.trans e
   have b:valueAt (q::qs) k=some q.2:=by simp[valueAt,Zuu,e']
   rw[Qm e,b];exact h2
  ·have e':¬q.1=k:=fun z=>e (h1.trans z)
   have b:valueAt (q::qs) k=valueAt qs k:=by simp[valueAt,Zuu,e']
   rw[Qn e,b];exact ih
theorem KV.any {kvs:List (κ×V)}{vs:List (κ×Value)} (r:KV kvs vs) (k:κ):(kvs.any fun kv=>decide (kv.1=k))=vs.any fun kv=>decide (kv.1=k):=by
 unfold KV at r
 induction r with
 |nil=>rfl
 |cons h t ih=>rw[ZuG,ZuG,ih,h.1]
theorem KV.repl {kvs:List (κ×V)}{vs:List (κ×Value)} (r:KV kvs vs) (k:κ) {y:V}{u:Value} (ry:Jp y u) :
  KV (kvs.map fun kv=>if kv.1=k then (kv.1,y) else kv) (vs.map fun kv=>if kv.1=k then (kv.1,u) else kv):=by
 unfold KV at r ⊢
 induction r with
 |nil=>exact .nil
 |@cons p q ps qs h t ih =>
  rw[ZtI,ZtI]
  refine .cons ?_ ih
  obtain⟨h1,h2⟩:=h
  by_cases e:p.1=k
  ·rw[if_pos e,if_pos (h1.symm.trans e)];exact⟨h1,ry⟩
  ·rw[if_neg e,if_neg (fun z=>e (h1.trans z))];exact⟨h1,h2⟩
theorem KV.put {kvs:List (κ×V)}{vs:List (κ×Value)} (r:KV kvs vs) (k:κ) {y:V}{u:Value} (ry:Jp y u):KV (ZeA kvs k y) (stored vs k u):=by
 unfold ZeA stored
 rw[r.any k]
 by_cases e:(vs.any fun kv=>decide (kv.1=k))=true
 ·rw[if_pos e,if_pos e];exact r.repl k ry
 ·rw[if_neg e,if_neg e];exact Paired.snoc r ⟨rfl,ry⟩
theorem KV.length {kvs:List (κ×V)}{vs:List (κ×Value)} (r:KV kvs vs):kvs.length=vs.length:=Paired.length r
end
theorem Zhw {P:Program}{w:World}{k:Key}{u:Value} (r:Jp (kV k) u):(Jy P w).is k u=true:=by
 cases k with
 |inl i=>obtain⟨t,e⟩:=(show ∃t,u=Value.int i t from r);subst e;exact ZcA P w i t
 |inr x=>obtain⟨t,e⟩:=(show ∃t,u=Value.str x t from r);subst e;exact Zc9 P w x t
theorem ZbY {P:Program}{w:World}:∀{ks:List Key}{us:List Value},ZT (ks.map kV) us->ItemsAre (Jy P w) ks us
 |[],_,r=>by rw[Zu0] at r;cases r;exact .nil
 |k::ks,_,r=>by
  rw[ZtI] at r
  cases r with
  |cons h t=>exact .cons (Zhw h) (ZbY t)
noncomputable abbrev KT (H:Hp):List (List Key×V)->List (List Key×Addr×Value)->Prop:=Paired fun p q=>p.1=q.1/\H q.2.1=some (.tup (p.1.map kV))/\Jp p.2 q.2.2
theorem KT.val {H:Hp}{kvs:List (List Key×V)}{xs:List (List Key×Addr×Value)} (r:KT H kvs xs) (k:List Key):ZaF (ZeF kvs k) ((atKey xs k).map (·.2)):=by
 induction r with
 |nil=>exact True.intro
 |@cons p q ps qs h t ih =>
  obtain⟨h1,_,h2⟩:=h
  by_cases e:p.1=k
  ·have e':q.1=k:=h1.symm.trans e
   have b:atKey (q::qs) k=some q.2:=by simp[atKey,Zuu,e']
   rw[Qm e,b];exact h2
  ·have e':¬q.1=k:=fun z=>e (h1.trans z)
   have b:atKey (q::qs) k=atKey qs k:=by simp[atKey,Zuu,e']
   rw[Qn e,b];exact ih
theorem KT.repl {H:Hp}{kvs:List (List Key×V)}{xs:List (List Key×Addr×Value)} (r:KT H kvs xs) (k:List Key) {y:V}{u:Value} (ry:Jp y u) :
  KT H (kvs.map fun kv=>if kv.1=k then (kv.1,y) else kv) (xs.map (putAt k u)):=by
 induction r with
 |nil=>exact .nil
 |@cons p q ps qs h t ih =>
  rw[ZtI,ZtI]
  refine .cons ?_ ih
  obtain⟨h1,h2,h3⟩:=h
  unfold putAt
  by_cases e:p.1=k
  ·rw[if_pos e,if_pos (h1.symm.trans e)];exact⟨h1,h2,ry⟩
  ·rw[if_neg e,if_neg (fun z=>e (h1.trans z))];exact⟨h1,h2,h3⟩
theorem KT.put {H:Hp}{kvs:List (List Key×V)}{xs:List (List Key×Addr×Value)} (r:KT H kvs xs) (k:List Key) {b:Addr}{y:V}{u:Value} (hb:H b=some (.tup (k.map kV))) (ry:Jp y u) :
  KT H (ZeA kvs k y) (storedH xs k b u):=by
 have e:(kvs.any fun kv=>decide (kv.1=k))=(atKey xs k).isSome:=by
  rw[Zde,(r.val k).isSome_eq,Option.isSome_map]
 unfold ZeA storedH
 rw[e]
 by_cases q:(atKey xs k).isSome=true
 ·rw[if_pos q,if_pos q];exact r.repl k ry
 ·rw[if_neg q,if_neg q];exact Paired.snoc r ⟨rfl,hb,ry⟩
theorem KT.keeps {H H':Hp}{kvs:List (List Key×V)}{xs:List (List Key×Addr×Value)} (r:KT H kvs xs) (ht:∀b ys,H b=some (.tup ys)->H' b=some (.tup ys)):KT H' kvs xs:=
 Paired.mapP r fun _ _ z=>⟨z.1,ht _ _ z.2.1,z.2.2⟩
section
variable {P:Program}{w:World}{H:Hp}{h:Heap}{a:Addr}
theorem Zkj {u:HO} (ok:HOk P w H h) (e:Rd H a u):Jz P w H h a u:=e.ok ok
theorem ZhC {kvs:List (Key×V)} (ok:HOk P w H h) (e:Rd H a (.dK kvs)):kvs.length<=sizeLine/\(a==sysModules)=false/\∃vs,KV kvs vs/\h.DictOf (Jy P w) a vs:=
 show Jz P w H h a (.dK kvs) from Zkj ok e
theorem Zmp {kvs:List (Key×V)} (ok:HOk P w H h) (e:H a=some (.dK kvs)):kvs.length<=sizeLine/\(a==sysModules)=false/\∃vs,KV kvs vs/\h.DictOf (Jy P w) a vs:=ZhC ok (.inl e)
theorem ZdD {ks:List Key} (ok:HOk P w H h) (e:H a=some (.tup (ks.map kV))):(tupleKind (Jy P w)).is h ks a:=by
 obtain⟨_,its,r,o,h1,h2,n,h3⟩:=(show Jz P w H h a (.tup (ks.map kV)) from ok a _ e)
 exact⟨o,its.toArray,n,h1,h2,h3,by simpa using ZbY r⟩
theorem Zh7 {kvs:List (List Key×V)} (ok:HOk P w H h) (e:Rd H a (.dT kvs)):kvs.length<=sizeLine/\(a==sysModules)=false /\
  ∃xs,KT H kvs xs/\h.DictOfH (tupleKind (Jy P w)) a xs:=by
 obtain⟨z,y,xs,r,o,es,ep,h1,h2,h3,h4,h5⟩:=(show Jz P w H h a (.dT kvs) from Zkj ok e)
 refine⟨z,y,xs,r,o,es,ep,h1,h2,h3,h4,fun x hx=>?_,h5⟩
 have all:∀{l:List (List Key×V)}{m:List (List Key×Addr×Value)},KT H l m->∀x∈m,(tupleKind (Jy P w)).is h x.1 x.2.1:=by
  intro l m q
  induction q with
  |nil=>intro x hx;exact nomatch hx
  |@cons p q ps qs hq t ih =>
   intro x hx
   rcases ZtE.mp hx with e|hx
   ·subst e
    exact ZdD ok (by rw[<- hq.1];exact hq.2.1)
   ·exact ih x hx
 exact all r x hx
theorem Zmo {kvs:List (List Key×V)} (ok:HOk P w H h) (e:H a=some (.dT kvs)):kvs.length<=sizeLine/\(a==sysModules)=false /\
  ∃xs,KT H kvs xs/\h.DictOfH (tupleKind (Jy P w)) a xs:=Zh7 ok (.inl e)
end
def ZjO (H:Hp) (a:Addr) (y:V) (r:Option V):Prop:=
 (∃kvs k,Rd H a (.dK kvs)/\y=kV k/\r=ZeF kvs k)\/∃kvs k b,Rd H a (.dT kvs)/\y=.ref b/\H b=some (.tup (k.map kV))/\r=ZeF kvs k
def Znm (H:Hp) (a:Addr) (y v:V) (H':Hp):Prop:=
 (∃kvs k,H a=some (.dK kvs)/\y=kV k/\kvs.length<sizeLine/\H'=upd H a (.dK (ZeA kvs k v))) \/
 ∃kvs k b,H a=some (.dT kvs)/\y=.ref b/\H b=some (.tup (k.map kV))/\kvs.length<sizeLine/\H'=upd H a (.dT (ZeA kvs k v))
section
variable {X:Cx}{pins:List (Addr×Obj)}{σ:St}{H:Hp}{s:Shared}{a:Addr}{y v:V}{u r:Value}{o:Option V}{A:Around}{E:Value->Shared->Prop}
theorem Inv.big (I:Inv X pins σ H s):sysModules<s.heap.objs.size:=by
 have h:mainGlobals<s.heap.objs.size:=(I.mod.glob.keeps I.bk).lt
 exact Nat.lt_trans (by decide) h
theorem Zgp {Q:Value->Shared->Prop} (hu:A.units+1<cLine) (I:Inv X pins σ H s) (g:ZjO H a y (some v)) (ry:Jp y u) (h:∀w' s',Inv X pins σ H s'->Jp v w'->Q w' s') :
  wpAny (model X.prog X.w) A (getItem (.ref a) u) Q E s:=by
 rcases g with ⟨kvs,k,e,ey,l⟩|⟨kvs,k,b,e,ey,eb,l⟩
 ·subst ey
  obtain⟨z,hd,vs,rel,dd⟩:=ZhC I.hok e
  obtain⟨w',hw,rw'⟩:=ZaF.some_of (v:=v) (o:=valueAt vs k) (by rw[l];exact rel.val k)
  exact wpAny_getItem_of (Zhw ry) dd.mapOf hw (h w' _ (I.tok _) rw')
 ·subst ey
  cases (show u=Value.ref b from ry)
  obtain⟨z,hd,xs,rel,dd⟩:=Zh7 I.hok e
  obtain⟨w',hw,rw'⟩:=ZaF.some_of (v:=v) (o:=(atKey xs k).map (·.2)) (by rw[l];exact rel.val k)
  obtain⟨p,hp,hp2⟩:=Option.map_eq_some_iff.mp hw
  refine wpAny_getItem_heap (tupleKind_room_in1 hu) (ZdD I.hok eb) dd hp ?_
  rw[hp2]
  exact h w' _ (I.tok _) rw'
theorem Zns {Q:Value->Shared->Prop} (hu:A.units+1<cLine) (I:Inv X pins σ H s) (g:ZjO H a y o) (ry:Jp y u) (h:∀s',Inv X pins σ H s'->Q (.bool o.isSome) s') :
  wpAny (model X.prog X.w) A (compareOp .In u (.ref a)) Q E s:=by
 rcases g with ⟨kvs,k,e,ey,l⟩|⟨kvs,k,b,e,ey,eb,l⟩
 ·subst ey
  obtain⟨z,hd,vs,rel,dd⟩:=ZhC I.hok e
  refine wpAny_in_of (Zhw ry) hd dd.mapOf ?_
  rw[<- (rel.val k).isSome_eq,<- l]
  exact h _ (I.tok _)
 ·subst ey
  cases (show u=Value.ref b from ry)
  obtain⟨z,hd,xs,rel,dd⟩:=Zh7 I.hok e
  refine wpAny_in_heap (tupleKind_room_in1 hu) (ZdD I.hok eb) hd dd ?_
  have q:=(rel.val k).isSome_eq
  rw[Option.isSome_map] at q
  rw[<- q,<- l]
  exact h _ (I.tok _)
theorem Zgn {h':Heap}{t':Nat}{ob:HO} (I:Inv X pins σ H s) (mu:Mut (H a)) (hs:Heap.SameBut a s.heap h') (he:∃q,h'.get? a=some q) (new:Jz X.prog X.w (upd H a ob) h' a ob) :
  Inv X pins σ (upd H a ob) { s with heap:=h',toks:=t' }:=
 I.write (x:=a) (e:=a) mu (.inl rfl) (fun b q hb z=>(hs.2 b hb).trans z) he new
theorem ZkZ {P:Program}{w:World}{H':Hp}{h':Heap}{kvs:List (Key×V)}{vs:List (Key×Value)} (z:kvs.length<=sizeLine) (hd:(a==sysModules)=false) (rel:KV kvs vs) (dd:h'.DictOf (Jy P w) a vs) :
  Jz P w H' h' a (.dK kvs):=⟨z,hd,vs,rel,dd⟩
theorem Zgo {H':Hp}{Q:Unit->Shared->Prop} (hu:A.units+1<cLine) (I:Inv X pins σ H s) (g:Znm H a y v H') (ry:Jp y u) (rv:Jp v r) (h:∀s',Inv X pins σ H' s'->Q () s') :
  wpAny (model X.prog X.w) A (setItem (.ref a) u r) Q E s:=by
 rcases g with ⟨kvs,k,e,ey,l,eH⟩|⟨kvs,k,b,e,ey,eb,l,eH⟩
 ·subst ey eH
  obtain⟨z,hd,vs,rel,dd⟩:=Zmp I.hok e
  have hz:vs.length<=sizeLine:=by rw[<- rel.length];exact z
  have hl:(ZeA kvs k v).length<=sizeLine:=by have:=QP kvs k v;omega
  refine wpAny_setItem_pairs (hsz:=hz) (Zhw ry) dd fun h' dd' hs=>h _ ?_
  have he:∃q,h'.get? a=some q:=let ⟨q,_,_,hq,_⟩:=dd';⟨q,hq⟩
  exact Zgn I (by rw[e];exact True.intro) hs he (ZkZ hl hd (rel.put k rv) dd')
 ·subst ey eH
  cases (show u=Value.ref b from ry)
  obtain⟨z,hd,xs,rel,dd⟩:=Zmo I.hok e
  have hz:xs.length<=sizeLine:=by rw[<- Paired.length rel];exact z
  have hl:(ZeA kvs k v).length<=sizeLine:=by have:=QP kvs k v;omega
  refine wpAny_setItem_heap (hsz:=hz) (tupleKind_room_in1 hu) (ZdD I.hok eb) dd fun h' dd' hs=>h _ ?_
  obtain⟨q,es,ep,hq,h2,h3,h4,_,h5⟩:=dd'
  refine Zgn I (by rw[e];exact True.intro) hs ⟨q,hq⟩ ⟨hl,hd,_,(rel.put k eb rv).keeps fun c ys ec=>?_,q,es,ep,hq,h2,h3,h4,h5⟩
  rw[Zq (Zk7 ec e (fun z=>nomatch z))]
  exact ec
end
def Znj (i:Expr):Prop:=∀ov iv,subscripted i false ov iv=operate [ov,iv] (getItem ov iv)
theorem Zi7 {prog:Program}{w:World}{A:Around}{E:Value->Shared->Prop}{s:Shared}{env:Env}{value slice:Expr}{pos:Pos}{T id:String}{Q:Value->Shared->Prop}
  (hl:typeLookup (.type T) "__getitem__"=pure (some (.builtin id))) (hs:Znj slice)
  (h:wpAny (model prog w) A (eval value env) (fun o s₁=>wpAny (model prog w) A (eval slice env) (fun i s₂=>s₂.TypeIs o T/\wpAny (model prog w) A (getItem o i) Q E s₂) E s₁) E s) :
  wpAny (model prog w) A (eval (.Subscript value slice pos) env) Q E s:=by
 refine Subscript_ (wpAny_mono h (fun o s₁ h₁=>wpAny_mono h₁ (fun i s₂ h₂=>?_) fun _ _ x=>x) fun _ _ x=>x)
 obtain⟨hT,h₂⟩:=h₂
 unfold subscriptTail
 refine wpAny_bind ?_
 rw[getitemInPython_of_ne hT.not_modules]
 refine wpAny_bind (wpAny_specialOf hT hl ?_)
 have fin:wpAny (model prog w) A (subscripted slice false o i) (fun r s₃=>wpAny (model prog w) A (letTemporaryGo value o r >>= fun _=>pure r) Q E s₃) E s₂:=by
  rw[hs o i]
  exact wpAny_operating (wpAny_mono h₂ (fun r s₃ h₃=>wpAny_bind (wpAny_letTemporaryGo (wpAny_pure h₃))) fun _ _ x=>x)
 first
  |exact wpAny_pure (wpAny_bind fin)
  |exact wpAny_bind (wpAny_pure (wpAny_bind fin))
  |exact wpAny_bind fin
theorem ZcL {X:Cx}{pins:List (Addr×Obj)}{σ:St}{H:Hp}{s:Shared}{a:Addr}{y:V}{o:Option V} (I:Inv X pins σ H s) (g:ZjO H a y o):s.TypeIs (.ref a) "dict":=by
 rcases g with ⟨kvs,k,e,_,_⟩|⟨kvs,k,b,e,_,_,_⟩
 ·obtain⟨_,_,vs,_,dd⟩:=ZhC I.hok e
  exact dd.typeIs
 ·obtain⟨_,_,xs,_,dd⟩:=Zh7 I.hok e
  exact dd.typeIs
noncomputable def Zkb (td ty:TE):TE:=fun σ H Q=>td σ H fun x H1=>ty σ H1 fun y H2=>∃a v,x=.ref a/\ZjO H2 a y (some v)/\Q v H2
noncomputable def ZmO (ty td:TE):TE:=fun σ H Q=>ty σ H fun y H1=>td σ H1 fun x H2=>∃a o,x=.ref a/\ZjO H2 a y o/\Q (.bl o.isSome) H2
noncomputable def Zkh (td ty tv:TE):TS:=fun D σ H=>tv σ H fun v H1=>td σ H1 fun x H2=>ty σ H2 fun y H3=>∃a H4,x=.ref a/\Znm H3 a y v H4/\D.nx σ H4
section
variable {X:Cx}{o i value:Expr}{pos pos':Pos}{td ty tv:TE}
theorem ZiL (hu:X.A.units+1<cLine) (ho:PE X o td) (hi:PE X i ty) (hs:Znj i):PE X (.Subscript o i pos) (Zkb td ty):=by
 intro pins s σ H Q I h
 refine Zi7 PySem.F.slot_dict_getitem.lookup hs (thn (ho pins s σ H _ I h) fun u s1 ⟨x,H1,I1,rx,q1⟩=>thn (hi pins s1 σ H1 _ I1 q1) fun iv s2 ⟨y,H2,I2,ry,a,v,ex,g,q2⟩=>?_)
 subst ex
 obtain rfl:u=Value.ref a:=rx
 exact⟨ZcL I2 g,Zgp hu I2 g ry fun w' s3 I3 rw'=>⟨v,H2,I3,rw',q2⟩⟩
theorem Zkv (hu:X.A.units+1<cLine) (hi:PE X i ty) (ho:PE X o td):PC X .In i o (ZmO ty td):=by
 intro pins s σ H Q I h
 refine thn (hi pins s σ H _ I h) fun iv s1 ⟨y,H1,I1,ry,q1⟩=>thn (ho pins s1 σ H1 _ I1 q1) fun u s2 ⟨x,H2,I2,rx,a,ov,ex,g,q2⟩=>?_
 subst ex
 obtain rfl:u=Value.ref a:=rx
 exact Zns hu I2 g ry fun s3 I3=>⟨.bl ov.isSome,H2,I3,rfl,q2⟩
theorem ZiF (hu:X.A.units+1<cLine) (ho:PE X o td) (hi:PE X i ty) (hv:PE X value tv) (hs:swapsWith value (some (.Subscript o i pos')) pos.line X.env=pure false) :
  PS X (.Assign [.Subscript o i pos'] value pos) (Zkh td ty tv):=by
 intro pins s σ H D I h
 refine wpAny_Assign_Subscript (thn (hv pins s σ H _ I h) fun r s1 ⟨v,H1,I1,rv,q1⟩=>thn (ho pins s1 σ H1 _ I1 q1) fun u s2 ⟨x,H2,I2,rx,q2⟩=>thn (hi pins s2 σ H2 _ I2 q2) fun iv s3 ⟨y,H3,I3,ry,a,H4,ex,g,q3⟩=>?_) hs
 subst ex
 obtain rfl:u=Value.ref a:=rx
 exact Zgo hu I3 g ry rv fun s4 I4=>⟨σ,H4,I4,q3⟩
end
theorem Zh8 {P:Program}{w:World}{H:Hp} (h:Heap) (hb:sysModules<h.objs.size):Jz P w H (h.push { cls:=.type "dict",data:=.dict #[] }) h.objs.size (.dT []):=
 ⟨Zuk _,beq_eq_false_iff_ne.mpr (Ne.symm (ZtP hb)),[],.nil,_,#[],0,Heap.get?_push_size _ rfl,⟨rfl,rfl,rfl⟩,rfl,rfl,List.nodup_nil⟩
noncomputable def Zia:TE:=fun _ H Q=>∀p,H p=none->Q (.ref p) (upd H p (.dT []))
section
variable {X:Cx}{pos:Pos}
theorem ZgY:PE X (.Dict [] [] pos) Zia:=fun pins s σ H Q I h =>
 wpAny_Dict_empty ⟨.ref s.heap.objs.size,_,I.laid (a:=s.heap.objs.size) (o:=.dT []) (t':=s.toks) (fun _ _ q=>Heap.get?_push_of_some _ q) (ZtD _) (Zh8 s.heap I.big),rfl,h _ (I.hok.fresh (ZtD _))⟩
end
noncomputable def Zjc:Key->PV
 |.inl i=>.int i
 |.inr x=>.str x
noncomputable def Zex:PV->Option Key
 |.int i=>some (.inl i)
 |.str x=>some (.inr x)
 |_=>none
noncomputable def US:List PV->Option (List Key)
 |[]=>some []
 |x::xs=>match Zex x,US xs with
  |some k,some ks=>some (k::ks)
  |_,_=>none
theorem Zbd {x:PV}{k:Key} (h:Zex x=some k):x=Zjc k:=by
 cases x<;>first|(cases h;rfl)|cases h
theorem QT:∀{xs:List PV}{ks:List Key},US xs=some ks->xs=ks.map Zjc
 |[],ks,h=>by cases h;rfl
 |x::xs,ks,h=>by
  unfold US at h
  split at h
  ·rename_i k ks' h1 h2
   cases h
   rw[Zbd h1,QT h2];rfl
  ·cases h
@[simp] theorem ZjK (k:Key):Zex (Zjc k)=some k:=by cases k<;>rfl
@[simp] theorem UI:∀ks:List Key,US (ks.map Zjc)=some ks
 |[]=>rfl
 |k::ks=>by simp[US,UI ks]
section
variable {K:W.Frag}{H:Hp}{S:Addr->Prop}
theorem Zc2 {k:Key}{v:V} (h:Rep K H S (Zjc k) v):v=kV k:=by cases k<;>exact h
theorem Q8:∀{ks:List Key}{vs:List V},Reps K H S (ks.map Zjc) vs->vs=ks.map kV
 |[],_,h=>h
 |k::ks,_,h=>by
  obtain⟨v,r,rfl,h1,h2⟩:=h
  rw[Zc2 h1,Q8 h2];rfl
end
section
variable {κ:Type} [DecidableEq κ] {α:Type}
noncomputable def atK:List κ->List α->κ->Option α
 |k'::ks,x::xs,k=>if k'=k then some x else atK ks xs k
 |_,_,_=>none
noncomputable def Zei:List κ->List α->κ->α->List α
 |k'::ks,x::xs,k,y=>(if k'=k then y else x)::Zei ks xs k y
 |_,_,_,_=>[]
noncomputable def Zmj (k:κ) (ks:List κ):Bool:=decide (k∈ks)
theorem ZfA {k:κ}{ks:List κ} (h:Zmj k ks=false):k ∉ ks:=of_decide_eq_false h
noncomputable def UC (ks:List κ) (k:κ):List κ:=if k∈ks then ks else ks++[k]
noncomputable def putXs (ks:List κ) (xs:List α) (k:κ) (y:α):List α:=if k∈ks then Zei ks xs k y else xs++[y]
theorem ZaO:∀{ks:List κ}{xs:List α}{k:κ}{y:α},ks.length=xs.length->(Zei ks xs k y).length=ks.length
 |[],[],_,_,_=>rfl
 |k'::ks,x::xs,k,y,h=>by simp[Zei,ZaO (ks:=ks) (xs:=xs) (k:=k) (y:=y) (by simpa using h)]
 |[],_::_,_,_,h=>by simp at h
 |_::_,[],_,_,h=>by simp at h
theorem ZaQ {ks:List κ}{xs:List α}{k:κ}{y:α} (h:ks.length=xs.length):(UC ks k).length=(putXs ks xs k y).length:=by
 unfold UC putXs
 split
 ·rw[ZaO h]
 ·simp[h]
theorem ZaK:∀{ks:List κ}{vs:List V}{k:κ},ks.length=vs.length->ZeF (ks.zip vs) k=atK ks vs k
 |[],[],_,_=>rfl
 |k'::ks,v::vs,k,h=>by
  rw[Zun]
  unfold atK
  by_cases e:k'=k
  ·rw[Qm e,if_pos e]
  ·rw[Qn e,if_neg e,ZaK (by simpa using h)]
 |[],_::_,_,h=>by simp at h
 |_::_,[],_,h=>by simp at h
theorem ZcY:∀{ks:List κ}{vs:List V}{k:κ},ks.length=vs.length->(((ks.zip vs).any fun kv=>decide (kv.1=k))=true ↔ k∈ks)
 |[],[],_,_=>by simp
 |k'::ks,v::vs,k,h=>by
  rw[Zun,ZuG,Bool.or_eq_true,ZcY (by simpa using h),ZtE,decide_eq_true_eq]
  exact⟨fun z=>z.imp Eq.symm id,fun z=>z.imp Eq.symm id⟩
 |[],_::_,_,h=>by simp at h
 |_::_,[],_,h=>by simp at h
theorem ZeX:∀{ks:List κ}{vs:List V}{k:κ}{y:V},ks.length=vs.length->((ks.zip vs).map fun kv=>if kv.1=k then (kv.1,y) else kv)=ks.zip (Zei ks vs k y)
 |[],[],_,_,_=>rfl
 |k'::ks,v::vs,k,y,h=>by
  rw[Zun,ZtI,ZeX (by simpa using h)]
  show _=(k'::ks).zip ((if k'=k then y else v)::Zei ks vs k y)
  by_cases e:k'=k
  ·rw[if_pos e,if_pos e];rfl
  ·rw[if_neg e,if_neg e];rfl
 |[],_::_,_,_,h=>by simp at h
 |_::_,[],_,_,h=>by simp at h
theorem Zdq {ks:List κ}{vs:List V}{k:κ}{y:V} (h:ks.length=vs.length):ZeA (ks.zip vs) k y=(UC ks k).zip (putXs ks vs k y):=by
 unfold ZeA UC putXs
 by_cases c:k∈ks
 ·rw[if_pos ((ZcY h).mpr c),if_pos c,if_pos c,ZeX h]
 ·rw[if_neg (fun z=>c ((ZcY h).mp z)),if_neg c,if_neg c,List.zip_append h];rfl
end
section
variable {κ:Type} [DecidableEq κ] {K:W.Frag}{H:Hp}{S:Addr->Prop}
theorem Zdn:∀{ks:List κ}{xs:List PV}{vs:List V}{k:κ},Reps K H S xs vs->match atK ks xs k with
  |some y=>∃v,atK ks vs k=some v/\Rep K H S y v
  |none=>atK ks vs k=none
 |[],xs,vs,k,h=>by simp[atK]
 |k'::ks,[],vs,k,h=>by rw[h];simp[atK]
 |k'::ks,x::xs,vs,k,h=>by
  obtain⟨v,r,rfl,h1,h2⟩:=h
  unfold atK
  by_cases e:k'=k
  ·rw[if_pos e,if_pos e];exact⟨v,rfl,h1⟩
  ·rw[if_neg e,if_neg e];exact Zdn h2
theorem Zaw:∀{ks:List κ}{xs:List PV}{vs:List V}{G:List Addr}{k:κ}{y:PV}{w:V},ks.length=xs.length->Trees K H xs vs G->Jc K H y w []->∃G',(∀a∈G',a∈G)/\Trees K H (Zei ks xs k y) (Zei ks vs k w) G'
 |[],[],vs,G,k,y,w,_,h,_=>⟨[],by simp,by rw[h.1];exact⟨rfl,rfl⟩⟩
 |k'::ks,x::xs,vs,G,k,y,w,hl,h,hy=>by
  obtain⟨v,r,G1,G2,rfl,h1,h2,h3,rfl⟩:=h
  obtain⟨G',g1,g2⟩:=Zaw (ks:=ks) (k:=k) (y:=y) (w:=w) (by simpa using hl) h2 hy
  unfold Zei
  by_cases e:k'=k
  ·rw[if_pos e,if_pos e]
   exact⟨G',fun a ha=>Zt9 _ (g1 a ha),w,_,[],G',rfl,hy,g2,by simp,rfl⟩
  ·rw[if_neg e,if_neg e]
   refine⟨G1++G',fun a ha=>?_,v,_,G1,G',rfl,h1,g2,fun a ha z=>h3 a ha (g1 a z),rfl⟩
   rcases ZtA.mp ha with z|z
   ·exact Zt8 _ z
   ·exact Zt9 _ (g1 a z)
 |[],_::_,_,_,_,_,_,hl,_,_=>by simp at hl
 |_::_,[],_,_,_,_,_,hl,_,_=>by simp at hl
theorem Jc.flatG {x:PV}{v:V}{G:List Addr} (f:x.flat=true) (h:Jc K H x v G):Jc K H x v []:=Rep.tree f (h.rep (S:=fun _=>True) fun _ _=>trivial)
end
section
variable {K:W.Frag}{B:Addr->Prop}{EX:PX->Hp->Prop}{H0 H H':Hp}{σ:St}{Γ Γ' Γ1 Γ2 Γ3:List Md}{ρ:List PV}{F F':Nat->List Addr}{R:List Addr}{ta tb:TE}{f fa fb:List PV->Rr PV}{k:Kd}
theorem Res.newBox {H1:Hp}{F1:Nat->List Addr}{s:Sh}{xs:List PV}{vs:List V}{u:HO}{p:Addr}{S:Addr->Prop} (s1:Z5 H H1) (f1:∀i,∀a∈F1 i,a∈F i) (hb:ZjQ K s vs u) (p1:Reps K H1 S xs vs) (hx:PV.flats xs=true) (A1:Ag K B H0 H1 σ Γ' ρ F1 R) (hp:H1 p=none) :
  Res K B H0 H σ Γ' ρ F R .F (.box none s xs) (.ref p) (upd H1 p u):=by
 have e:Z5 H1 (upd H1 p u):=Z5.new hp
 refine⟨F1,f1,[p],⟨p,vs,u,[],rfl,Z0,⟨trivial,hb⟩,(Reps.trees hx p1).same e,by simp,rfl⟩,fun a ha=>?_,A1.newB hb.lv hp⟩
 rw[ZtO.mp ha]
 exact⟨(A1.fresh hp).1,.inl (s1.free hp)⟩
theorem ZhJ:DE K EX Γ Γ .F Zia (fun _=>.ok (.box none (.dt []) [])):=fun B H0 H σ ρ F R Q A d p hp =>
 d _ _ (Z5.new hp) (Res.newBox (S:=fun _=>True) (vs:=[]) (Z5.refl _) (fun _ _ h=>h) ⟨rfl,rfl⟩ rfl rfl A hp)
noncomputable def dAt (x y:PV):Option (Option PV):=match x,y with
 |.box _ (.dk ks) xs,y=>(Zex y).map fun k=>atK ks xs k
 |.box _ (.dt ks) xs,.tup ys=>(US ys).map fun k=>atK ks xs k
 |_,_=>none
noncomputable def ZlC (g:Bool->Bool) (y x:PV):Rr PV:=match dAt x y with
 |some o=>.ok (.bl (g o.isSome))
 |none=>.bad
noncomputable def Zhh (x y:PV):Rr PV:=match dAt x y with
 |some (some z)=>.ok z
 |_=>.bad
theorem Zgq {x y:PV}{v w:V}{o:Option PV}{S:Addr->Prop} (hx:Rep K H S x v) (hy:Rep K H (fun _=>True) y w) (e:dAt x y=some o) :
  ∃a r,v=.ref a/\ZjO H a w r/\r.isSome=o.isSome/\∀z,o=some z->∃u,r=some u/\Rep K H S z u:=by
 have fin:∀{κ:Type} [DecidableEq κ] {ks:List κ}{xs:List PV}{vs:List V}{k:κ},Reps K H S xs vs->o=atK ks xs k->(atK ks vs k).isSome=o.isSome/\∀z,o=some z->∃u,atK ks vs k=some u/\Rep K H S z u:=fun {κ} _ {ks xs vs k} h e=>by
  have:=Zdn (ks:=ks) (k:=k) h
  rw[<- e] at this
  cases o with
  |none=>exact⟨by rw[this];rfl,fun z q=>by cases q⟩
  |some z =>
   obtain⟨u,e1,e2⟩:=this
   exact⟨by rw[e1];rfl,fun z' q=>by cases q;exact⟨u,e1,e2⟩⟩
 unfold dAt at e
 split at e
 ·rename_i p ks xs
  obtain⟨a,vs,u,rfl,hr,⟨_,hl,rfl⟩,hxs⟩:=hx
  cases ek:Zex y with
  |none=>rw[ek] at e;cases e
  |some k =>
   rw[ek] at e
   cases e
   rw[Zbd ek] at hy
   obtain⟨g1,g2⟩:=fin (ks:=ks) (k:=k) hxs rfl
   exact⟨a,atK ks vs k,rfl,.inl ⟨_,k,hr.1,Zc2 hy,(ZaK hl).symm⟩,g1,g2⟩
 ·rename_i p ks xs ys
  obtain⟨a,vs,u,rfl,hr,⟨_,hl,rfl⟩,hxs⟩:=hx
  cases ek:US ys with
  |none=>rw[ek] at e;cases e
  |some k =>
   rw[ek] at e
   cases e
   rw[QT ek] at hy
   obtain⟨b,ws,rfl,hb,hws⟩:=hy
   rw[Q8 hws] at hb
   obtain⟨g1,g2⟩:=fin (ks:=ks) (k:=k) hxs rfl
   exact⟨a,atK ks vs k,rfl,.inr ⟨_,k,b,hr.1,rfl,hb.1,(ZaK hl).symm⟩,g1,g2⟩
 ·cases e
theorem Zlh (ha:DE K EX Γ Γ1 .A ta fa) (hb:DE K EX Γ1 Γ2 .A tb fb):DE K EX Γ Γ2 .P (ZmO ta tb) (fun ρ=>(fa ρ).bind fun y=>(fb ρ).bind fun x=>ZlC id y x):=fun B H0 H σ ρ F R Q A d=>by
 refine two ha hb A d.bind2 fun y x w v H' F' d s f py px A'=>?_
 unfold ZlC at d
 cases e:dAt x y with
 |none=>rw[e] at d;exact d.elim
 |some o =>
  rw[e] at d
  obtain⟨a,r,rfl,g1,g2,_⟩:=Zgq px py e
  exact⟨a,r,rfl,g1,by rw[g2];exact d _ _ s ⟨F',f,rfl,rfl,A'⟩⟩
theorem Zj0 (ha:DE K EX Γ Γ1 .A ta fa) (hb:DE K EX Γ1 Γ2 .A tb fb):DE K EX Γ Γ2 .A (Zkb ta tb) (fun ρ=>(fa ρ).bind fun x=>(fb ρ).bind fun y=>Zhh x y):=fun B H0 H σ ρ F R Q A d=>by
 refine two ha hb A d.bind2 fun x y v w H' F' d s f px py A'=>?_
 unfold Zhh at d
 cases e:dAt x y with
 |none=>rw[e] at d;exact d.elim
 |some o =>
  rw[e] at d
  cases o with
  |none=>exact d.elim
  |some z =>
   obtain⟨a,r,rfl,g1,_,g3⟩:=Zgq px py e
   obtain⟨u,rfl,hu⟩:=g3 z rfl
   exact⟨a,u,rfl,g1,d _ _ s ⟨F',f,hu,A'⟩⟩
noncomputable def Zfv (x y z:PV):Rr PV:=match x,y with
 |.box p (.dk ks) xs,y=>match Zex y with
  |some k=>if xs.length<1000000/\(Zmj k ks=false\/z.flat=true) then .ok (.box p (.dk (UC ks k)) (putXs ks xs k z)) else .bad
  |none=>.bad
 |.box p (.dt ks) xs,.tup ys=>match US ys with
  |some k=>if xs.length<1000000/\(Zmj k ks=false\/z.flat=true) then .ok (.box p (.dt (UC ks k)) (putXs ks xs k z)) else .bad
  |none=>.bad
 |_,_=>.bad
theorem Zb2 {κ:Type} [DecidableEq κ] {ks:List κ}{xs:List PV}{vs:List V}{k:κ}{y:PV}{w:V}{G G2:List Addr} (hl:ks.length=xs.length) (h:Trees K H xs vs G) (hy:Jc K H y w G2) (hd:∀a∈G,a ∉ G2) (hk:k∈ks->y.flat=true) :
  ∃G',(∀a∈G',a∈G\/a∈G2)/\Trees K H (putXs ks xs k y) (putXs ks vs k w) G':=by
 unfold putXs
 by_cases c:k∈ks
 ·rw[if_pos c,if_pos c]
  obtain⟨G',g1,g2⟩:=Zaw (k:=k) hl h (hy.flatG (hk c))
  exact⟨G',fun a ha=>.inl (g1 a ha),g2⟩
 ·rw[if_neg c,if_neg c]
  exact⟨G++G2,fun a ha=>ZtA.mp ha,Trees.append h (Trees.one hy) hd⟩
theorem Zh9 {i:Nat}{tv:TE}{fv:List PV->Rr PV} (hm:Γ1[i]?=some .O) (hv:DE K EX Γ Γ1 .F tv fv) (hk:DE K EX Γ1 Γ1 .A tb fb) :
  DS K EX Γ ⟨Γ1,Γ2,Γ3,k⟩ (Zkh (UA i) tb tv) (fun ρ=>(fv ρ).thenS fun z=>(fb ρ).thenS fun y=>(Zfv (gv i ρ) y z).thenS fun x=>.next (ρ.set i x)):=fun B H0 H σ ρ F D A d=>by
 refine hv B H0 H σ ρ F [] _ A (d.thenS.imp (fun z _ d w H1 s1 r1=>?_) fun e q=>q)
 obtain⟨F1,f1,G2,t1,o1,A1⟩:=r1
 obtain⟨v,h1,h2⟩:=A1.getO hm
 refine⟨v,h1,hk B H0 H1 σ ρ F1 (G2++[]) _ A1 (d.thenS.imp (fun y _ d yv H2 s2 r2=>?_) fun e q=>q)⟩
 obtain⟨F2,f2,p2,A2⟩:=r2
 obtain⟨v',h1',h2'⟩:=A2.getO hm
 rw[h1] at h1';cases h1'
 have d:=d.thenS
 have t2:=t1.same s2
 have core:∀{p:Option Addr}{s s':Sh}{xs xs':List PV}{a:Addr}{vs vs':List V}{u u':HO}{G G':List Addr},ρ.getD i .non=.box p s xs->H2 a=some u->Zl2 p a->Trees K H2 xs vs G->a ∉ G->F2 i=a::G->ZjQ K s' vs' u'->Trees K H2 xs' vs' G'->(∀b∈G',b∈G\/b∈G2) ->
   σ[i]?=some (some (.ref a))->DnS K B EX ⟨Γ1,Γ2,Γ3,k⟩ H0 H F D (.next (ρ.set i (.box p s' xs')))->D.nx σ (upd H2 a u'):=fun {p s s' xs xs' a vs vs' u u' G G'} er hH hpn ht hn hF hb ht' hsub hσ d=>by
  have haF:a∈F2 i:=by rw[hF];simp
  have na2:a ∉ G2:=fun z=>A2.disjR i a haF (Zt8 _ z)
  have hna:a ∉ G':=fun z=>(hsub a z).elim hn na2
  have hsub2:∀b∈a::G',b∈F2 i\/b∈G2:=fun b hb=>by
   rcases ZtE.mp hb with rfl|hb
   ·exact .inl haF
   ·rcases hsub b hb with z|z
    ·exact .inl (by rw[hF];simp[z])
    ·exact .inr z
  obtain⟨lv,hlv⟩:=A2.live i a haF
  refine d σ _ (VY F2 i (a::G')) (QY (s1.trans s2) (fun j b hb=>f1 j b (f2 j b hb)) haF fun b hb=>?_) (Ag.chgB hb.lv (G:=G2) (R:=[]) A2 hm haF hsub2 (by simp) ?_)
  ·rcases hsub2 b hb with z|z
   ·exact .inr ⟨i,f1 i b (f2 i b z)⟩
   ·exact(o1 b z).2
  ·exact⟨_,hσ,a,vs',u',G',rfl,Z0,⟨hpn,hb⟩,Trees.putL hlv hna ht',hna,rfl⟩
 unfold Zfv at d
 split at d
 ·rename_i p ks xs er _ _
  rw[show ρ.getD i .non=.box p (.dk ks) xs from er] at h2'
  obtain⟨a,vs,u,G,rfl,hH,⟨hpn,hl,rfl⟩,ht,hn,hF⟩:=h2'
  split at d
  ·rename_i kk ek
   split at d
   ·rename_i hc
    rw[Zbd ek] at p2
    have hl':ks.length=xs.length:=by rw[hl,ht.length]
    have dj:∀b∈G,b ∉ G2:=fun b hb z=>A2.disjR i b (by rw[hF];simp[hb]) (Zt8 _ z)
    obtain⟨G',g1,g2⟩:=Zb2 (k:=kk) hl' ht t2 dj (fun c=>hc.2.resolve_left (fun z=>ZfA z c))
    refine⟨a,_,rfl,.inl ⟨_,kk,hH,Zc2 p2, ?_,rfl⟩,core er hH hpn ht hn hF (s':=.dk (UC ks kk)) (vs':=putXs ks vs kk w) ⟨ZaQ hl, ?_⟩ g2 g1 h1 d⟩
    ·rw[ZuM,hl,Nat.min_self,ht.length];exact ZtC hc.1 (by decide)
    ·rw[Zdq hl]
   ·exact d.elim
  ·exact d.elim
 ·rename_i p ks xs ys er _ _
  rw[show ρ.getD i .non=.box p (.dt ks) xs from er] at h2'
  obtain⟨a,vs,u,G,rfl,hH,⟨hpn,hl,rfl⟩,ht,hn,hF⟩:=h2'
  split at d
  ·rename_i kk ek
   split at d
   ·rename_i hc
    rw[QT ek] at p2
    obtain⟨b,ws,rfl,hb,hws⟩:=p2
    rw[Q8 hws] at hb
    have hl':ks.length=xs.length:=by rw[hl,ht.length]
    have dj:∀b∈G,b ∉ G2:=fun b hb z=>A2.disjR i b (by rw[hF];simp[hb]) (Zt8 _ z)
    obtain⟨G',g1,g2⟩:=Zb2 (k:=kk) hl' ht t2 dj (fun c=>hc.2.resolve_left (fun z=>ZfA z c))
    refine⟨a,_,rfl,.inr ⟨_,kk,b,hH,rfl,hb.1, ?_,rfl⟩,core er hH hpn ht hn hF (s':=.dt (UC ks kk)) (vs':=putXs ks vs kk w) ⟨ZaQ hl, ?_⟩ g2 g1 h1 d⟩
    ·rw[ZuM,hl,Nat.min_self,ht.length];exact ZtC hc.1 (by decide)
    ·rw[Zdq hl]
   ·exact d.elim
  ·exact d.elim
 ·exact d.elim
end
section
variable {X:Cx}{K:W.Frag}
def Zic (K:W.Frag):List V->Hp->VK->Prop:=fun xs H Q=>∃p ys,xs=[.ref p]/\((SqL K H p ys/\∀l,H l=none->Q (.ref l) (upd H l (.tup ys)))\/(SqT K H p ys/\Q (.ref p) H))
theorem ZcU (e:X.K=K:=by rfl):Vg X (.type "tuple") (Zic K):=by subst e;exact Zbq
theorem Zgz:bootBuiltins "tuple"=some (.type "tuple"):=by decide +kernel
variable {B:Addr->Prop}{EX:PX->Hp->Prop}{H0 H:Hp}{σ:St}{Γ Γ':List Md}{ρ:List PV}{F:Nat->List Addr}{R:List Addr}{ta:TA}{fa:List PV->Rr (List PV)}
noncomputable def Zfl (xs:List PV):Rr PV:=match xs with
 |[.lst ys]=>.ok (.tup ys)
 |[.tup ys]=>.ok (.tup ys)
 |_=>.bad
theorem ZhE (ha:DAA K EX Γ Γ' ta fa):DE K EX Γ Γ' .A (tCB (Zic K) ta) (fun ρ=>(fa ρ).bind Zfl):=fun B H0 H σ ρ F R Q A d=>by
 refine ha B H0 H σ ρ F R _ A (d.bind.imp (fun xs _ d vs H1 F1 s1 f1 p1 A1=>?_) fun e q=>q)
 unfold Zfl at d
 split at d
 ·obtain⟨v,rfl,a,ws,rfl,hn,hr⟩:=VV p1
  refine⟨a,ws,rfl,.inl ⟨JC (S:=fun _=>True) hn,fun l hl=>?_⟩⟩
  have e:=Z5.new (H:=H1) (o:=.tup ws) hl
  exact d _ _ (s1.trans e) ⟨F1,f1,⟨l,ws,rfl,⟨Z0,trivial⟩,hr.same e⟩,A1.grow e⟩
 ·obtain⟨v,rfl,a,ws,rfl,hn,hr⟩:=VV p1
  exact⟨a,ws,rfl,.inr ⟨hn.sqT,d _ _ s1 ⟨F1,f1,⟨a,ws,rfl,hn,hr⟩,A1⟩⟩⟩
 ·exact d.elim
end
noncomputable def ins {α:Type}:Nat->α->List α->List α
 |0,v,us=>v::us
 |_+1,v,[]=>[v]
 |j+1,v,u::us=>u::ins j v us
theorem V4 {α:Type}:∀{j:Nat}{v:α}{us:List α},(ins j v us).length=us.length+1
 |0,_,_=>rfl
 |_+1,_,[]=>rfl
 |j+1,v,u::us=>by simp[ins,V4 (j:=j) (v:=v) (us:=us)]
theorem Uy {α:Type}:∀{j:Nat}{v:α}{us:List α} (i:Nat),j<=us.length->(ins j v us)[i]?=if i<j then us[i]? else if i=j then some v else us[i-1]?
 |0,v,us,0,_=>rfl
 |0,v,us,i+1,_=>by simp[ins]
 |j+1,v,[],_,h=>by simp at h
 |j+1,v,u::us,0,_=>rfl
 |j+1,v,u::us,i+1,h=>by
  have:=Uy (j:=j) (v:=v) (us:=us) i (by simpa using h)
  rw[ins,List.getElem?_cons_succ,this]
  by_cases c:i<j
  ·rw[if_pos c,if_pos (show i+1<j+1 by omega)];rfl
  ·by_cases e:i=j
   ·rw[if_neg c,if_pos e,if_neg (show ¬i+1<j+1 by omega),if_pos (show i+1=j+1 by omega)]
   ·rw[if_neg c,if_neg e,if_neg (show ¬i+1<j+1 by omega),if_neg (show ¬i+1=j+1 by omega)]
    obtain⟨m,rfl⟩:∃m,i=m+1:=⟨i-1,by omega⟩
    rfl
theorem Zcb {α β:Type}{f:α->β}:∀{j:Nat}{v:α}{us:List α},(ins j v us).map f=ins j (f v) (us.map f)
 |0,_,_=>rfl
 |_+1,_,[]=>rfl
 |j+1,v,u::us=>by simp[ins,Zcb (j:=j) (v:=v) (us:=us)]
theorem Zcc {α:Type}{r:List α}:∀{j:Nat}{v:α}{us:List α},j<=us.length->ins j v us++r=ins j v (us++r)
 |0,_,_,_=>rfl
 |_+1,_,[],h=>by simp at h
 |j+1,v,u::us,h=>by
  show u::(ins j v us++r)=u::ins j v (us++r)
  rw[Zcc (by simpa using h)]
section
variable {K:W.Frag}{H:Hp}
theorem Jc.pin {p:Option Addr}{s:Sh}{ys:List PV}{a:Addr}{G:List Addr} (h:Jc K H (.box p s ys) (.ref a) G):Jc K H (.box (some a) s ys) (.ref a) G:=by
 obtain⟨a',vs,u,G',e,h1,h2,h3⟩:=h
 cases e
 exact⟨a,vs,u,G',rfl,h1,⟨rfl,h2.2⟩,h3⟩
theorem Jc.unpin {p:Option Addr}{s:Sh}{ys:List PV}{v:V}{G:List Addr} (h:Jc K H (.box p s ys) v G):Jc K H (.box none s ys) v G:=by
 obtain⟨a',vs,u,G',e,h1,h2,h3⟩:=h
 exact⟨a',vs,u,G',e,h1,⟨trivial,h2.2⟩,h3⟩
theorem Jc.repin {p:Option Addr}{s:Sh}{ys:List PV}{a:Addr}{G:List Addr} (hp:Zl2 p a) (h:Jc K H (.box none s ys) (.ref a) G):Jc K H (.box p s ys) (.ref a) G:=by
 obtain⟨a',vs,u,G',e,h1,h2,h3⟩:=h
 cases e
 exact⟨a,vs,u,G',rfl,h1,⟨hp,h2.2⟩,h3⟩
theorem Jc.pinned {b:Addr}{s:Sh}{ys:List PV}{v:V}{G:List Addr} (h:Jc K H (.box (some b) s ys) v G):v=.ref b:=by
 obtain⟨a',vs,u,G',e,h1,h2,h3⟩:=h
 rw[e,show a'=b from h2.1]
end
noncomputable def spM (K:W.Frag) (n j:Nat) (m:PV->List PV->Rr PV):Sp:=fun vs H Q E=>∃(B:Addr->Prop) (xs:List PV) (us:List V) (a:Addr) (s:Sh) (ys:List PV) (G:List Addr),
 vs=ins j (.ref a) us/\xs.length=n/\Reps K H B xs us/\Jc K H (.box none s ys) (.ref a) G/\(∀b,B b->b ∉ G) /\
 Dn (m (.box none s ys) xs) (fun r=>∃y s' ys',r=.tup [y,.box none s' ys']/\∀u H' G1 G2,Z5 (minus H G) H'->Jc K H' y u G1->Jc K H' (.box none s' ys') (.ref a) G2->(∀b∈G1,b ∉ G2)->(∀b∈G1,minus H G b=none)->(∀b∈G2,minus H G b=none)->Q u H') (fun _=>False)
noncomputable def ZgE (a:Addr) (b:PV):PV:=match b with
 |.box _ s ys=>.box (some a) s ys
 |x=>x
noncomputable def ZlY (a:Addr) (r:Rr PV):Rr PV:=match r with
 |.ok (.tup [y,.box _ s ys])=>.ok (.tup [y,.box (some a) s ys])
 |.ok _=>.bad
 |.exc e=>.exc e
 |.bad=>.bad
noncomputable def RS.outN (j:Nat) (r:RS):Rr PV:=match r with
 |.next ρ=>.ok (.tup [.non,gv j ρ])
 |.ret x=>.ok x
 |.exc e=>.exc e
 |_=>.bad
section
variable {K:W.Frag}{B:Addr->Prop}{EX:PX->Hp->Prop}{H0 H:Hp}{σ:St}{Γ Γ' Γ1 Γ2 Γ3:List Md}{ρ:List PV}{F:Nat->List Addr}
theorem Ag.initM {s:Sh}{ys:List PV}{a:Addr}{G:List Addr}{xs:List PV}{us:List V}{j l:Nat} (ht:Jc K H (.box none s ys) (.ref a) G) (h:Reps K H B xs us) (hB:∀b,B b->b ∉ G) (hj:j<=xs.length) :
  Ag K (fun b=>B b\/minus H G b=none) (minus H G) H (ins j (some (.ref a)) (us.map some++List.replicate l none)) (ins j .O (List.replicate xs.length .S++List.replicate l .U)) (ins j (.box (some a) s ys) (xs++List.replicate l .non)) (VY (fun _=>[]) j G) []:=by
 have fin:∀i,∀b∈VY (fun _=>[]) j G i,i=j/\b∈G:=fun i b hb=>by
  unfold VY at hb
  split at hb
  ·exact⟨by assumption,hb⟩
  ·simp at hb
 have A:=Ag.init (n:=l) h
 refine⟨Za3,fun b h=>.inr h,fun i b hb=>Zba (fin i b hb).2,by simp,fun i b hb=>ht.alive b (fin i b hb).2,by simp,fun i k hik b hb z=>hik ((fin i b hb).1.trans (fin k b z).1.symm),by simp,by simp[V4,h.length],by simp[V4],fun i=>?_⟩
 have hjs:j<=(us.map some++List.replicate l (none:Option V)).length:=by simp[h.length];omega
 have hjg:j<=(List.replicate xs.length Md.S++List.replicate l Md.U).length:=by simp;omega
 have hjr:j<=(xs++List.replicate l PV.non).length:=by simp;omega
 rw[Zt5,Zt5,Uy i hjs,Uy i hjg,Uy i hjr]
 have go:∀q,q≠j\/True->VS K H (NO (fun b=>B b\/minus H G b=none) (VY (fun _=>[]) j G) []) ((List.replicate xs.length Md.S++List.replicate l Md.U)[q]?.getD .U) ((xs++List.replicate l PV.non)[q]?.getD .non) (us.map some++List.replicate l none)[q]? []:=fun q _=>by
  have sl:=A.slot q
  rw[Zt5,Zt5] at sl
  refine sl.mono (fun b u s r=>⟨r, ?_,by simp,fun k z=>?_⟩) (fun b u r=>r) (fun b hb=>by cases hb)
  ·rcases s.1 with s|s
   ·exact .inl s
   ·exact .inr (by
     by_cases q:b∈G
     ·exact Zba q
     ·rw[ZE q];exact s)
  ·have z:=(fin k b z).2
   rcases s.1 with s|s
   ·exact hB b s z
   ·obtain⟨vs,q⟩:=ht.alive b z
    rw[s] at q;cases q
 by_cases c:i<j
 ·rw[if_pos c,if_pos c,if_pos c,ZA (by omega)]
  exact go i (.inr trivial)
 ·rw[if_neg c,if_neg c,if_neg c]
  by_cases e:i=j
  ·rw[if_pos e,if_pos e,if_pos e]
   subst e
   rw[Zt]
   exact⟨_,rfl,ht.pin⟩
  ·rw[if_neg e,if_neg e,if_neg e,ZA e]
   exact go (i-1) (.inr trivial)
noncomputable def Zl9 (y x:PV):RS:=match x with
 |.box (some a) s xs=>.ret (.tup [y,.box (some a) s xs])
 |_=>.bad
theorem Zac {j:Nat}{te:TE}{f:List PV->Rr PV} (he:DE K EX Γ Γ' .F te f) (hm:Γ'[j]?=some .O):DS K EX Γ ⟨Γ3,Γ1,Γ2,.N⟩ (ZjG te) (fun ρ=>(f ρ).thenS fun y=>Zl9 y (gv j ρ)):=fun B H0 H σ ρ F D A d=>by
 refine he B H0 H σ ρ F [] _ A (d.thenS.imp (fun y _ d v H1 s1 r1=>?_) fun e q=>q)
 obtain⟨F1,f1,G,h1,h2,A1⟩:=r1
 unfold Zl9 at d
 split at d
 ·rename_i a s xs ex
  obtain⟨w,w1,w2⟩:=A1.getO hm
  rw[show ρ.getD j .non=.box (some a) s xs from ex] at w2
  have:=w2.pinned
  subst this
  exact d v H1 A1.same ⟨y,a,s,xs,G,F1 j,rfl,h1,w2,fun b hb z=>A1.disjR j b z (Zt8 _ hb),fun b hb=>A1.youngR b (Zt8 _ hb),fun b hb=>A1.young j b hb⟩
 ·exact d.elim
end
section
variable {P:Program}{w:World}{K:W.Frag}{mg:Str->Option Value}{base:Heap}
theorem Fun.okM {x qual:Str}{st:Stmt}{f:Addr}{fd:FuncData}{N ps:List Str}{k n l j:Nat}{m:PV->List PV->Rr PV} (F:Fun K x qual st f fd) (S:Zs N ps (Zd st)) (hn:ps.length=n+1) (hl:N.length-(n+1)=l) (hj:j<=n)
  (hbody:∀(cdv:Value) (A:Around) (outer:List Env) (s:Shared) (H:Hp) (E:XK),Vu k (A.deeper (envOfC qual (Zd st) s.heap.objs.size f cdv)) ->
   ∃t g Y,Y.r=.N/\Y.n[j]?=some .O/\PSs (Zby CX0 P w K mg base N qual (Zd st) f cdv A outer s H E).nox (Zn st) t/\DS K X0 (ins j .O (List.replicate n .S++List.replicate l .U)) Y t g /\
    ∀a b xs,Ref (ZlY a (m b xs)) ((g (ins j (ZgE a b) (xs++List.replicate l .non))).outN j)) :
  Jd P w K mg base CX0 (k+1) f fd ps (spM K n j m):=by
 refine F.ok S (fun vs H Q E h=>?_) (fun cdv A outer s H vs Q E hr h=>?_)
 ·obtain⟨B,xs,us,a,s,ys,G,rfl,h1,h2,_⟩:=h
  rw[V4,h2.length,h1,hn]
 ·obtain⟨B,xs,us,a,s',ys,G,rfl,h1,h2,h3,h4,dn⟩:=h
  obtain⟨t,g,Y,hY,hYn,ht,hd,href⟩:=hbody cdv A outer s H E hr
  refine⟨t,ht, ?_⟩
  have A0:=Ag.initM (l:=l) h3 h2 h4 (show j<=xs.length by omega)
  have est:VN N (ins j (.ref a) us)=ins j (some (.ref a)) (us.map some++List.replicate l none):=by
   unfold VN
   rw[V4,h2.length,h1,hl,Zcb,Zcc (by rw[Zt7,h2.length];omega)]
  rw[est]
  rw[h1] at A0
  refine hd _ (minus H G) H _ _ _ _ A0 ?_
  have hr:=href a (.box none s' ys) xs
  rw[show ZgE a (.box none s' ys)=.box (some a) s' ys from rfl] at hr
  cases em:m (.box none s' ys) xs with
  |bad=>rw[em] at dn;exact dn.elim
  |exc q=>rw[em] at dn;exact dn.elim
  |ok r =>
   rw[em] at dn hr
   obtain⟨y,s2,ys2,rfl,q⟩:=dn
   have ho:(g (ins j (.box (some a) s' ys) (xs++List.replicate l .non))).outN j=.ok (.tup [y,.box (some a) s2 ys2]):=by
    rcases hr with e|e
    ·cases e
    ·exact e.symm
   cases e:g (ins j (.box (some a) s' ys) (xs++List.replicate l .non)) with
   |next ρ =>
    rw[e] at ho
    have hy:PV.tup [.non,gv j ρ]=.tup [y,.box (some a) s2 ys2]:=by simpa[RS.outN] using ho
    simp only[PV.tup.injEq,List.cons.injEq,and_true] at hy
    obtain⟨rfl,hb⟩:=hy
    refine fun σ' H' F' fr A'=>?_
    obtain⟨v,w1,w2⟩:=A'.getO hYn
    rw[show ρ.getD j .non=.box (some a) s2 ys2 from hb] at w2
    have:=w2.pinned
    subst this
    exact q .non H' [] (F' j) A'.same ⟨rfl,rfl⟩ w2.unpin (by simp) (by simp) fun b hb=>A'.young j b hb
   |ret z =>
    rw[e] at ho
    have hy:z=.tup [y,.box (some a) s2 ys2]:=by simpa[RS.outN] using ho
    subst hy
    refine fun v H' s r=>?_
    rw[hY] at r
    obtain⟨y',a',s3,xs3,G1,G2,e1,r1,r2,r3,r4,r5⟩:=r
    simp only[PV.tup.injEq,List.cons.injEq,and_true,PV.box.injEq,Option.some.injEq] at e1
    obtain⟨rfl,rfl,rfl,rfl⟩:=e1
    exact q v H' G1 G2 s r1 r2.unpin r3 r4 r5
   |exc q=>rw[e] at ho;cases ho
   |brk ρ=>rw[e] at ho;cases ho
   |cont ρ=>rw[e] at ho;cases ho
   |bad=>rw[e] at ho;cases ho
end
def NoE {α:Type} (f:List PV->Rr α):Prop:=∀ρ e,f ρ≠.exc e
def DER (K:W.Frag) (Γ:List Md) (te:TE) (f:List PV->Rr PV):Prop:=NoE f /\
 ∀(B:Addr->Prop) (H0 H:Hp) (σ:St) (ρ:List PV) (F:Nat->List Addr) (R:List Addr) (Q:VK),Ag K B H0 H σ Γ ρ F R ->
  (∃x,f ρ=.ok x/\∀v,Rep K H (fun a=>a ∉ R) x v->Q v H)->te σ H Q
def DAR (K:W.Frag) (Γ:List Md) (ta:TA) (f:List PV->Rr (List PV)):Prop:=NoE f /\
 ∀(B:Addr->Prop) (H0 H:Hp) (σ:St) (ρ:List PV) (F:Nat->List Addr) (R:List Addr) (Q:List V->Hp->Prop),Ag K B H0 H σ Γ ρ F R ->
  (∃xs,f ρ=.ok xs/\∀vs,Reps K H (fun a=>a ∉ R) xs vs->Q vs H)->ta σ H Q
theorem bind_ok {α β:Type}{r:Rr α}{g:α->Rr β}{y:β} (h:r.bind g=.ok y):∃x,r=.ok x/\g x=.ok y:=by
 cases r with
 |ok x=>exact⟨x,rfl,h⟩
 |exc e=>cases h
 |bad=>cases h
theorem Zd7 {α β:Type}{f:List PV->Rr α}{g:List PV->α->Rr β} (h1:NoE f) (h2:∀ρ x e,g ρ x≠.exc e):NoE (fun ρ=>(f ρ).bind (g ρ)):=fun ρ e q=>by
 cases ef:f ρ with
 |ok x=>simp only[ef] at q;exact h2 ρ x e q
 |exc e'=>exact h1 ρ e' ef
 |bad=>simp only[ef] at q;cases q
section
variable {K:W.Frag}{B:Addr->Prop}{EX:PX->Hp->Prop}{H0 H H':Hp}{σ:St}{Γ Γ1 Γ2:List Md}{ρ:List PV}{F F':Nat->List Addr}{R:List Addr}{te:TE}{ta:TA}{f:List PV->Rr PV}{fa:List PV->Rr (List PV)}{i j n:Nat}{m:PV->List PV->Rr PV}
theorem Zgc {l:Nat}{md:Md} (h:Γ[l]?=some md) (hm:md≠.U):DER K Γ (UA l) (fun ρ=>.ok (gv l ρ)):=⟨fun ρ e q=>(by cases q),fun B H0 H σ ρ F R Q A d=>by
 obtain⟨x,e,d⟩:=d
 cases e
 cases md with
 |U=>exact absurd rfl hm
 |P=>obtain⟨v,h1,h2,h3⟩:=A.getP h;exact⟨v,h1,d v (h3.flatS h2)⟩
 |S=>obtain⟨v,h1,h2⟩:=A.getS h;exact⟨v,h1,d v (Rep.mono (fun a u s r=>⟨r,s.2.1⟩) (fun a u r=>r) h2)⟩
 |T =>
  obtain⟨a,vs,xs,h1,h2,h3,h4,h5⟩:=A.getT h
  refine⟨_,h1,d _ ?_⟩
  rw[show gv l ρ=.lst xs from h2]
  exact⟨a,vs,rfl,.inl ⟨.inl h3,A.disjR l a (by rw[h5];simp)⟩,Reps.mono (fun a u s r=>⟨r,s.2.1⟩) (fun a u r=>r) h4⟩
 |O=>obtain⟨v,h1,h2⟩:=A.getO h;exact⟨v,h1,d v (h2.rep fun a ha=>A.disjR l a ha)⟩⟩
theorem Zj2:DAR K Γ Zcx (fun _=>.ok []):=⟨fun ρ e q=>(by cases q),fun B H0 H σ ρ F R Q A d=>by
 obtain⟨x,e,d⟩:=d
 cases e
 exact d [] rfl⟩
theorem ZdX (he:DER K Γ te f) (ha:DAR K Γ ta fa):DAR K Γ (J4 te ta) (fun ρ=>(f ρ).bind fun x=>(fa ρ).bind fun xs=>.ok (x::xs)):=⟨Zd7 he.1 fun ρ x e q=>(Zd7 (g:=fun _ xs=>.ok (x::xs)) ha.1 fun _ y e q=>by cases q) ρ e q,fun B H0 H σ ρ F R Q A d=>by
 obtain⟨z,e,d⟩:=d
 obtain⟨x,e1,e⟩:=bind_ok e
 obtain⟨y,e2,e⟩:=bind_ok e
 cases e
 exact he.2 B H0 H σ ρ F R _ A ⟨x,e1,fun v hv=>ha.2 B H0 H σ ρ F R _ A ⟨y,e2,fun vs hvs=>d _ ⟨v,vs,rfl,hv,hvs⟩⟩⟩⟩
def DM (K:W.Frag) (EX:PX->Hp->Prop) (Γ:List Md) (i:Nat) (te:TE) (fm:List PV->Rr (PV×PV)):Prop:=
 ∀(B:Addr->Prop) (H0 H:Hp) (σ:St) (ρ:List PV) (F:Nat->List Addr) (Q:VK),Ag K B H0 H σ Γ ρ F [] ->
  Dn (fm ρ) (fun r=>∀v H' F' G,Frm H F H' F'->Jc K H' r.1 v G->(∀b∈G,H b=none\/∃l,b∈F l)->Ag K B H0 H' σ Γ (ρ.set i r.2) F' (G++[])->Q v H') (fun e=>∀H',Z5 H0 H'->EX e H')->te σ H Q
noncomputable def ZhP (m:PV->List PV->Rr PV) (x:PV) (xs:List PV):Rr (PV×PV):=match x with
 |.box p s ys=>match m (.box none s ys) xs with
  |.ok (.tup [y,.box none s' ys'])=>.ok (y,.box p s' ys')
  |_=>.bad
 |_=>.bad
theorem Zkg {α:Type}{l:List α}{i:Nat}{v:α} (h:l[i]?=some v):l.set i v=l:=by
 apply Zu2
 intro q
 by_cases e:i=q
 ·subst e;rw[ZtH (ZtN.mp h).1,h]
 ·rw[ZtJ e]
variable {fm:List PV->Rr (PV×PV)}{k:Kd}{l:Nat}
theorem J8 {F1:Nat->List Addr}{G:List Addr} (fr:Frm H F H' F1) (hG:∀a∈G,H a=none\/∃j,a∈F j):Frm H F H' (VY F1 l G):=fun b o h n=>by
 obtain⟨h1,h2⟩:=fr b o h n
 refine⟨h1,fun q z=>?_⟩
 by_cases e:q=l
 ·subst e;rw[Zt] at z
  rcases hG b z with w|⟨c,w⟩
  ·rw[h] at w;cases w
  ·exact n c w
 ·rw[ZA e] at z;exact h2 q z
theorem Zbi (he:DM K EX Γ i te fm) (hl:l<Γ.length):DS K EX Γ ⟨Γ.set l .P,Γ1,Γ2,k⟩ (ZgN te (Zat l)) (fun ρ=>(fm ρ).thenS fun r=>(grd r.1).thenS fun y=>.next ((ρ.set i r.2).set l y)):=fun B H0 H σ ρ F D A d=>by
 refine he B H0 H σ ρ F _ A (d.thenS.imp (fun r _ d v H1 F1 G fr t1 h1 A1=>?_) fun e q=>q)
 unfold grd at d
 split at d
 ·rename_i hf
  exact d _ H1 _ (J8 (G:=[]) fr (by simp)) (Ag.put (G:=[]) (R:=[]) (A1.less (by simp)) hl (by simp) ⟨rfl,v,rfl,hf,t1.rep fun _ _=>trivial⟩)
 ·exact d.elim
theorem ZdP (he:DM K EX Γ i te fm):DS K EX Γ ⟨Γ,Γ1,Γ2,k⟩ (Zcz te) (fun ρ=>(fm ρ).thenS fun r=>.next (ρ.set i r.2)):=fun B H0 H σ ρ F D A d=>by
 refine he B H0 H σ ρ F _ A (d.thenS.imp (fun r _ d v H1 F1 G fr t1 h1 A1=>?_) fun e q=>q)
 exact d _ H1 _ fr (A1.less (by simp))
end
noncomputable def Pm.fnM (m:Pm) (b:PV) (xs:List PV):Rr PV:=m.fn (b::xs)
theorem hu1 {n c:Nat} (h:n+64<c):n+1<c:=by omega
theorem Vo {m:PV->List PV->Rr PV}{p:Option Addr}{s s':Sh}{ys ys' xs:List PV}{y:PV} (h:m (.box none s ys) xs=.ok (.tup [y,.box none s' ys'])):ZhP m (.box p s ys) xs=.ok (y,.box p s' ys'):=by
 unfold ZhP
 simp only[h]
noncomputable def evK {α:Type} (lt:Nat->Nat->Bool):PySem.W.KasT α->α
 |.ret a=>a
 |.ask i j k=>evK lt (k (lt i j))
noncomputable def InK {α:Type} (n:Nat) (P:α->Prop):PySem.W.KasT α->Prop
 |.ret a=>P a
 |.ask i j k=>i<n/\j<n/\∀b,InK n P (k b)
section
variable {α β:Type}{n:Nat}{P:α->Prop}{R:β->Prop}
theorem InK.bind {f:α->PySem.W.KasT β}:∀{t:PySem.W.KasT α},InK n P t->(∀a,P a->InK n R (f a))->InK n R (t.bind f)
 |.ret a,h,k=>k a h
 |.ask i j c,h,k=>⟨h.1,h.2.1,fun b=>InK.bind (h.2.2 b) k⟩
theorem InK.out {lt:Nat->Nat->Bool}:∀{t:PySem.W.KasT α},InK n P t->P (evK lt t)
 |.ret a,h=>h
 |.ask i j c,h=>(InK.out (t:=c (lt i j)) (h.2.2 (lt i j)):P (evK lt (c (lt i j))))
theorem InK.wp {lt:Nat->Nat->Bool}{s:Shared}{cmp:Nat->Nat->(Bool->Shared->Prop)->Shared->Prop} (hc:∀i j C,i<n->j<n->C (lt i j) s->cmp i j C s) {G:α->Shared->Prop} :
  ∀{t:PySem.W.KasT α},InK n P t->G (evK lt t) s->t.kasWp cmp G s
 |.ret a,_,g=>g
 |.ask i j c,h,g=>hc i j _ h.1 h.2.1 (InK.wp hc (h.2.2 (lt i j)) g)
end
def Gp (n:Nat) (p:Array Nat):Prop:=p.Perm (List.toArray (List.range n))
theorem Gp.lt {n:Nat}{p:Array Nat} (h:Gp n p) (hn:0<n) (k:Nat):p.getD k 0<n:=by
 unfold Array.getD
 split
 ·rename_i hk
  have:p[k]∈List.toArray (List.range n):=h.mem_iff.mp (Array.getElem_mem hk)
  simpa using this
 ·exact hn
theorem Gp.rev {n:Nat}{p:Array Nat} (h:Gp n p) (i j:Nat):Gp n (PySem.W.kas_rev p i j):=(mirror_perm p i j _).trans h
theorem Gp.bub {n:Nat}{p:Array Nat} (h:Gp n p) (i j:Nat):Gp n (bubble p i j):=(bubble_perm p i j).trans h
section
variable {n:Nat}
theorem ZfO {p:Array Nat} (hn:0<n) (h:Gp n p):∀f m,InK n (fun _=>True) (PySem.W.kas_asc p f m)
 |0,m=>trivial
 |f+1,m=>⟨h.lt hn _,h.lt hn _,fun b=>by
  cases b
  ·exact ZfO hn h f (m+1)
  ·exact trivial⟩
theorem Zbf (hn:0<n):∀f p m q,Gp n p->InK n (fun r=>Gp n r.1) (PySem.W.kas_desc f p m q)
 |0,p,m,q,h=>h
 |f+1,p,m,q,h=>⟨h.lt hn _,h.lt hn _,fun b=>by
  cases b
  ·refine⟨h.lt hn _,h.lt hn _,fun d=>?_⟩
   cases d
   ·exact Zbf hn f p _ _ h
   ·exact h
  ·show InK n _ (if q>0 then _ else _)
   split
   ·exact Zbf hn f _ _ _ (h.rev _ _)
   ·exact Zbf hn f _ _ _ h⟩
theorem ZdI {p:Array Nat} (hn:0<n) (h:Gp n p) (a b:Nat):InK n (fun r=>Gp n r.2) (PySem.W.kas_tail3 a b p):=InK.bind (ZfO hn (h.rev _ _) _ _) fun _ _=>h.rev _ _
theorem QV {p:Array Nat} (hn:0<n) (h:Gp n p) (a b:Nat):InK n (fun r=>Gp n r.2) (PySem.W.kas_descPart a b p):=InK.bind (Zbf hn _ _ _ _ h) fun r hr=>by
 split
 ·exact ZdI hn (hr.rev _ _) _ _
 ·exact ZdI hn hr _ _
theorem Zhz {p:Array Nat} (hn:0<n) (h:Gp n p) (b:Nat):InK n (fun r=>Gp n r.2) (PySem.W.kas_count b p):=InK.bind (ZfO hn h _ _) fun m _=>by
 split
 ·exact h
 ·split
  ·refine⟨h.lt hn _,h.lt hn _,fun c=>?_⟩
   cases c
   ·exact QV hn (h.rev _ _) _ _
   ·exact h
  ·exact QV hn h _ _
theorem Zbe {p:Array Nat} (hn:0<n) (h:Gp n p) (k:Nat):∀f l r,InK n (fun _=>True) (PySem.W.kas_place p k f l r)
 |0,l,r=>trivial
 |f+1,l,r=>by
  unfold PySem.W.kas_place
  split
  ·trivial
  ·refine⟨h.lt hn _,h.lt hn _,fun c=>?_⟩
   cases c
   ·exact Zbe hn h k f _ _
   ·exact Zbe hn h k f _ _
theorem Ziu (hn:0<n):∀f p k,Gp n p->InK n (Gp n) (PySem.W.kas_bin f p k)
 |0,p,k,h=>h
 |f+1,p,k,h=>InK.bind (Zbe hn h k _ _ _) fun l _=>Ziu hn f _ _ (h.bub _ _)
theorem ZfN (hn:0<n):InK n (Gp n) (PySem.W.kas_sort n):=InK.bind (Zhz hn (Array.Perm.refl _) _) fun r hr=>by
 split
 ·exact Ziu hn _ _ _ hr
 ·exact hr
end
noncomputable def Ui (n:Nat) (lt:Nat->Nat->Bool):List Nat:=if n<2 then List.range n else (evK lt (PySem.W.kas_sort n)).toList
theorem Vh (n:Nat) (lt:Nat->Nat->Bool):(Ui n lt).Perm (List.range n):=by
 unfold Ui
 split
 ·exact List.Perm.refl _
 ·have:Gp n (evK lt (PySem.W.kas_sort n)):=InK.out (ZfN (by omega))
  simpa using this.toList
theorem Zax {α:Type}{vs:List α}{d:α}:(List.range vs.length).map (fun i=>vs.getD i d)=vs:=by
 refine List.ext_getElem (by simp) fun i h1 h2=>?_
 simp[Zt5,h2]
section
variable {prog:Program}{w:World}{A:Around}{E:Value->Shared->Prop}{s:Shared}
theorem ZeW {a:Addr}{vs:List Value}{n:Nat}{P:PySem.Fin->Shared->Prop} (κ:SortKind) (lt:Nat->Nat->Bool) (ho:s.heap.get? a=some (seqObj "list" vs.toArray n)) (h64:vs.length<64)
  (hk:2<=vs.length->∀(s1:Shared) (Q:SortKind->Shared->Prop),(∀b o,b≠a->s.heap.get? b=some o->s1.heap.get? b=some o)->Q κ s1->wpAny (model prog w) A (keyKind' vs.toArray) Q E s1)
  (hc:∀(s1:Shared) i j C,i<vs.length->j<vs.length->(∀b o,b≠a->s.heap.get? b=some o->s1.heap.get? b=some o)->C (lt i j) s1->PySem.W.kas_ask prog w A κ vs i j C s1)
  (hq:∀h' c,(∀b o,b≠a->s.heap.get? b=some o->h'.get? b=some o)->h'.get? a=some (seqObj "list" (List.toArray ((Ui vs.length lt).map fun i=>vs.getD i Value.none)) c)->P (.done (.ret .none)) { s with heap:=h' }) :
  wpAny (model prog w) A (Builtin.«list.sort» ⟨[.ref a],[]⟩) P E s:=by
 have la:a<s.heap.objs.size:=Heap.lt_size ho
 obtain⟨e1,ho1⟩:∃c,(s.heap.update a (Obj.mapSeq fun _=>(#[]:Array Value))).get? a=some (seqObj "list" #[] c):=⟨_,get?_update_seq ho _⟩
 rw[list_sort_plain]
 refine wpAny_bind (listItems_at ho rfl (wpAny_bind (listUpdate_at ho rfl (wpAny_bind (seqEpoch_at ho1 rfl (wpAny_bind (wpAny_newTuple (wpAny_bind (wpAny_newList (wpAny_holding ?_) (Zuk _))) ?_)))) ?_ (Zuk _))))
 rotate_left
 ·show vs.length<=_;rw[sizeLine_eq];omega
 ·rw[ZtB,sizeLine_eq];omega
 generalize eh:((s.heap.update a (Obj.mapSeq fun _=>(#[]:Array Value))).push (seqObj "tuple" vs.toArray 0)).push (seqObj "list" #[] 0)=h3
 have k3:∀b o,b≠a->s.heap.get? b=some o->h3.get? b=some o:=fun b o nb q=>by
  subst eh
  exact Heap.get?_push_of_some _ (Heap.get?_push_of_some _ ((Heap.get?_update_ne _ _ _ _ nb).trans q))
 have a3:h3.get? a=some (seqObj "list" #[] e1):=by subst eh;exact Heap.get?_push_of_some _ (Heap.get?_push_of_some _ ho1)
 show wpAny _ _ _ P E { s with heap:=h3 }
 have fin:∀(out:List Value) (st:SortSt),(arrOf st).map (·.2)=List.toArray out->failedOf st=none->out.length=vs.length->out=(Ui vs.length lt).map (fun i=>vs.getD i Value.none) ->
   wpAny (model prog w) A (do
    let sorted:=(arrOf st).map (·.2)
    let touched:=(<- seqEpoch a) != e1
    Builtin.List.listUpdate (.ref a) fun _=>sorted
    if let some e:=failedOf st then rule "list.sort.comparison-raised";throw e
    if touched then rule "list.sort.modified";raiseError "ValueError" "list modified during sort"
    ret .none) P E { s with heap:=h3 }:=fun out st ho hf hl hout=>by
  dsimp only
  rw[ho,hf]
  obtain⟨c2,hc2⟩:∃c,(h3.update a (Obj.mapSeq fun _=>List.toArray out)).get? a=some (seqObj "list" (List.toArray out) c):=⟨_,get?_update_seq a3 _⟩
  refine wpAny_bind (seqEpoch_at a3 rfl (wpAny_bind (listUpdate_at a3 rfl ?_ (Zuk _) ?_)))
  ·simp only[bne_self_eq_false,Bool.false_eq_true,if_false]
   refine wpAny_pure (hq _ c2 (fun b o nb q=>(Heap.get?_update_ne _ _ _ _ nb).trans (k3 b o nb q)) ?_)
   rw[<- hout];exact hc2
  ·show (List.toArray out).size<=_
   rw[ZtB,hl,sizeLine_eq];omega
 dsimp only
 by_cases h2:vs.length<2
 ·have e2:vs.toArray.size<2:=by rw[ZtB];exact h2
  rw[if_pos e2,if_pos e2]
  refine wpAny_bind (wpAny_pure (wpAny_bind (wpAny_pure ?_)))
  refine fin vs _ ?_ rfl rfl ?_
  ·show ((vs.toArray.zip vs.toArray).map (·.2))=_
   apply Array.toList_inj.mp
   simp only[Array.toList_map,Array.toList_zip]
   exact List.map_snd_zip (ZtD _)
  ·unfold Ui
   rw[if_pos h2,Zax]
 ·have e2:¬vs.toArray.size<2:=by rw[ZtB];exact h2
  rw[if_neg e2,if_neg e2]
  refine wpAny_bind (hk (by omega) _ _ k3 ?_)
  refine wpAny_bind (wpAny_mono (PySem.W.kat_run (κ:=κ) (ks:=vs) (vs:=vs) (s:={ s with heap:=h3 }) (Q:=fun st s'=>s'={ s with heap:=h3 }/\∃p:Array Nat,p=evK lt (PySem.W.kas_sort vs.length)/\p.size=vs.length/\arrOf st=p.map (PySem.W.kas_item (vs.toArray.zip vs.toArray))/\failedOf st=none)
   (G:=fun p s'=>s'={ s with heap:=h3 }/\p=evK lt (PySem.W.kas_sort vs.length)) rfl (by omega) h64 (fun p st s' a1 a2 a3 a4=>⟨a4.1,p,a4.2,a1,a2,a3⟩) ?_) ?_ fun _ _ e=>e)
  ·exact InK.wp (lt:=lt) (fun i j C hi hj q=>hc _ i j C hi hj k3 q) (ZfN (by omega)) ⟨rfl,rfl⟩
  ·rintro⟨⟨⟩,st⟩ s' ⟨rfl,p,e,hp,har,hf⟩
   have hs:=PySem.W.kat_snds (ks:=vs) (vs:=vs) rfl har
   refine fin _ st hs hf ?_ ?_
   ·rw[Zt7,Zuj,hp]
   ·unfold Ui
    rw[if_neg h2,e]
theorem Zeg {l:Addr}{vs:List Value}{Q:Value->Shared->Prop} (κ:SortKind) (lt:Nat->Nat->Bool) (hl:s.heap.IsList l vs.toArray) (h64:vs.length<64)
  (hk:2<=vs.length->∀(s1:Shared) (Q:SortKind->Shared->Prop),(∀b o,s.heap.get? b=some o->s1.heap.get? b=some o)->Q κ s1->wpAny (model prog w) A.in1.in1 (keyKind' vs.toArray) Q E s1)
  (hc:∀(s1:Shared) i j C,i<vs.length->j<vs.length->(∀b o,s.heap.get? b=some o->s1.heap.get? b=some o)->C (lt i j) s1->PySem.W.kas_ask prog w A.in1.in1 κ vs i j C s1)
  (hq:∀D h' c,(∀b o,s.heap.get? b=some o->h'.get? b=some o)->s.heap.objs.size<=D->h'.get? D=some (seqObj "list" (List.toArray ((Ui vs.length lt).map fun i=>vs.getD i Value.none)) c)->Q (.ref D) { s with heap:=h' }) :
  wpAny (model prog w) A (call (.builtin "sorted") [.ref l]) Q E s:=by
 refine Calls.call_function_entry kind_sorted plain_sorted entry_sorted (args_sorted1 _) ?_
 unfold Builtin.«sorted»
 have hz:vs.length<=sizeLine:=by rw[sizeLine_eq];omega
 refine wpAny_bind (m:=checkCount "sorted" 1 1 _) (wpAny_pure (wpAny_bind (collect_list hl (wpAny_bind (wpAny_newList ?_ hz)) hz)))
 generalize eg:(s.heap.push (seqObj "list" #[] 0)).update s.heap.objs.size (Obj.mapSeq (·++vs.toArray))=h1
 have z1:h1.objs.size=s.heap.objs.size+1:=by subst eg;rw[Heap.size_update,size_push']
 have k1:∀b o,s.heap.get? b=some o->h1.get? b=some o:=fun b o q=>by
  have lb:=Heap.lt_size q
  subst eg
  rw[Heap.get?_update_ne _ _ _ _ (ZtP lb)]
  exact Heap.get?_push_of_some _ q
 have hD:(h1.push (seqObj "list" vs.toArray 0)).get? h1.objs.size=some (seqObj "list" vs.toArray 0):=Heap.get?_push_size _ rfl
 show wpAny _ _ _ _ _ { s with heap:=h1.push (seqObj "list" vs.toArray 0) }
 have up:∀(h2:Heap),(∀b o,b≠h1.objs.size->(h1.push (seqObj "list" vs.toArray 0)).get? b=some o->h2.get? b=some o)->∀b o,s.heap.get? b=some o->h2.get? b=some o:=fun h2 k b o q =>
  k b o (ZtP (by rw[z1];exact Nat.lt_succ_of_lt (Heap.lt_size q))) (Heap.get?_push_of_some _ (k1 b o q))
 refine wpAny_bind (wpAny_holding (wpAny_call_entry slot_list_sort ⟨_,hD,rfl⟩ entry_list_sort (ZeW (s:={ s with heap:=h1.push (seqObj "list" vs.toArray 0) }) κ lt hD h64 (fun h2 s1 Q k q=>hk h2 s1 Q (up _ k) q) (fun s1 i j C hi hj k q=>hc s1 i j C hi hj (up _ k) q) fun h' c k e=>?_) (args_list_sort _)))
 exact⟨_,rfl,wpAny_pure ⟨_,rfl,hq _ h' c (up _ k) (by rw[z1];exact Nat.le_succ _) e⟩⟩
theorem ZdB {fin:Bool}{Q:Bool->Shared->Prop}:∀{ns ms:List Int}{vs ws:List Value}{i:Nat},ZT (ns.map V.int) vs->ZT (ms.map V.int) ws->fin=decide (vs.length<ws.length)->Q (HT.ZbU ns ms) s ->
  PySem.W.KatLex prog w A true fin Q (vs.zip ws) i s
 |[],[],_,_,i,.nil,.nil,e,q=>by subst e;exact q
 |[],m::ms,_,_,i,.nil,.cons r t,e,q=>by
  have:fin=true:=by rw[e];simp
  subst this
  exact q
 |n::ns,[],_,_,i,.cons r t,.nil,e,q=>by
  have:fin=false:=by rw[e];simp
  subst this
  exact q
 |n::ns,m::ms,_,_,i,.cons r t,.cons r' t',e,q=>by
  obtain⟨k,rfl⟩:=r
  obtain⟨k',rfl⟩:=r'
  rw[Zun]
  refine PySem.W.kat_cons (wpAny_eqBool_int ?_)
  rw[HT.Zeu] at q
  by_cases h:n=m
  ·subst h
   rw[if_pos rfl] at q
   simp only[beq_self_eq_true]
   exact PySem.W.kat_yes (ZdB t t' (by rw[e];simp) q)
  ·rw[if_neg h] at q
   have hb:(n==m)=false:=by simpa using h
   rw[hb]
   refine PySem.W.kat_no ?_
   cases i with
   |zero=>exact oneLt_int q
   |succ i=>exact PySem.W.kat_one _ _ (PyProof.Rows.lt_int q)
end
section
variable {X:Cx}
noncomputable def Zdi (ts:List (List Int)):List Nat:=Ui ts.length fun i j=>HT.ZbU (ts.getD i []) (ts.getD j [])
def Zc3 (K:W.Frag):List V->Hp->VK->Prop:=fun xs H Q=>∃p,∃ts:List PL2,xs=[.ref p]/\SqL K H p (ts.map fun t=>V.ref t.1) /\
  (∀t∈ts,SqT K H t.1 (t.2.map V.int)/\t.2≠[])/\ts.length<64/\∀l,H l=none->Q (.ref l) (upd H l (.lst ((Zdi (ts.map (·.2))).map fun i=>V.ref (ts.getD i (0,[])).1)))
theorem ZcV:Vg X (.builtin "sorted") (Zc3 X.K):=by
 intro pins s σ H xs us Q I r h
 obtain⟨p,ts,rfl,hq,hall,h64,q⟩:=h
 obtain⟨u,rfl,rx⟩:=ZaJ r
 cases rx
 obtain⟨its,r',pl,hz⟩:=I.list hq
 have hlen:=r'.length
 rw[Zt7] at hlen
 have item:∀i,i<its.length->∃t:PL2,ts[i]?=some t/\its[i]?=some (Value.ref t.1):=fun i hi=>by
  have hx:(ts.map fun t=>V.ref t.1)[i]?=some (V.ref (ts[i]'(by omega)).1):=by simp[Zt6 (show i<ts.length by omega)]
  obtain⟨w,hw,rw'⟩:=r'.get hx
  exact⟨ts[i]'(by omega),Zt6 (by omega),by rw[hw];exact congrArg some rw'⟩
 have tup:∀(s1:Shared),(∀b o,s.heap.get? b=some o->s1.heap.get? b=some o)->∀t∈ts,∃vs:List Value,ZT (t.2.map V.int) vs/\IsTup s1.heap t.1 vs.toArray:=fun s1 k t ht=>by
  have I':Inv X pins σ H { s with heap:=s1.heap,toks:=s1.toks }:=I.kept k
  obtain⟨vs,rv,pt,_⟩:=I'.tuple (hall t ht).1
  exact⟨vs,rv,pt⟩
 refine Zeg (tuples' true) (fun i j=>HT.ZbU ((ts.map (·.2)).getD i []) ((ts.map (·.2)).getD j [])) pl.isList (by omega) (fun h2 s1 Q' k q'=>?_) (fun s1 i j C hi hj k q'=>?_) fun D h' c k hD e=>?_
 ·have:∀(ts:List PL2) (its:List Value),(∀t∈ts,t.2≠[]/\∃vs:List Value,ZT (t.2.map V.int) vs/\IsTup s1.heap t.1 vs.toArray)->ZT (ts.map fun t=>V.ref t.1) its->∃fs:List Value,fs.length=ts.length/\PySem.W.KatTups s1.heap its fs/\∀v∈fs,∃n t,v=Value.int n t:=by
   intro ts
   induction ts with
   |nil =>
    intro its _ rv
    cases rv
    exact⟨[],rfl,trivial,by simp⟩
   |cons t ts ih =>
    intro its ht rv
    cases rv with
    |cons rv tv =>
     obtain⟨fs,e1,e2,e3⟩:=ih _ (fun t' h'=>ht t' (ZtM _ h')) tv
     obtain⟨hne,vs,rvs,ob,eo,oc,k,od⟩:=ht t (Zuc ..)
     obtain⟨n,ns,en⟩:=List.exists_cons_of_ne_nil hne
     rw[en] at rvs
     cases rvs with
     |cons rn tn =>
      obtain⟨tk,rfl⟩:=rn
      have rv':_=Value.ref t.1:=rv
      subst rv'
      exact⟨.int n tk::fs,by simp[e1],⟨⟨t.1,ob,_,k,rfl,eo,oc,od,rfl⟩,e2⟩,fun v hv=>(ZtE.mp hv).elim (fun z=>⟨n,tk,z⟩) (e3 v)⟩
  obtain⟨fs,e1,e2,e3⟩:=this ts its (fun t ht=>⟨(hall t ht).2,tup s1 k t ht⟩) r'
  exact PySem.W.kat_kind (T:=.type "int") e2 (by omega) (fun v hv=>by obtain⟨n,t,rfl⟩:=e3 v hv;exact PySem.W.Looks.of_pure rfl) rfl q'
 ·obtain⟨t,et,ei⟩:=item i hi
  obtain⟨t',et',ej⟩:=item j hj
  obtain⟨vs,rv,ob,eo,oc,k1,od⟩:=tup s1 k t (Zug et)
  obtain⟨vs',rv',ob',eo',oc',k1',od'⟩:=tup s1 k t' (Zug et')
  unfold PySem.W.kas_ask
  rw[Zt5,ei,Zt5,ej]
  refine PySem.W.kat_lt eo od eo' od' (ZdB rv rv' ?_ ?_)
  ·simp
  ·rw[Zt5,Zt5,ZtL,ZtL,et,et'] at q'
   exact q'
 ·have I1:Inv X pins σ (upd H D (.lst ((Zdi (ts.map (·.2))).map fun i=>V.ref (ts.getD i (0,[])).1))) { s with heap:=h' }:=by
   have el:Ui its.length (fun i j=>HT.ZbU ((ts.map (·.2)).getD i []) ((ts.map (·.2)).getD j []))=Zdi (ts.map (·.2)):=by unfold Zdi;rw[Zt7,hlen]
   rw[el] at e
   have lt:∀i∈Zdi (ts.map (·.2)),i<its.length:=fun i hi=>by
    have:=(Vh _ _).mem_iff.mp hi
    rw[List.mem_range,Zt7] at this
    omega
   refine I.laid (t':=s.toks) k hD ⟨?_,_,c, ?_,e⟩
   ·rw[Zt7,Zdi,(Vh _ _).length_eq,List.length_range,Zt7,sizeLine_eq];omega
   ·revert lt
    generalize Zdi (ts.map (·.2))=L
    intro lt
    induction L with
    |nil=>exact .nil
    |cons i L ih =>
     refine .cons ?_ (ih fun j hj=>lt j (ZtM _ hj))
     obtain⟨t,et,ei⟩:=item i (lt i (Zuc ..))
     show Jp (V.ref (ts.getD i (0,[])).1) (its.getD i Value.none)
     rw[Zt5,et,Zt5,ei]
     rfl
  exact⟨.ref D,_,I1,rfl,q D (I.hok.fresh hD)⟩
theorem UX {K:W.Frag} (e:X.K=K:=by rfl):Vg X (.builtin "sorted") (Zc3 K):=by subst e;exact ZcV
end
noncomputable def Vw (t:List Int):PV:=.tup (t.map PV.int)
theorem Zb1:∀{a b:List (List Int)},a.map Vw=b.map Vw->a=b
 |[],[],_=>rfl
 |[],y::b,h=>by simp at h
 |x::a,[],h=>by simp at h
 |x::a,y::b,h=>by
  simp only[ZtI,List.cons.injEq,Vw,PV.tup.injEq] at h
  rw[Jb h.1,Zb1 h.2]
noncomputable def ZgO (ts:List (List Int)):List (List Int):=(Zdi ts).map fun i=>ts.getD i []
theorem Q6 (ts:List (List Int)):(ZgO ts).Perm ts:=by
 have:=(Vh ts.length fun i j=>HT.ZbU (ts.getD i []) (ts.getD j [])).map fun i=>ts.getD i []
 rw[Zax] at this
 exact this
def OkS (ts:List (List Int)):Prop:=(∀t∈ts,t≠[])/\ts.length<64
open Classical in
noncomputable def ZaV (xs:List PV):Rr PV:=if h:∃ts:List (List Int),xs=[.lst (ts.map Vw)]/\OkS ts then newF ((ZgO h.choose).map Vw) else .bad
theorem Za0 {ts:List (List Int)} (h:OkS ts):ZaV [.lst (ts.map Vw)]=newF ((ZgO ts).map Vw):=by
 have hex:∃us:List (List Int),[PV.lst (ts.map Vw)]=[.lst (us.map Vw)]/\OkS us:=⟨ts,rfl,h⟩
 unfold ZaV
 rw[dif_pos hex]
 have hs:ts.map Vw=hex.choose.map Vw:=PV.lst.inj (List.cons.inj hex.choose_spec.1).1
 have e:hex.choose=ts:=(Zb1 hs).symm
 rw[e]
section
variable {K:W.Frag}{B:Addr->Prop}{EX:PX->Hp->Prop}{H0 H:Hp}{σ:St}{Γ Γ':List Md}{ρ:List PV}{F:Nat->List Addr}{R:List Addr}{ta:TA}{fa:List PV->Rr (List PV)}
theorem ZbD {S:Addr->Prop}:∀{ts:List (List Int)}{vs:List V},Reps K H S (ts.map Vw) vs->∃qs:List PL2,vs=(qs.map fun t=>V.ref t.1)/\(qs.map fun t=>t.2)=ts/\∀t∈qs,SqT K H t.1 (t.2.map V.int)
 |[],vs,h=>⟨[],h,rfl,by simp⟩
 |ns::ts,vs,h=>by
  obtain⟨v,r,rfl,h1,h2⟩:=h
  obtain⟨qs,rfl,e2,e3⟩:=ZbD h2
  obtain⟨a,ws,rfl,hn,hr⟩:=h1
  have:=Q9 hr
  subst this
  refine⟨(a,ns)::qs,rfl,by rw[ZtI,e2],fun t ht=>?_⟩
  rcases ZtE.mp ht with rfl|ht
  ·exact hn.sqT
  ·exact e3 t ht
theorem ZbE {S:Addr->Prop}{xs:List PV}{vs:List V} (h:Reps K H S xs vs):∀L:List Nat,(∀i∈L,i<xs.length)->Reps K H S (L.map fun i=>xs.getD i .non) (L.map fun i=>vs.getD i .non)
 |[],_=>rfl
 |i::L,hL=>by
  have hi:=hL i (Zuc ..)
  obtain⟨w,hw,hr⟩:=h.get (Zt6 hi)
  refine⟨w,_, ?_, ?_,ZbE h L fun j hj=>hL j (ZtM _ hj)⟩
  ·show (vs.getD i .non::_)=_
   rw[Zt5,hw];rfl
  ·show Rep K H S (xs.getD i .non) w
   rw[Zt5,Zt6 hi];exact hr
theorem Zcj (ha:DAA K EX Γ Γ' ta fa):DE K EX Γ Γ' .F (tCB (Zc3 K) ta) (fun ρ=>(fa ρ).bind ZaV):=fun B H0 H σ ρ F R Q A d=>by
 refine ha B H0 H σ ρ F R _ A (d.bind.imp (fun xs _ d vs H1 F1 s1 f1 p1 A1=>?_) fun e q=>q)
 unfold ZaV at d
 split at d
 ·rename_i hex
  have hs:=hex.choose_spec
  generalize hex.choose=ts at d hs
  obtain⟨rfl,hne,hl⟩:=hs
  obtain⟨h1,h2,d⟩:=Dn.newF d
  obtain⟨v,rfl,a,ws,rfl,hn,hr⟩:=VV p1
  have hr0:=hr
  obtain⟨qs,rfl,rfl,e3⟩:=ZbD hr
  refine⟨a,qs,rfl,JC (S:=fun _=>True) hn,fun t ht=>⟨e3 t ht,hne _ (List.mem_map_of_mem ht)⟩,by simpa using hl,fun l hz=>?_⟩
  have lt:∀i∈Zdi (qs.map (·.2)),i<qs.length:=fun i hi=>by
   have:=(Vh _ _).mem_iff.mp hi
   rw[List.mem_range,Zt7] at this
   exact this
  have pr:=ZbE hr0 (Zdi (qs.map (·.2))) (by simpa using lt)
  have c1:((Zdi (qs.map (·.2))).map fun i=>((qs.map fun t=>t.2).map Vw).getD i .non)=(ZgO (qs.map fun t=>t.2)).map Vw:=by
   unfold ZgO
   rw[ZuN (l:=Zdi _)]
   refine List.map_congr_left fun i hi=>?_
   simp[Zt5,Zt6 (lt i hi)]
  have c2:((Zdi (qs.map (·.2))).map fun i=>(qs.map fun t=>V.ref t.1).getD i .non)=(Zdi (qs.map (·.2))).map fun i=>V.ref (qs.getD i (0,[])).1:=by
   refine List.map_congr_left fun i hi=>?_
   simp[Zt5,Zt6 (lt i hi)]
  rw[c1,c2] at pr
  exact d _ _ (s1.trans (Z5.new hz)) (Res.newP s1 f1 pr h1 A1 hz)
 ·exact d.elim
end
theorem Pm.refM2 (m:Pm) {r:Addr->PV->List PV->Rr PV} (h:∀i,m.pre i->∀a b xs,m.enc i=b::xs->r a b xs=ZlY a (m.out i)):∀a b xs,Ref (ZlY a (m.fnM b xs)) (r a b xs):=fun a b xs=>by
 unfold Pm.fnM Pm.fn
 by_cases hx:∃i,m.enc i=b::xs/\m.pre i
 ·rw[dif_pos hx]
  exact .inr (h _ hx.choose_spec.2 a b xs hx.choose_spec.1).symm
 ·rw[dif_neg hx];exact .inl rfl
theorem Zcv:bootBuiltins "sorted"=some (.builtin "sorted"):=by decide +kernel
section
variable {X:Cx}{pins:List (Addr×Obj)}{σ:St}{H:Hp}{s:Shared}
theorem Inv.swapO {a:Addr}{u u':HO} (I:Inv X pins σ H s) (ha:H a=some u) (n1:∀b,u≠.own b) (n2:∀xs,u≠.tup xs) (m1:∀xs,X.H₀ a≠some (.tup xs)) (m2:∀o v,X.H₀ a≠some (.frz o v)) (m3:∀ps,X.H₀ a≠some (.tbl ps))
  (h0:∀o,X.s₀.heap.get? a=some o->X.H₀ a=none->a∈X.ex) (ok:Jz X.prog X.w (upd H a u') s.heap a u'):Inv X pins σ (upd H a u') s:=by
 have nn:∀{b},H b=none->b≠a:=fun {b} e z=>by rw[z,ha] at e;cases e
 refine⟨I.ok,I.os,I.bare,⟨I.base.keep,I.base.slot,fun b o q n hx=>?_,I.base.there,fun b xs q=>?_,fun b o v q=>?_,fun b ps q=>?_⟩,I.loc,I.cell, ?_,fun x c q=>?_,fun p hq=>?_,fun b v q=>?_,I.len⟩
 ·have e:=I.base.free b o q n hx
  rw[Zq (nn e)];exact e
 ·rw[Zq (fun z=>m1 xs (by rw[<- z];exact q))];exact I.base.tups b xs q
 ·rw[Zq (fun z=>m2 o v (by rw[<- z];exact q))];exact I.base.frzs b o v q
 ·obtain⟨m,e⟩:=I.base.tbls b ps q
  exact⟨m,by rw[Zq (fun z=>m3 ps (by rw[<- z];exact q))];exact e⟩
 ·rw[Zq (nn I.free)];exact I.free
 ·rw[Zq (nn (I.freeC x c q))];exact I.freeC x c q
 ·obtain⟨a1,b1,c1⟩:=I.pin p hq
  exact⟨a1,by rw[Zq (nn b1)];exact b1,c1⟩
 ·by_cases hb:b=a
  ·subst hb
   rw[Z0] at q;cases q
   exact ok
  ·rw[Zq hb] at q
   refine(I.hok b v q).stay (fun c w' _ z=>z) (fun c z=>?_) fun c xs z=>?_
   ·rw[Zq (fun y=>by rw[y,ha] at z;cases z;exact n1 _ rfl)];exact z
   ·rw[Zq (fun y=>by rw[y,ha] at z;cases z;exact n2 _ rfl)];exact z
end
mutual
noncomputable def Zbx:PV->PV
 |.lst xs=>.fz (frzPs xs)
 |.tup xs=>.tup (frzPs xs)
 |.fz xs=>.fz (frzPs xs)
 |.non=>.non
 |.bl b=>.bl b
 |.int i=>.int i
 |.str x=>.str x
 |.exc n=>.exc n
 |.exa n i=>.exa n i
 |.box p s xs=>.box p s xs
noncomputable def frzPs:List PV->List PV
 |[]=>[]
 |x::xs=>Zbx x::frzPs xs
end
theorem UJ:∀(ns:List Int),frzPs (ns.map PV.int)=ns.map PV.int
 |[]=>rfl
 |n::ns=>by simp only[ZtI,frzPs,Zbx,UJ ns]
def ZgA (G:List Addr) (H H2:Hp):Prop:=(∀a,a ∉ G->H2 a=H a)/\∀a∈G,∀vs,H a=some (.lst vs)->∃o,H2 a=some (.frz o (.lst vs))
def ZjB (H:Hp) (G:List Addr):Prop:=∀a∈G,∃vs,H a=some (.lst vs)
section
variable {K:W.Frag}{H H2:Hp}{G':List Addr}
theorem Im.frzTo (hL:ZjB H G') (h:ZgA G' H H2) {a:Addr}{u:HO} (i:Im K H a u):Im K H2 a u:=by
 have hn:a ∉ G':=fun z=>by
  obtain⟨vs,e⟩:=hL a z
  rw[i.1] at e;cases e;exact i.2
 exact⟨by rw[h.1 a hn];exact i.1,i.2⟩
mutual
theorem Jc.lists:∀{x:PV}{v:V}{G:List Addr},(Zbx x).flat=true->Jc K H x v G->ZjB H G
 |.non,_,_,_,h=>by rw[h.2];intro a ha;simp at ha
 |.bl _,_,_,_,h=>by rw[h.2];intro a ha;simp at ha
 |.int _,_,_,_,h=>by rw[h.2];intro a ha;simp at ha
 |.str _,_,_,_,h=>by rw[h.2];intro a ha;simp at ha
 |.exc _,_,_,_,h=>by rw[h.2];intro a ha;simp at ha
 |.exa _ _,_,_,_,h=>by rw[h.2];intro a ha;simp at ha
 |.box _ _ _,_,_,f,_=>by simp[Zbx,PV.flat] at f
 |.lst xs,_,_,f,h=>by
  obtain⟨a,vs,G,rfl,ha,ht,hn,rfl⟩:=h
  intro b hb
  rcases ZtE.mp hb with rfl|hb
  ·exact⟨vs,ha⟩
  ·exact Trees.lists (by simpa[Zbx,PV.flat] using f) ht b hb
 |.tup xs,_,_,f,h=>by
  obtain⟨a,vs,rfl,ha,ht⟩:=h
  exact Trees.lists (by simpa[Zbx,PV.flat] using f) ht
 |.fz xs,_,_,f,h=>by
  obtain⟨a,vs,rfl,ha,ht⟩:=h
  exact Trees.lists (by simpa[Zbx,PV.flat] using f) ht
theorem Trees.lists:∀{xs:List PV}{vs:List V}{G:List Addr},PV.flats (frzPs xs)=true->Trees K H xs vs G->ZjB H G
 |[],_,_,_,h=>by rw[h.2];intro a ha;simp at ha
 |x::xs,_,_,f,h=>by
  obtain⟨v,r,G1,G2,rfl,h3,h4,hd,rfl⟩:=h
  simp only[frzPs,PV.flats,Bool.and_eq_true] at f
  intro b hb
  rcases ZtA.mp hb with hb|hb
  ·exact Jc.lists f.1 h3 b hb
  ·exact Trees.lists f.2 h4 b hb
end
mutual
theorem Jc.frz (hL:ZjB H G') (hF:ZgA G' H H2):∀{x:PV}{v:V}{G:List Addr},(Zbx x).flat=true->Jc K H x v G->(∀a∈G,a∈G')->Jc K H2 (Zbx x) v []
 |.non,_,_,_,h,_=>⟨h.1,rfl⟩
 |.bl _,_,_,_,h,_=>⟨h.1,rfl⟩
 |.int _,_,_,_,h,_=>⟨h.1,rfl⟩
 |.str _,_,_,_,h,_=>⟨h.1,rfl⟩
 |.exc n,_,_,_,h,_=>let ⟨a,o,C,e1,e2,e3⟩:=h.1;⟨⟨a,o,C,e1,Im.frzTo hL hF e2,e3⟩,rfl⟩
 |.exa n i,_,_,_,h,_=>let ⟨a,o,C,d,fs,e1,e2,e2',e3⟩:=h.1;⟨⟨a,o,C,d,fs,e1,Im.frzTo hL hF e2,Im.frzTo hL hF e2',e3⟩,rfl⟩
 |.box _ _ _,_,_,f,_,_=>by simp[Zbx,PV.flat] at f
 |.lst xs,_,_,f,h,hG=>by
  obtain⟨a,vs,G,rfl,ha,ht,hn,rfl⟩:=h
  obtain⟨o,e⟩:=hF.2 a (hG a (by simp)) vs ha
  exact⟨a,vs,rfl,⟨o,e,trivial⟩,Trees.frz hL hF (by simpa[Zbx,PV.flat] using f) ht fun b hb=>hG b (by simp[hb])⟩
 |.tup xs,_,_,f,h,hG=>by
  obtain⟨a,vs,rfl,ha,ht⟩:=h
  exact⟨a,vs,rfl,Im.frzTo hL hF ha,Trees.frz hL hF (by simpa[Zbx,PV.flat] using f) ht hG⟩
 |.fz xs,_,_,f,h,hG=>by
  obtain⟨a,vs,rfl,⟨o,ha⟩,ht⟩:=h
  exact⟨a,vs,rfl,⟨o,Im.frzTo hL hF ha⟩,Trees.frz hL hF (by simpa[Zbx,PV.flat] using f) ht hG⟩
theorem Trees.frz (hL:ZjB H G') (hF:ZgA G' H H2):∀{xs:List PV}{vs:List V}{G:List Addr},PV.flats (frzPs xs)=true->Trees K H xs vs G->(∀a∈G,a∈G')->Trees K H2 (frzPs xs) vs []
 |[],_,_,_,h,_=>⟨h.1,rfl⟩
 |x::xs,_,_,f,h,hG=>by
  obtain⟨v,r,G1,G2,rfl,h3,h4,hd,rfl⟩:=h
  simp only[frzPs,PV.flats,Bool.and_eq_true] at f
  exact⟨v,r,[],[],rfl,Jc.frz hL hF f.1 h3 fun a ha=>hG a (by simp[ha]),Trees.frz hL hF f.2 h4 fun a ha=>hG a (by simp[ha]),by simp,rfl⟩
end
end
section
variable {X:Cx}{pins:List (Addr×Obj)}{σ:St}{s:Shared}
theorem Inv.frzAll:∀(G:List Addr) {H:Hp},Inv X pins σ H s->ZjB H G->∃H2,ZgA G H H2/\Inv X pins σ H2 s
 |[],H,I,_=>⟨H,⟨fun _ _=>rfl,by simp⟩,I⟩
 |a::G,H,I,hL=>by
  obtain⟨H2,h2,I2⟩:=Inv.frzAll G I fun b hb=>hL b (by simp[hb])
  by_cases hm:a∈G
  ·refine⟨H2,⟨fun b hb=>h2.1 b fun z=>hb (by simp[z]),fun b hb=>?_⟩,I2⟩
   rcases ZtE.mp hb with rfl|hb
   ·exact h2.2 b hm
   ·exact h2.2 b hb
  ·obtain⟨kvs,ha0⟩:=hL a (by simp)
   have ha:H2 a=some (.lst kvs):=by rw[h2.1 a hm];exact ha0
   have ok0:Jz X.prog X.w H2 s.heap a (.lst kvs):=I2.hok a _ ha
   obtain⟨o,ho⟩:∃o,s.heap.get? a=some o:=by obtain⟨_,its,n,_,e⟩:=ok0;exact⟨_,e⟩
   have m1:∀xs,X.H₀ a≠some (.tup xs):=fun xs z=>by have:=I2.base.tups a xs z;rw[ha] at this;cases this
   have m2:∀o v,X.H₀ a≠some (.frz o v):=fun o v z=>by have:=I2.base.frzs a o v z;rw[ha] at this;cases this
   have m3:∀ps,X.H₀ a≠some (.tbl ps):=fun ps z=>by obtain⟨m,this⟩:=I2.base.tbls a ps z;rw[ha] at this;cases this
   have h0:∀o,X.s₀.heap.get? a=some o->X.H₀ a=none->a∈X.ex:=fun o q n=>by
    by_cases hx:a∈X.ex
    ·exact hx
    ·have:=I2.base.free a o q n hx;rw[ha] at this;cases this
   refine⟨_,⟨fun b hb=>?_,fun b hb vs e=>?_⟩,I2.swapO (u':=.frz o (.lst kvs)) ha (fun _ z=>by cases z) (fun _ z=>by cases z) m1 m2 m3 h0 ⟨ho,ok0⟩⟩
   ·have hb':b≠a:=fun z=>hb (by simp[z])
    rw[Zq hb']
    exact h2.1 b fun z=>hb (by simp[z])
   ·by_cases hb':b=a
    ·subst hb'
     rw[ha0] at e;cases e
     exact⟨o,Z0⟩
    ·rw[Zq hb']
     rcases ZtE.mp hb with z|z
     ·exact absurd z hb'
     ·exact h2.2 b z vs e
noncomputable def Zka (te:TE):TE:=fun σ H Q=>te σ H fun v H1=>∃G,ZjB H1 G/\∀H2,ZgA G H1 H2->Q v H2
theorem Vz {e:Expr}{te:TE} (he:PE X e te):PE X e (Zka te):=by
 intro pins s σ H Q I h
 refine thn (he pins s σ H _ I h) fun v s1 ⟨x,H1,I1,r,G,hL,q⟩=>?_
 obtain⟨H2,h2,I2⟩:=Inv.frzAll G I1 hL
 exact⟨x,H2,I2,r,q H2 h2⟩
variable {K:W.Frag}{B:Addr->Prop}{EX:PX->Hp->Prop}{H0 H H2:Hp}{Γ Γ':List Md}{ρ:List PV}{F:Nat->List Addr}{R G:List Addr}{te:TE}{f:List PV->Rr PV}
theorem V8 (he:DE K EX (Γ.map frz) (Γ.map frz) .F te f):DE K EX Γ Γ .P (Zka te) (fun ρ=>(f ρ).bind fun x=>grd (Zbx x)):=fun B H0 H σ ρ F R Q A d=>by
 refine he B H0 H σ ρ _ R _ A.freezeAll (d.bind.imp (fun x _ d v H1 s1 r=>?_) fun e q=>q)
 obtain⟨F1,f1,G,t1,o1,_⟩:=r
 have fr:∀a∈G,H a=none:=fun a ha=>by
  rcases (o1 a ha).2 with q|⟨j,q⟩
  ·exact q
  ·simp at q
 unfold grd at d
 split at d
 ·rename_i hf
  refine⟨G,t1.lists hf,fun H2 h2=>?_⟩
  have s2:Z5 H H2:=fun a o e=>by
   rw[h2.1 a fun z=>by rw[fr a z] at e;cases e]
   exact s1 a o e
  exact d v H2 s2 ⟨F,fun _ _ h=>h,hf,(Jc.frz (t1.lists hf) h2 hf t1 fun a ha=>ha).rep (by simp),A.grow s2⟩
 ·exact d.elim
noncomputable def thw (x:PV):PV:=match x with
 |.fz xs=>.lst xs
 |x=>x
theorem Rep.thw {S:Addr->Prop}{x:PV}{v:V} (hS:∀a o vs,H a=some (.frz o (.lst vs))->S a) (h:Rep K H S x v):Rep K H S (thw x) v:=by
 cases x with
 |fz xs =>
  obtain⟨a,vs,rfl,⟨o,ha⟩,hr⟩:=h
  exact⟨a,vs,rfl,.inl ⟨.inr ⟨o,ha.1⟩,hS a o vs ha.1⟩,hr⟩
 |_=>exact h
theorem J2 (he:DE K EX Γ Γ' .A te f):DE K EX Γ Γ' .A te (fun ρ=>(f ρ).bind fun x=>.ok (thw x)):=fun B H0 H σ ρ F R Q A d=>by
 refine he B H0 H σ ρ F R _ A (d.bind.imp (fun x _ d v H1 s1 r=>?_) fun e q=>q)
 obtain⟨F1,f1,p1,A1⟩:=r
 exact d v H1 s1 ⟨F1,f1,p1.thw fun _ _ _ _=>trivial,A1⟩
end
section
variable {X:Cx}{pins:List (Addr×Obj)}{σ:St}{H:Hp}{s:Shared}{a C dx:Addr}{fs:List (Str×V)}{f:Str}
theorem Ux (I:Inv X pins σ H s) (e:Rd H a (.ins C dx fs)):∃mA,Ziz s.heap a dx C mA/\(∀f,ZaF (fs.lookup f) (mA f)):=by
 obtain⟨d,z,ne,ob,mA,n,r,q⟩:=(show Jz X.prog X.w H s.heap a (.ins C dx fs) from e.ok I.hok)
 exact⟨mA,⟨ob,n,ne⟩,r⟩
end
noncomputable def ZeN (K:W.Frag) (ta:TE) (f:Str):TE:=fun σ H Q=>ta σ H fun x H1=>∃a C dx fs v,x=.ref a/\Rd H1 a (.ins C dx fs)/\Cls K C/\Zam K C f/\fs.lookup f=some v/\Q v H1
noncomputable def Zb4 (K:W.Frag) (n m:Str) (sp:Sp) (ta:TE) (t:TA):TE:=fun σ H Q=>ta σ H fun x H1=>∃a C dx fs,x=.ref a/\Rd H1 a (.ins C dx fs)/\VP K n C/\fs.lookup m=none/\t σ H1 fun vs H2=>sp (x::vs) H2 Q E0
def OkM (P:Program) (w:World) (K:W.Frag) (mg:Str->Option Value) (base:Heap) (k:Nat) (n m:Str) (ps:List Str) (sp:Sp):Prop:=
 ∃C f fd,VP K n C/\Cls K C/\Znk K C m f/\Jd P w K mg base CX0 k f fd ps sp/\UK K fd ps []
section
variable {X:Cx}{K:W.Frag}{e o:Expr}{es:List Expr}{f n m:Str}{pos apos:Pos}{ta:TE}{t:TA}{k:Nat}{ps:List Str}{sp:Sp}
theorem ZR (he:PE X e ta) (eK:X.K=K:=by rfl) (hb:attributeBase e f X.env (eval e X.env)=eval e X.env:=by rfl):PE X (.Attribute e f pos) (ZeN K ta f):=by
 subst eK
 intro pins s σ H Q I h
 refine Zj5 hb (thn (he pins s σ H _ I h) fun u s1 ⟨x,H1,I1,rx,a,C,dx,fs,v,ex,ea,c,n,l,q⟩=>?_)
 subst ex
 obtain rfl:u=Value.ref a:=rx
 obtain⟨mA,O,r⟩:=Ux I1 ea
 obtain⟨u,hu,ru⟩:=ZaF.some_of (v:=v) (o:=mA f) (by rw[<- l];exact r f)
 exact Zjj I1.kIn O (c.get f) c.hd n hu (ZfQ ru) ⟨v,H1,I1.tok _,ru,q⟩
theorem Qq {pl:Sem Bool} (G:OkM X.prog X.w X.K X.mg X.base k n m ps sp) (hr:Vu k X.A) (he:PE X o ta) (ha:PA X (e::es) t)
  (hst:starEach (e::es) X.env=(false,eval e X.env)::starEach es X.env:=by rfl) (hpl:(backTo pos (starEach es X.env)).any (·.1)=false:=by rfl)
  (ht:eval (.Call (.Attribute o m apos) (e::es) [] pos) X.env=(do
   let ov <- eval o X.env
   standAt apos.atName
   let (f,first) <- holding [ov] (getMethod ov m pl)
   callWith pos f first (backTo pos (starEach (e::es) X.env)) (backToKw pos (keywordEach [] X.env))):=by rfl) :
  PE X (.Call (.Attribute o m apos) (e::es) [] pos) (Zb4 X.K n m sp ta t):=by
 obtain⟨C,f,fd,hC,c,hm,F,hb⟩:=G
 intro pins s σ H Q I h
 refine PySem.W.methodCall_KW (pl:=pl) (thn (he pins s σ H _ I h) fun u s1 ⟨x,H1,I1,rx,a,C',dx,fs,ex,ea,hC',l,q⟩=>?_) ht
 subst ex
 obtain rfl:=hC.inj hC'
 obtain rfl:u=Value.ref a:=rx
 obtain⟨mA,O,r⟩:=Ux I1 ea
 refine Qu I1.kIn O (c.get m) hm.at_ hm.fn (ZaF.none_of (by rw[<- l];exact r m)) ?_
 refine PySem.W.callWith_K (first:=[.ref a]) (h₀:=X.base) I.ok.mod.kin hm.kp (thn (ha pos pins s1 σ H1 _ I1 q) fun us s2 ⟨vs,H2,I2,r,q2⟩=>⟨I2.kIn, ?_⟩) hst hpl
 exact ZbC (us:=.ref a::us) (vs:=.ref a::vs) (dvs:=[]) F hr hb .nil Zen I2 (.cons rfl r) (by rw[ZtW];exact q2)
theorem Vb {pl:Sem Bool} (G:OkM X.prog X.w X.K X.mg X.base k n m ps sp) (hr:Vu k X.A) (he:PE X o ta)
  (ht:eval (.Call (.Attribute o m apos) [] [] pos) X.env=(do
   let ov <- eval o X.env
   standAt apos.atName
   let (f,first) <- holding [ov] (getMethod ov m pl)
   callWith pos f first (backTo pos (starEach [] X.env)) (backToKw pos (keywordEach [] X.env))):=by rfl) :
  PE X (.Call (.Attribute o m apos) [] [] pos) (Zb4 X.K n m sp ta Zcx):=by
 obtain⟨C,f,fd,hC,c,hm,F,hb⟩:=G
 intro pins s σ H Q I h
 refine PySem.W.methodCall_KW (pl:=pl) (thn (he pins s σ H _ I h) fun u s1 ⟨x,H1,I1,rx,a,C',dx,fs,ex,ea,hC',l,q⟩=>?_) ht
 subst ex
 obtain rfl:=hC.inj hC'
 obtain rfl:u=Value.ref a:=rx
 obtain⟨mA,O,r⟩:=Ux I1 ea
 refine Qu I1.kIn O (c.get m) hm.at_ hm.fn (ZaF.none_of (by rw[<- l];exact r m)) ?_
 exact PySem.W.callWith_K0 (first:=[.ref a]) I1.kIn hm.kp (ZbC (us:=[.ref a]) (vs:=[.ref a]) (dvs:=[]) F hr hb .nil Zen I1 (.cons rfl .nil) q)
def OkC (P:Program) (w:World) (K:W.Frag) (mg:Str->Option Value) (base:Heap) (k:Nat) (n:Str) (ps:List Str) (sp:Sp):Prop:=
 ∃C f fd,VP K n C/\mg n=some (.ref C)/\Mk K C f/\Jd P w K mg base CX0 k f fd ps sp/\UK K fd ps []
noncomputable def ZhZ (K:W.Frag) (n:Str) (sp:Sp) (t:TA):TE:=fun σ H Q=>t σ H fun vs H1=>∀x dx C,VP K n C->H1 x=none->H1 dx=none->dx≠x ->
 sp (.ref x::vs) (upd (upd H1 dx (.own x)) x (.ins C dx [])) (fun v H2=>v=.non/\Q (.ref x) H2) E0
theorem ZgX {p:Pos} (G:OkC X.prog X.w X.K X.mg X.base k n ps sp) (hr:Vu (k+1) X.A) (hg:Gl X n) (ha:PA X (e::es) t) (hdb:(n==("__debug__":Str))=false:=by decide)
  (he:starEach (e::es) X.env=(false,eval e X.env)::starEach es X.env:=by rfl) (hpl:(backTo pos (starEach es X.env)).any (·.1)=false:=by rfl) :
  PE X (.Call (.Name n p) (e::es) [] pos) (ZhZ X.K n sp t):=by
 obtain⟨C,f,fd,hC,hm,M,F,hb⟩:=G
 intro pins s σ H Q I h
 refine wpAny_Call_Name_kw (Ua I hg hm ?_ hdb)
 refine PySem.W.callWith_K (h₀:=X.base) I.ok.mod.kin M.kp (thn (ha pos pins s σ H _ I h) fun us s1 ⟨vs,H1,I1,r,q⟩=>⟨I1.kIn, ?_⟩) he hpl
 exact ZgT (dvs:=[]) M F hr hb .nil Zen I1 r fun x dx h1 h2 h3=>by rw[ZtW];exact q x dx C hC h1 h2 h3
end
theorem Ql {α:Type}{f:Str}:∀{gs:List Str}{vs:List α},gs.length=vs.length->(gs.zip vs).lookup f=vs[gs.idxOf f]?
 |[],[],_=>rfl
 |[],_::_,h=>by simp at h
 |_::_,[],h=>by simp at h
 |g::gs,v::vs,h=>by
  have ih:=Ql (f:=f) (gs:=gs) (vs:=vs) (by simpa using h)
  rw[Zun,ZtT,ZuO]
  by_cases e:g=f
  ·subst e;simp
  ·have e1:(f==g)=false:=beq_eq_false_iff_ne.mpr (Ne.symm e)
   have e2:(g==f)=false:=beq_eq_false_iff_ne.mpr e
   rw[e1,e2]
   simpa using ih
noncomputable def pFld (n f:Str) (x:PV):Rr PV:=match x with
 |.box _ (.ob m gs) xs=>if m=n then match xs[gs.idxOf f]? with
  |some y=>.ok y
  |none=>.bad
  else .bad
 |_=>.bad
noncomputable def obG (n m:Str) (x:PV):Rr PV:=match x with
 |.box _ (.ob k gs) _=>if k=n/\m ∉ gs then .ok .non else .bad
 |_=>.bad
theorem Dn.pFld {n f:Str}{x:PV}{ok:PV->Prop}{ex:PX->Prop} (d:Dn (pFld n f x) ok ex):∃p gs xs y,x=.box p (.ob n gs) xs/\xs[gs.idxOf f]?=some y/\ok y:=by
 unfold L2.pFld at d
 split at d
 ·rename_i p m gs xs
  split at d
  ·rename_i e
   subst e
   split at d
   ·rename_i y ey
    exact⟨p,gs,xs,y,rfl,ey,d⟩
   ·exact d.elim
  ·exact d.elim
 ·exact d.elim
theorem Dn.obG {n m:Str}{x:PV}{ok:PV->Prop}{ex:PX->Prop} (d:Dn (obG n m x) ok ex):∃p gs xs,x=.box p (.ob n gs) xs/\m ∉ gs/\ok .non:=by
 unfold L2.obG at d
 split at d
 ·rename_i p k gs xs
  split at d
  ·rename_i e
   obtain⟨rfl,e⟩:=e
   exact⟨p,gs,xs,rfl,e,d⟩
  ·exact d.elim
 ·exact d.elim
def ObC (K:W.Frag) (n:Str) (fs:List Str):Prop:=∃C,VP K n C/\Cls K C/\∀f∈fs,Zam K C f
theorem ZaG {α:Type}{f:Str}{gs:List Str}{vs:List α} (h:gs.length=vs.length) (hf:f ∉ gs):(gs.zip vs).lookup f=none:=by
 rw[Ql h,ZtF]
 rw[<- h,List.idxOf_eq_length hf]
 exact ZtD _
section
variable {K:W.Frag}{B:Addr->Prop}{EX:PX->Hp->Prop}{H0 H H':Hp}{σ:St}{Γ Γ':List Md}{ρ:List PV}{F:Nat->List Addr}{R:List Addr}{te:TE}{ta t:TA}{f:List PV->Rr PV}{fa:List PV->Rr (List PV)}{fs:List Str}{n fl m:Str}{i:Nat}{k:Kd}{sp:Sp}
theorem Rep.fld {S:Addr->Prop}{p:Option Addr}{gs:List Str}{xs:List PV}{v:V}{y:PV} (h:Rep K H S (.box p (.ob n gs) xs) v) (e:xs[gs.idxOf fl]?=some y):∃a C dx fs w,v=.ref a/\Rd H a (.ins C dx fs)/\VP K n C/\fs.lookup fl=some w/\Rep K H S y w:=by
 obtain⟨a,vs,u,rfl,⟨rd,_⟩,⟨_,hl,C,dx,rfl,hC⟩,hr⟩:=h
 obtain⟨w,e1,e2⟩:=hr.get e
 exact⟨a,C,dx,_,w,rfl,rd,hC,by rw[Ql hl];exact e1,e2⟩
theorem JW (O:ObC K n fs) (hf:fl∈fs) (he:DE K EX Γ Γ' .A te f):DE K EX Γ Γ' .A (ZeN K te fl) (fun ρ=>(f ρ).bind (pFld n fl)):=fun B H0 H σ ρ F R Q A d=>by
 obtain⟨C,hC,c,na⟩:=O
 refine he B H0 H σ ρ F R _ A (d.bind.imp (fun x _ d v H1 s1 r=>?_) fun e q=>q)
 obtain⟨F1,f1,p1,A1⟩:=r
 obtain⟨p,gs,xs,y,rfl,ey,d⟩:=Dn.pFld d
 obtain⟨a,C',dx,fs',w,rfl,rd,hC',l,ry⟩:=p1.fld ey
 obtain rfl:=hC.inj hC'
 exact⟨a,C,dx,fs',w,rfl,rd,c,na _ hf,l,d w H1 s1 ⟨F1,f1,ry,A1⟩⟩
theorem ZcP (O:ObC K n fs) (hf:fl∈fs) (he:DE K EX Γ Γ' .Z te f):DE K EX Γ Γ' .Z (ZeN K te fl) (fun ρ=>(f ρ).bind (pFld n fl)):=fun B H0 H σ ρ F R Q A d=>by
 obtain⟨C,hC,c,na⟩:=O
 refine he B H0 H σ ρ F R _ A (d.bind.imp (fun x _ d v H1 s1 r=>?_) fun e q=>q)
 obtain⟨F1,f1,p1,A1⟩:=r
 obtain⟨p,gs,xs,y,rfl,ey,d⟩:=Dn.pFld d
 obtain⟨a,C',dx,fs',w,rfl,rd,hC',l,ry⟩:=p1.fld ey
 obtain rfl:=hC.inj hC'
 exact⟨a,C,dx,fs',w,rfl,rd,c,na _ hf,l,d w H1 s1 ⟨F1,f1,ry,A1⟩⟩
theorem Zf7 {Q:VK}{md:Md} (hi:Γ[i]?=some md) (hmd:md≠.U) (A:Ag K B H0 H σ Γ ρ F R) {p:Option Addr}{gs:List Str}{xs:List PV} (e:ρ.getD i .non=.box p (.ob n gs) xs) (hm:m ∉ gs) (h:Vp sp (J4 (UA i) t) σ H Q):Zb4 K n m sp (UA i) t σ H Q:=by
 obtain⟨v,h1,h2⟩:=A.getA hi hmd
 rw[e] at h2
 obtain⟨a,vs,u,rfl,⟨rd,_⟩,⟨_,hl,C,dx,rfl,hC⟩,hr⟩:=h2
 obtain⟨v',h1',h⟩:=h
 rw[h1] at h1';cases h1'
 exact⟨.ref a,h1,a,C,dx,_,rfl,rd,hC,ZaG hl hm,h⟩
theorem DE.meth {md:Md} (hi:Γ[i]?=some md) (hmd:md≠.U) (h:DE K EX Γ Γ' k (Vp sp (J4 (UA i) t)) f):DE K EX Γ Γ' k (Zb4 K n m sp (UA i) t) (fun ρ=>(obG n m (gv i ρ)).bind fun _=>f ρ):=fun B H0 H σ ρ F R Q A d=>by
 obtain⟨p,gs,xs,e,hm,d⟩:=Dn.obG d.bind
 exact Zf7 hi hmd A e hm (h B H0 H σ ρ F R Q A d)
theorem DM.meth {fm:List PV->Rr (PV×PV)} (hi:Γ[i]?=some .O) (h:DM K EX Γ i (Vp sp (J4 (UA i) t)) fm):DM K EX Γ i (Zb4 K n m sp (UA i) t) (fun ρ=>(obG n m (gv i ρ)).bind fun _=>fm ρ):=fun B H0 H σ ρ F Q A d=>by
 obtain⟨p,gs,xs,e,hm,d⟩:=Dn.obG d.bind
 exact Zf7 hi (by decide) A e hm (h B H0 H σ ρ F Q A d)
noncomputable def Zk9 (n:Str) (m:PV->List PV->Rr PV) (xs:List PV):Rr PV:=match m (.box none (.ob n []) []) xs with
 |.ok (.tup [.non,.box none s ys])=>.ok (.box none s ys)
 |_=>.bad
theorem ZiX {m:PV->List PV->Rr PV}{xs ys:List PV}{s:Sh} (h:m (.box none (.ob n []) []) xs=.ok (.tup [.non,.box none s ys])):Zk9 n m xs=.ok (.box none s ys):=by
 unfold Zk9;simp only[h]
theorem Zjy {l:Nat}{mm:PV->List PV->Rr PV} (hn:Len fa l) (ha:DAA K EX Γ Γ' ta fa):DE K EX Γ Γ' .F (ZhZ K n (spM K l 0 mm) ta) (fun ρ=>(fa ρ).bind (Zk9 n mm)):=fun B H0 H σ ρ F R Q A d=>by
 refine ha B H0 H σ ρ F R _ A (d.bind.imp (fun xs ex d vs H1 F1 s1 f1 p1 A1 x dx C hC hx hdx hne=>?_) fun e q=>q)
 unfold Zk9 at d
 split at d
 ·rename_i s ys em
  have s2:Z5 H1 (upd (upd H1 dx (.own x)) x (.ins C dx [])):=(Z5.newO hdx).trans (Z5.newO (by rw[Zq (Ne.symm hne)];exact hx))
  have nx:∀{a u},Rd H1 a u->a≠x:=fun {a u} r z=>by
   rw[z] at r
   rcases r with r|⟨o,r⟩<;>(rw[hx] at r;cases r)
  refine⟨fun a=>a≠x,xs,vs,x,.ob n [],[],[x],rfl,hn ρ xs ex,Reps.mono (fun a u _ r=>⟨r.same s2,nx r⟩) (fun a u r=>s2.im r) p1,⟨x,[],_,[],rfl,Z0,⟨trivial,rfl,C,dx,rfl,hC⟩,⟨rfl,rfl⟩,by simp,rfl⟩,fun b hb z=>hb (by simpa using z), ?_⟩
  rw[em]
  refine⟨.non,s,ys,rfl,fun u H' G1 G2 sm t1 t2 dj n1 n2=>⟨t1.1, ?_⟩⟩
  have s3:Z5 H1 H':=fun a o e=>by
   have ne:a≠x:=fun z=>by rw[z,hx] at e;cases e
   refine sm a o ?_
   rw[ZE (by simpa using ne)]
   exact s2 a o e
  have fr:∀b∈G2,H1 b=none:=fun b hb=>by
   have:=n2 b hb
   by_cases q:b=x
   ·rw[q];exact hx
   ·rw[ZE (by simpa using q),Zq q] at this
    by_cases q2:b=dx
    ·rw[q2];exact hdx
    ·rw[Zq q2] at this;exact this
  refine d _ H' (s1.trans s3) ⟨F1,f1,G2,t2,fun b hb=>⟨(A1.fresh (fr b hb)).1,.inl (s1.free (fr b hb))⟩,A1.more s3 fr t2.alive⟩
 ·exact d.elim
noncomputable def VO (m:PV->List PV->Rr PV) (x:PV) (xs:List PV):Rr (PV×PV):=if PV.flats xs=true then ZhP m x xs else .bad
theorem JN {l:Nat}{mm:PV->List PV->Rr PV} (hm:Γ[i]?=some .O) (hn:Len fa l) (ha:DAA K EX Γ Γ ta fa):DM K EX Γ i (Vp (spM K l 0 mm) (J4 (UA i) ta)) (fun ρ=>(fa ρ).bind fun xs=>VO mm (gv i ρ) xs):=fun B H0 H σ ρ F Q A d=>by
 obtain⟨v0,h10,_⟩:=A.getO hm
 refine⟨v0,h10,ha B H0 H σ ρ F [] _ A (d.bind.imp (fun xs ea d vs H1 F1 s1 f1 p1 A1=>?_) fun e q=>q)⟩
 unfold VO at d
 split at d
 rotate_left
 ·exact d.elim
 rename_i hfl
 obtain⟨v,h1,h2⟩:=A1.getO hm
 rw[h10] at h1;cases h1
 have hi:=A1.lt hm
 unfold ZhP at d
 split at d
 rotate_left
 ·exact d.elim
 rename_i p s ys er
 rw[show ρ.getD i .non=.box p s ys from er] at h2
 split at d
 rotate_left
 ·exact d.elim
 rename_i y s2 ys2 em
 obtain⟨a,ws,u0,G0,rfl,hH,hb,ht,hna,hF⟩:=id h2
 refine⟨fun b=>b ∉ F1 i,xs,vs,a,s,ys,F1 i,rfl,hn ρ xs ea,p1.flatS hfl,h2.unpin,fun b hb z=>hb z, ?_⟩
 rw[em]
 refine⟨y,s2,ys2,rfl,fun u H' G1 G2 sm t1 t2 dj n1 n2=>?_⟩
 have AL:=(A1.move hm).lost sm
 have nw:∀b,minus H1 (F1 i) b=none->(∀l,b ∉ VY F1 i [] l)/\H0 b=none:=fun b hb=>by
  refine⟨fun l z=>?_, ?_⟩
  ·by_cases q:l=i
   ·subst q;rw[Zt] at z;simp at z
   ·rw[ZA q] at z
    rw[ZE (fun w=>A1.disj l i q b z w)] at hb
    obtain⟨o,e⟩:=A1.live l b z
    rw[hb] at e;cases e
  ·by_cases q:b∈F1 i
   ·exact A1.young i b q
   ·rw[ZE q] at hb
    exact A1.same.free hb
 have AM:Ag K B H0 H' σ (Γ.set i .U) ρ (VY F1 i []) (G2++(G1++[])):=by
  refine⟨AL.same,AL.own,AL.young,fun b hb=>?_,AL.live,fun b hb=>?_,AL.disj,fun l b hb z=>?_,AL.lenS,AL.lenR,fun l=>?_⟩
  ·rcases ZtA.mp hb with z|z
   ·exact(nw b (n2 b z)).2
   ·exact(nw b (n1 b (by simpa using z))).2
  ·rcases ZtA.mp hb with z|z
   ·exact t2.alive b z
   ·exact t1.alive b (by simpa using z)
  ·rcases ZtA.mp z with z|z
   ·exact(nw b (n2 b z)).1 l hb
   ·exact(nw b (n1 b (by simpa using z))).1 l hb
  ·refine((A1.move hm).slot l).mono (fun b o s r=>⟨(r.minus (fun z=>s.2.1 (by simp[z]))).same sm,s.1,fun z=>?_,s.2.2⟩) (fun b o r=>sm.im (r.minus fun c hc=>A1.live i c hc)) fun b hb o q=>sm _ _ ?_
   ·have hb:minus H1 (F1 i) b≠none:=by
     rw[ZE (fun z=>s.2.1 (by simp[z]))]
     rcases r with r|⟨o',r⟩<;>(rw[r];simp)
    rcases ZtA.mp z with z|z
    ·exact hb (n2 b z)
    ·exact hb (n1 b (by simpa using z))
   ·rw[ZE (fun z=>(A1.move hm).disjR l b hb (by simp[z]))];exact q
 have AP:=Ag.put (i:=i) (m:=.O) (x:=.box p s2 ys2) (v:=.ref a) (G:=G2) (R:=G1++[]) AM (by rw[Zul];exact hi) (fun b hb z=>dj b (by simpa using z) hb) ⟨.ref a,rfl,t2.repin hb.1⟩
 rw[Zkg h10,List.set_set,ZgR hm] at AP
 refine d u H' _ G1 ((Frm.of s1 f1).trans fun b o h n=>?_) t1 (fun b hb=>?_) AP
 ·have e:minus H1 (F1 i) b=some o:=by rw[ZE (n i)];exact h
  refine⟨sm _ _ e,fun l z=>?_⟩
  by_cases q:l=i
  ·subst q
   rw[Zt] at z
   rw[n2 b z] at e;cases e
  ·rw[ZA q,ZA q] at z
   exact n l z
 ·have:=n1 b hb
  by_cases q:b∈F1 i
  ·exact .inr ⟨i,f1 i b q⟩
  ·rw[ZE q] at this;exact .inl (s1.free this)
end
section
variable {K:W.Frag}{H:Hp}
mutual
theorem Jc.flat_nil:∀{x:PV}{v:V}{G:List Addr},x.flat=true->Jc K H x v G->G=[]
 |.non,_,_,_,h=>h.2
 |.bl _,_,_,_,h=>h.2
 |.int _,_,_,_,h=>h.2
 |.str _,_,_,_,h=>h.2
 |.exc _,_,_,_,h=>h.2
 |.exa _ _,_,_,_,h=>h.2
 |.box _ _ _,_,_,f,_=>by simp[PV.flat] at f
 |.lst _,_,_,f,_=>by simp[PV.flat] at f
 |.tup xs,_,_,f,h=>by
  obtain⟨a,vs,rfl,ha,ht⟩:=h
  exact Trees.flat_nil (by simpa[PV.flat] using f) ht
 |.fz xs,_,_,f,h=>by
  obtain⟨a,vs,rfl,ha,ht⟩:=h
  exact Trees.flat_nil (by simpa[PV.flat] using f) ht
theorem Trees.flat_nil:∀{xs:List PV}{vs:List V}{G:List Addr},PV.flats xs=true->Trees K H xs vs G->G=[]
 |[],_,_,_,h=>h.2
 |x::xs,_,_,f,h=>by
  obtain⟨v,r,G1,G2,rfl,h3,h4,hd,rfl⟩:=h
  simp only[PV.flats,Bool.and_eq_true] at f
  rw[Jc.flat_nil f.1 h3,Trees.flat_nil f.2 h4];rfl
end
theorem Trees.upL {ys:List PV} (hf:PV.flats ys=true):∀{xs:List PV}{vs:List V}{G:List Addr}{j:Nat},Trees K H xs vs G->xs[j]?=some (.lst ys) ->
  ∃l ws,vs[j]?=some (.ref l)/\H l=some (.lst ws)/\Reps K H (fun _=>True) ys ws/\l∈G/\∀ys' ws',PV.flats ys'=true->Reps K H (fun _=>True) ys' ws'->Trees K (upd H l (.lst ws')) (xs.set j (.lst ys')) vs G
 |[],_,_,_,_,e=>by simp at e
 |x::xs,_,_,0,h,e=>by
  obtain⟨v,r,G1,G2,rfl,h3,h4,hd,rfl⟩:=h
  simp only[Zui,Option.some.injEq] at e
  subst e
  obtain⟨l,ws,G,rfl,hl,ht,hn,rfl⟩:=h3
  have hG:=Trees.flat_nil hf ht
  subst hG
  refine⟨l,ws,rfl,hl,ht.reps fun _ _=>trivial,by simp,fun ys' ws' f r'=>⟨.ref l,r,[l],G2,rfl,⟨l,ws',[],rfl,Z0,(Reps.trees f r').put hl (by simp),by simp,rfl⟩,h4.put hl (hd l (by simp)),hd,rfl⟩⟩
 |x::xs,_,_,j+1,h,e=>by
  obtain⟨v,r,G1,G2,rfl,h3,h4,hd,rfl⟩:=h
  obtain⟨l,ws,e1,hl,hr,hm,up⟩:=Trees.upL hf (j:=j) h4 (by simpa using e)
  exact⟨l,ws,by simpa using e1,hl,hr,by simp[hm],fun ys' ws' f r'=>⟨v,r,G1,G2,rfl,h3.put hl (fun z=>hd l z hm),up ys' ws' f r',hd,rfl⟩⟩
end
theorem Zd3 {F:Nat->List Addr}{i:Nat}:VY F i (F i)=F:=by
 funext j
 by_cases q:j=i
 ·subst q;exact Zt
 ·exact ZA q
theorem ZgS {ρ:List PV}{i:Nat}:ρ.set i (gv i ρ)=ρ:=by
 apply Zu2
 intro q
 by_cases e:i=q
 ·subst e
  by_cases h:i<ρ.length
  ·rw[ZtH h,gv,Zt5,Zt6 h];rfl
  ·rw[ZtF (by simpa using h),ZtF (by simpa using h)]
 ·rw[ZtJ e]
section
variable {K:W.Frag}{B:Addr->Prop}{EX:PX->Hp->Prop}{H0 H H':Hp}{σ:St}{Γ Γ1 Γ2:List Md}{ρ:List PV}{F F':Nat->List Addr}{R:List Addr}{te tb:TE}{f:List PV->Rr PV}{fm fm2:List PV->Rr (PV×PV)}{fs:List Str}{n fl m:Str}{i l:Nat}{k:Kd}
theorem Ag.fldL {p:Option Addr}{gs:List Str}{xs ys:List PV} (A:Ag K B H0 H σ Γ ρ F R) (hm:Γ[i]?=some .O) (e:ρ.getD i .non=.box p (.ob n gs) xs) (hj:xs[gs.idxOf fl]?=some (.lst ys)) (hf:PV.flats ys=true) :
  ∃a C dx fs l ws,σ[i]?=some (some (.ref a))/\H a=some (.ins C dx fs)/\VP K n C/\fs.lookup fl=some (.ref l)/\H l=some (.lst ws)/\l≠a/\Reps K H (fun _=>True) ys ws/\l∈F i /\
   ∀ys' ws',PV.flats ys'=true->Reps K H (fun _=>True) ys' ws'->Ag K B H0 (upd H l (.lst ws')) σ Γ (ρ.set i (.box p (.ob n gs) (xs.set (gs.idxOf fl) (.lst ys')))) F R:=by
 obtain⟨v,h1,h2⟩:=A.getO hm
 rw[e] at h2
 obtain⟨a,vs,u,G,rfl,ha,⟨hp,hl,C,dx,rfl,hC⟩,ht,hn,hF⟩:=h2
 obtain⟨q,ws,e1,e2,e3,e4,up⟩:=Trees.upL hf ht hj
 have hqa:q≠a:=fun z=>hn (z▸e4)
 have hqF:q∈F i:=by rw[hF];simp[e4]
 refine⟨a,C,dx,_,q,ws,h1,ha,hC,by rw[Ql hl];exact e1,e2,hqa,e3,hqF,fun ys' ws' f r=>?_⟩
 have AC:=Ag.chg (G:=[]) (G':=F i) (R:=R) (x':=.box p (.ob n gs) (xs.set (gs.idxOf fl) (.lst ys'))) (vs':=ws') A hm hqF (fun b hb=>.inl hb) (by simp) ⟨_,h1,a,vs,_,G,rfl,by rw[Zq (Ne.symm hqa)];exact ha,⟨hp,hl,C,dx,rfl,hC⟩,up ys' ws' f r,hn,hF⟩
 rw[Zd3] at AC
 exact AC
def DMf (K:W.Frag) (EX:PX->Hp->Prop) (Γ:List Md) (i:Nat) (te:TE) (fm:List PV->Rr (PV×PV)):Prop:=
 ∀(B:Addr->Prop) (H0 H:Hp) (σ:St) (ρ:List PV) (F:Nat->List Addr) (Q:VK),Ag K B H0 H σ Γ ρ F [] ->
  Dn (fm ρ) (fun r=>∀v H' F',Frm H F H' F'->(∀a C dx fs,H a=some (.ins C dx fs)->H' a=some (.ins C dx fs))->r.1.flat=true->Rep K H' (fun _=>True) r.1 v->Ag K B H0 H' σ Γ (ρ.set i r.2) F' []->Q v H') (fun e=>∀H',Z5 H0 H'->EX e H')->te σ H Q
theorem DMf.dm (h:DMf K EX Γ i te fm):DM K EX Γ i te fm:=fun B H0 H σ ρ F Q A d =>
 h B H0 H σ ρ F Q A (d.imp (fun r _ q v H' F' fr _ hf rp A'=>q v H' F' [] fr (rp.tree hf) (by simp) A') fun e q=>q)
theorem ZdR (he:DE K EX Γ Γ .P te f):DMf K EX Γ i te (fun ρ=>(f ρ).bind fun x=>.ok (x,gv i ρ)):=fun B H0 H σ ρ F Q A d=>by
 refine he B H0 H σ ρ F [] _ A (d.bind.imp (fun x _ d v H1 s1 r=>?_) fun e q=>q)
 obtain⟨F1,f1,hf,p1,A1⟩:=r
 exact d v H1 F1 (Frm.of s1 f1) (fun a C dx fs e=>s1 _ _ e) hf p1 (by rw[ZgS];exact A1)
noncomputable def popL (ys:List PV):Rr (PV×List PV):=if PV.flats ys=true/\ys.length≠0 then .ok (ys.getD (ys.length-1) .non,ys.dropLast) else .bad
theorem Dn.popL {ys:List PV}{ok:PV×List PV->Prop}{ex:PX->Prop} (d:Dn (popL ys) ok ex):PV.flats ys=true/\0<ys.length/\ok (ys.getD (ys.length-1) .non,ys.dropLast):=by
 unfold L2.popL at d
 split at d
 ·rename_i h
  exact⟨h.1,by omega,d⟩
 ·exact d.elim
noncomputable def Q7 (n fl:Str) (x:PV) (ys:List PV):Rr PV:=match x with
 |.box p (.ob m gs) xs=>.ok (.box p (.ob m gs) (xs.set (gs.idxOf fl) (.lst ys)))
 |_=>.bad
noncomputable def ZiG (n fl:Str) (x:PV):Rr (PV×PV):=(pFld n fl x).bind fun y=>(asL y).bind fun ys=>(popL ys).bind fun r=>(Q7 n fl x r.2).bind fun z=>.ok (r.1,z)
theorem VH {ys:List PV} (h:PV.flats ys=true) (h0:0<ys.length):(ys.getD (ys.length-1) .non).flat=true:=by
 have hx:ys[ys.length-1]?=some (ys.getD (ys.length-1) .non):=by rw[Zt5,Zt6 (by omega)];rfl
 exact PV.flats_all.mp h _ (Zug hx)
theorem ZaA {ys:List PV} (h:PV.flats ys=true):PV.flats ys.dropLast=true:=PV.flats_all.mpr fun x hx=>PV.flats_all.mp h x (Zuo _ hx)
theorem ZbG {S:Addr->Prop}{ys:List PV}{ws:List V} (h:Reps K H S ys ws):Reps K H S ys.dropLast ws.dropLast:=by
 rw[List.dropLast_eq_take,List.dropLast_eq_take,h.length];exact h.take _
theorem ZbF {S:Addr->Prop}{ys:List PV}{ws:List V} (h:Reps K H S ys ws) (h0:0<ys.length):∃w,ws[ws.length-1]?=some w/\Rep K H S (ys.getD (ys.length-1) .non) w:=by
 have hx:ys[ys.length-1]?=some (ys.getD (ys.length-1) .non):=by rw[Zt5,Zt6 (by omega)];rfl
 obtain⟨w,e1,e2⟩:=h.get hx
 exact⟨w,by rw[h.length];exact e1,e2⟩
theorem ZdM {x:PV}{v:V}{q:Addr}{ws:List V}{o:HO} (hq:H q=some (.lst ws)) (hf:x.flat=true) (h:Rep K H (fun _=>True) x v):Rep K (upd H q o) (fun _=>True) x v:=((h.tree hf).put hq (by simp)).rep (by simp)
theorem QX {q:Addr}{o:HO} (hq:q∈F i):Frm H F (upd H q o) F:=fun b u h n=>⟨by rw[Zq (fun z=>n i (by rw[z];exact hq))];exact h,n⟩
theorem ZcK (O:ObC K n fs) (hf:fl∈fs) (hm:Γ[i]?=some .O):DMf K EX Γ i (Zl8 K "list" ZlW (ZeN K (UA i) fl)) (fun ρ=>ZiG n fl (gv i ρ)):=fun B H0 H σ ρ F Q A d=>by
 obtain⟨C,hC,c,na⟩:=O
 obtain⟨p,gs,xs,y,e,ey,d⟩:=Dn.pFld d.bind
 obtain⟨ys,ye,d⟩:=Dn.asL d.bind
 rw[ye] at ey
 obtain⟨hfl,h0,d⟩:=Dn.popL d.bind
 have e':ρ.getD i .non=.box p (.ob n gs) xs:=e
 obtain⟨a,C',dx,fs',q,ws,h1,ha,hC',lk,hq,hqa,hr,hqF,up⟩:=A.fldL hm e' ey hfl
 obtain rfl:=hC.inj hC'
 dsimp only at d
 rw[e] at d
 have d:(∀v H' F',_):=d
 obtain⟨w,hw,rw'⟩:=ZbF hr h0
 refine⟨.ref a,h1,a,C,dx,fs',.ref q,rfl,.inl ha,c,na _ hf,lk,.inl ⟨rfl,_,SqL.of hq⟩,q,ws,w,rfl,rfl,hq,hw, ?_⟩
 refine d w _ F (QX hqF) (fun b D ex gs' hb=>?_) (VH hfl h0) (ZdM hq (VH hfl h0) rw') (up _ _ (ZaA hfl) (ZbG hr))
 rw[Zq (fun z=>by rw[z,hq] at hb;cases hb)];exact hb
theorem ZdN {x:PV}{v:V} (A:Ag K B H0 H σ Γ ρ F R) (fr:Frm H F H' F') (hf:x.flat=true) (h:Rep K H (fun _=>True) x v):Rep K H' (fun _=>True) x v:=by
 refine Jc.rep (F:=[]) (by simp) (Jc.mono (by simp) (fun a u im=>?_) (h.tree hf))
 refine⟨(fr a u im.1 fun j z=>?_).1,im.2⟩
 obtain⟨vs,q⟩:=A.live j a z
 rw[im.1] at q
 exact Qs vs.2 im.2 (Option.some.inj q)
theorem ZhB (h1:DMf K EX Γ i te fm) (h2:DMf K EX Γ i tb fm2):DMf K EX Γ i (ZjU (J4 te (J4 tb Zcx))) (fun ρ=>(fm ρ).bind fun r=>(fm2 (ρ.set i r.2)).bind fun q=>.ok (.tup [r.1,q.1],q.2)):=fun B H0 H σ ρ F Q A d=>by
 refine h1 B H0 H σ ρ F _ A (d.bind.imp (fun r _ d v H1 F1 fr1 k1 hf1 p1 A1=>?_) fun e q=>q)
 refine h2 B H0 H1 σ _ F1 _ A1 (d.bind.imp (fun q _ d w H2 F2 fr2 k2 hf2 p2 A2=>?_) fun e q=>q)
 refine⟨by show 2<=_;rw[sizeLine_eq];decide,fun p hp=>?_⟩
 have s3:Z5 H2 (upd H2 p (.tup [v,w])):=Z5.new hp
 have A3:=A2.grow s3
 rw[List.set_set] at A3
 have p1':=ZdN A1 fr2 hf1 p1
 exact d _ _ F2 ((fr1.trans fr2).trans (Frm.of s3 fun _ _ h=>h)) (fun a C dx fs e=>s3 _ _ (k2 _ _ _ _ (k1 _ _ _ _ e))) (by simp[PV.flat,PV.flats,hf1,hf2]) ⟨p,_,rfl,⟨Z0,trivial⟩,v,_,rfl,p1'.same s3,w,_,rfl,p2.same s3,rfl⟩ A3
noncomputable def Zj7 (n fl:Str) (x y:PV):Rr PV:=(pFld n fl x).bind fun z=>(asL z).bind fun ys=>if PV.flats ys=true/\ys.length<1000000 then Q7 n fl x (ys++[y]) else .bad
noncomputable def Zji (n fl:Str) (x:PV):Rr PV:=(pFld n fl x).bind fun z=>(asL z).bind fun ys=>if PV.flats ys=true then .ok .non else .bad
theorem Zah (O:ObC K n fs) (hf:fl∈fs) (hm:Γ[i]?=some .O) (he:DMf K EX Γ i te fm):DS K EX Γ ⟨Γ,Γ1,Γ2,k⟩ (Zcz (tBM K "list" ZaP (ZeN K (UA i) fl) (J4 te Zcx)))
  (fun ρ=>(Zji n fl (gv i ρ)).thenS fun _=>(fm ρ).thenS fun r=>(Zj7 n fl r.2 r.1).thenS fun z=>.next (ρ.set i z)):=fun B H0 H σ ρ F D A d=>by
 obtain⟨C,hC,c,na⟩:=O
 have d:=d.thenS
 obtain⟨p,gs,xs,y,e,ey,d⟩:=Dn.pFld d.bind
 obtain⟨ys,ye,d⟩:=Dn.asL d.bind
 rw[ye] at ey
 split at d
 rotate_left
 ·exact d.elim
 rename_i hfl
 have e':ρ.getD i .non=.box p (.ob n gs) xs:=e
 obtain⟨a,C',dx,fs',q,ws,h1,ha,hC',lk,hq,hqa,hr,hqF,up⟩:=A.fldL hm e' ey hfl
 obtain rfl:=hC.inj hC'
 refine⟨.ref a,h1,a,C,dx,fs',.ref q,rfl,.inl ha,c,na _ hf,lk,.inl ⟨rfl,_,SqL.of hq⟩, ?_⟩
 refine he B H0 H σ ρ F _ A ((show DnS _ _ _ _ _ _ _ _ _ from d).thenS.imp (fun r _ d v H1 F1 fr1 k1 hf1 p1 A1=>?_) fun e q=>q)
 have d:=d.thenS
 obtain⟨p2,gs2,xs2,y2,e2,ey2,d⟩:=Dn.pFld d.bind
 obtain⟨ys2,ye2,d⟩:=Dn.asL d.bind
 rw[ye2] at ey2
 split at d
 rotate_left
 ·exact d.elim
 rename_i hfl2
 have hi:=A.lt hm
 have e3:(ρ.set i r.2).getD i .non=.box p2 (.ob n gs2) xs2:=by
  rw[Zt5,ZtH (by rw[A.lenR];exact hi)];exact e2
 obtain⟨a2,C2,dx2,fs2,q2,ws2,h12,ha2,hC2,lk2,hq2,hqa2,hr2,hqF2,up2⟩:=A1.fldL hm e3 ey2 hfl2.1
 rw[h1] at h12;cases h12
 have hk:=k1 _ _ _ _ ha
 rw[ha2] at hk;cases hk
 rw[lk] at lk2;cases lk2
 rw[e2] at d
 refine⟨q,ws2,v,rfl,rfl,hq2,by rw[hr2.length];exact ZtC hfl2.2 (by rw[sizeLine_eq];decide), ?_⟩
 have A4:=up2 (ys2++[r.1]) (ws2++[v]) (by rw[PV.flats_append,hfl2.1];simp[PV.flats,hf1]) (hr2.append (Reps.one p1))
 rw[List.set_set] at A4
 exact(show ∀σ' H' F',_ from d) σ _ F1 (fr1.trans (QX hqF2)) A4
end
noncomputable def Zfe (f:Str) (gs:List Str):List Str:=if f∈gs then gs else gs++[f]
noncomputable def Zc4 {α:Type} (f:Str) (gs:List Str) (xs:List α) (y:α):List α:=if f∈gs then xs.set (gs.idxOf f) y else xs++[y]
theorem Zdr {f:Str}{v:V}:∀{gs:List Str}{vs:List V},gs.length=vs.length->Zay f v (gs.zip vs)=(Zfe f gs).zip (Zc4 f gs vs v)
 |[],[],_=>by simp[Zay,Zfe,Zc4]
 |[],_::_,h=>by simp at h
 |_::_,[],h=>by simp at h
 |g::gs,w::vs,h=>by
  have ih:=Zdr (f:=f) (v:=v) (gs:=gs) (vs:=vs) (by simpa using h)
  unfold Zfe Zc4 at ih ⊢
  rw[Zun,Zay]
  by_cases e:g=f
  ·subst e
   simp[ZuO]
  ·have e2:(g==f)=false:=beq_eq_false_iff_ne.mpr e
   rw[if_neg e,ih]
   by_cases hm:f∈gs
   ·rw[if_pos hm,if_pos hm,if_pos (by simp[hm]),if_pos (by simp[hm]),ZuO,e2]
    simp
   ·have hm':f ∉ g::gs:=by simp[hm,Ne.symm e]
    rw[if_neg hm,if_neg hm,if_neg hm',if_neg hm']
    simp
theorem ZgU {α:Type}{f:Str}{gs:List Str}{vs:List α}{v:α} (h:gs.length=vs.length):(Zfe f gs).length=(Zc4 f gs vs v).length:=by
 unfold Zfe Zc4
 split<;>simp[h]
noncomputable def pSetF (n f:Str) (x y:PV):Rr PV:=match x with
 |.box p (.ob m gs) xs=>if m=n/\gs.length<1000 then .ok (.box p (.ob m (Zfe f gs)) (Zc4 f gs xs y)) else .bad
 |_=>.bad
theorem Dn.pSetF {n f:Str}{x y:PV}{ok:PV->Prop}{ex:PX->Prop} (d:Dn (pSetF n f x y) ok ex):∃p gs xs,x=.box p (.ob n gs) xs/\gs.length<1000/\ok (.box p (.ob n (Zfe f gs)) (Zc4 f gs xs y)):=by
 unfold L2.pSetF at d
 split at d
 ·rename_i p m gs xs
  split at d
  ·rename_i h
   obtain⟨rfl,h⟩:=h
   exact⟨p,gs,xs,rfl,h,d⟩
  ·exact d.elim
 ·exact d.elim
section
variable {K:W.Frag}{B:Addr->Prop}{EX:PX->Hp->Prop}{H0 H H':Hp}{σ:St}{Γ Γ' Γ1 Γ2:List Md}{ρ:List PV}{F F':Nat->List Addr}{R:List Addr}{te:TE}{f:List PV->Rr PV}{fs:List Str}{n fl:Str}{i:Nat}{k:Kd}
theorem Trees.setN:∀{xs:List PV}{vs:List V}{G G1:List Addr}{j:Nat}{y:PV}{w:V},Trees K H xs vs G->Jc K H y w G1->(∀a∈G,a ∉ G1)->∃G',(∀a∈G',a∈G\/a∈G1)/\Trees K H (xs.set j y) (vs.set j w) G'
 |[],_,_,_,_,_,_,h,_,_=>⟨[],by simp,by rw[h.1];exact⟨rfl,rfl⟩⟩
 |x::xs,_,_,G3,0,y,w,h,h',hd=>by
  obtain⟨v,r,G1,G2,rfl,h1,h2,h3,rfl⟩:=h
  refine⟨G3++G2,fun a ha=>?_,w,r,G3,G2,rfl,h',h2,fun a ha z=>hd a (by simp[z]) ha,rfl⟩
  rcases ZtA.mp ha with z|z
  ·exact .inr z
  ·exact .inl (by simp[z])
 |x::xs,_,_,G3,j+1,y,w,h,h',hd=>by
  obtain⟨v,r,G1,G2,rfl,h1,h2,h3,rfl⟩:=h
  obtain⟨G',h4,h5⟩:=Trees.setN (j:=j) h2 h' fun a ha=>hd a (by simp[ha])
  refine⟨G1++G',fun a ha=>?_,v,r.set j w,G1,G',rfl,h1,h5,fun a ha z=>?_,rfl⟩
  ·rcases ZtA.mp ha with z|z
   ·exact .inl (by simp[z])
   ·rcases h4 a z with q|q
    ·exact .inl (by simp[q])
    ·exact .inr q
  ·rcases h4 a z with q|q
   ·exact h3 a ha q
   ·exact hd a (by simp[ha]) q
theorem Trees.putXs {xs:List PV}{vs:List V}{G G1:List Addr}{y:PV}{w:V}{gs:List Str} (h:Trees K H xs vs G) (h':Jc K H y w G1) (hd:∀a∈G,a ∉ G1):∃G',(∀a∈G',a∈G\/a∈G1)/\Trees K H (Zc4 fl gs xs y) (Zc4 fl gs vs w) G':=by
 unfold Zc4
 split
 ·exact Trees.setN h h' hd
 ·exact⟨G++G1,fun a ha=>ZtA.mp ha,Trees.append h (Trees.one h') hd⟩
theorem U1 (O:ObC K n fs) (hf:fl∈fs) (hm:Γ'[i]?=some .O) (he:DE K EX Γ Γ' .F te f):DS K EX Γ ⟨Γ',Γ1,Γ2,k⟩ (ZlS K (UA i) te fl) (fun ρ=>(f ρ).thenS fun y=>(pSetF n fl (gv i ρ) y).thenS fun z=>.next (ρ.set i z)):=fun B H0 H σ ρ F D A d=>by
 obtain⟨C,hC,c,na⟩:=O
 refine he B H0 H σ ρ F [] _ A (d.thenS.imp (fun y _ d v H1 s1 r=>?_) fun e q=>q)
 obtain⟨F1,f1,G1,t1,o1,A1⟩:=r
 obtain⟨p,gs,xs,e,hl,d⟩:=Dn.pSetF d.thenS
 obtain⟨w,h1,h2⟩:=A1.getO hm
 rw[show ρ.getD i .non=.box p (.ob n gs) xs from e] at h2
 obtain⟨a,vs,u,G,rfl,ha,⟨hp,hlen,C',dx,rfl,hC'⟩,ht,hn,hF⟩:=h2
 obtain rfl:=hC.inj hC'
 have haF:a∈F1 i:=by rw[hF];simp
 have dj:∀b∈G,b ∉ G1:=fun b hb z=>A1.disjR i b (by rw[hF];simp[hb]) (Zt8 _ z)
 have na1:a ∉ G1:=fun z=>A1.disjR i a haF (Zt8 _ z)
 obtain⟨G',g1,g2⟩:=Trees.putXs (fl:=fl) (gs:=gs) ht t1 dj
 have naG:a ∉ G':=fun z=>(g1 a z).elim hn na1
 refine⟨.ref a,h1,a,C,dx,_,rfl,ha,c,na _ hf,by rw[ZuM];omega, ?_⟩
 have hsub:∀b∈a::G',b∈F1 i\/b∈G1:=fun b hb=>by
  rw[hF]
  rcases ZtE.mp hb with rfl|hb
  ·simp
  ·rcases g1 b hb with z|z
   ·simp[z]
   ·exact .inr z
 refine(show ∀σ' H' F',_ from d) σ _ (VY F1 i (a::G')) (QY s1 f1 haF fun b hb=>?_) (Ag.chgB (o':=.ins C dx (Zay fl v (gs.zip vs))) (G:=G1) (R:=[]) trivial A1 hm haF hsub (by simp) ?_)
 ·rcases hsub b hb with z|z
  ·exact .inr ⟨i,f1 i b z⟩
  ·exact(o1 b z).2
 ·exact⟨_,h1,a,Zc4 fl gs vs v,_,G',rfl,Z0,⟨hp,ZgU hlen,C,dx,by rw[Zdr hlen],hC⟩,g2.putL (us:=⟨.ins C dx (gs.zip vs),trivial⟩) ha naG,naG,rfl⟩
end
section
variable {X:Cx}{K:W.Frag}{o value:Expr}{f:Str}{pos pos':Pos}{ta tv:TE}
theorem ZaR (ha:PE X o ta) (hv:PE X value tv) (eK:X.K=K:=by rfl) (hs:swapsWith value (some (.Attribute o f pos')) pos.line X.env=pure false:=by rfl):PS X (.Assign [.Attribute o f pos'] value pos) (ZlS K ta tv f):=by
 subst eK;exact Zkq ha hv hs
end
noncomputable def unp (x:PV):PV:=match x with
 |.box _ s xs=>.box none s xs
 |x=>x
section
variable {K:W.Frag}{EX:PX->Hp->Prop}{Γ Γ':List Md}{te:TE}{f:List PV->Rr PV}
theorem Zlb (he:DE K EX Γ Γ' .A te f):DE K EX Γ Γ' .A te (fun ρ=>(f ρ).bind fun x=>.ok (unp x)):=fun B H0 H σ ρ F R Q A d=>by
 refine he B H0 H σ ρ F R _ A (d.bind.imp (fun x _ d v H1 s1 r=>?_) fun e q=>q)
 obtain⟨F1,f1,p1,A1⟩:=r
 refine d v H1 s1 ⟨F1,f1, ?_,A1⟩
 cases x with
 |box p s xs =>
  obtain⟨a,vs,u,rfl,h1,⟨_,h2⟩,h3⟩:=p1
  exact⟨a,vs,u,rfl,h1,⟨trivial,h2⟩,h3⟩
 |_=>exact p1
end
noncomputable def UW (K:W.Frag) (n:Str) (fs:List Str):Bool:=match PySem.W.nsIn K mainGlobals n with
 |some (some (.ref C))=>PySem.W.plainGet K C Str.empty&&PySem.W.hasDictIn K C&&PySem.W.plainOver K C&&PySem.W.makesIn K C&&PySem.W.keepIn K (.ref C)&&(PySem.W.findIn K (.ref C) "__setattr__" == some (some (.builtin "object.__setattr__")))&&fs.all (fun f=>PySem.W.findIn K (.ref C) f==some none)
 |_=>false
theorem U6 {K:W.Frag}{n:Str}{fs:List Str} (h:UW K n fs=true):∃C,VP K n C/\Cls K C/\(∀f∈fs,Zam K C f)/\PySem.W.makesIn K C=true/\PySem.W.keepIn K (.ref C)=true:=by
 unfold UW at h
 split at h
 ·rename_i C e
  simp only[Bool.and_eq_true,ZtX,beq_iff_eq] at h
  obtain⟨⟨⟨⟨⟨⟨h1,h2⟩,h3⟩,h4⟩,h5⟩,h6⟩,h7⟩:=h
  exact⟨C,e,⟨h1,h2,h3,h6⟩,h7,h4,h5⟩
 ·cases h
theorem Z2 {K:W.Frag}{n:Str}{fs:List Str} (h:UW K n fs=true):ObC K n fs:=let ⟨C,a,b,c,_⟩:=U6 h;⟨C,a,b,c⟩
section
variable {P:Program}{w:World}{K:W.Frag}{mg:Str->Option Value}{base:Heap}{k:Nat}{n m qual:Str}{st:Stmt}{ps fs:List Str}{sp:Sp}
theorem VR (h:UW K n fs=true) (d:Zao K n m qual st) (b:∀(kV doc pm:Value) (an:Option Addr) (cdv ct:Value) (us:List Value),us.length=ps.length->bindArgs (PySem.W.fnOf m qual (Zo st) (Zn st) (Zd st) .none kV doc pm an cdv ct) ⟨us,[]⟩=pure (ps.zip us))
  (hf:∀{f fd},Fun K m qual st f fd->Jd P w K mg base CX0 k f fd ps sp):OkM P w K mg base k n m ps sp:=by
 obtain⟨C,a,c,_,_⟩:=U6 h
 obtain⟨C',f,fd,hC,h1,h2,F⟩:=d
 obtain rfl:=a.inj hC
 exact⟨C,f,fd,a,c,⟨h1,by unfold PySem.W.isFn;rw[h2];rfl,F.kp⟩,hf F,F.binds b⟩
theorem Zk5 (h:UW K n fs=true) (d:Zao K n "__init__" qual st) (hg:∀C,VP K n C->mg n=some (.ref C)) (b:∀(kV doc pm:Value) (an:Option Addr) (cdv ct:Value) (us:List Value),us.length=ps.length->bindArgs (PySem.W.fnOf "__init__" qual (Zo st) (Zn st) (Zd st) .none kV doc pm an cdv ct) ⟨us,[]⟩=pure (ps.zip us))
  (hf:∀{f fd},Fun K "__init__" qual st f fd->Jd P w K mg base CX0 k f fd ps sp):OkC P w K mg base k n ps sp:=by
 obtain⟨C,a,c,_,mk,kp⟩:=U6 h
 obtain⟨C',f,fd,hC,h1,h2,F⟩:=d
 obtain rfl:=a.inj hC
 exact⟨C,f,fd,a,hg C a,⟨mk,h1,by unfold PySem.W.isFn;rw[h2];rfl,kp⟩,hf F,F.binds b⟩
end
noncomputable def ZhY (K:W.Frag) (n m:Str) (sp:Sp) (E:St->XK) (ta:TE):TE:=fun σ H Q=>ta σ H fun x H1=>∃a C dx fs,x=.ref a/\Rd H1 a (.ins C dx fs)/\VP K n C/\fs.lookup m=none/\sp [x] H1 Q (E σ)
def ZmG (P:Program) (w:World) (K:W.Frag) (mg:Str->Option Value) (base:Heap) (k:Nat) (n m:Str) (ps:List Str) (sp:Sp):Prop:=
 ∃C f fd,VP K n C/\Cls K C/\Znk K C m f/\Jd P w K mg base (CX1 P w) k f fd ps sp/\UK K fd ps []
section
variable {X:Cx}{o:Expr}{n m:Str}{pos apos:Pos}{ta:TE}{k:Nat}{ps:List Str}{sp:Sp}{E:St->XK}
theorem ZbK {pl:Sem Bool} (G:ZmG X.prog X.w X.K X.mg X.base k n m ps sp) (hr:Vu k X.A) (hx:Ze8 X E) (he:PE X o ta)
  (ht:eval (.Call (.Attribute o m apos) [] [] pos) X.env=(do
   let ov <- eval o X.env
   standAt apos.atName
   let (f,first) <- holding [ov] (getMethod ov m pl)
   callWith pos f first (backTo pos (starEach [] X.env)) (backToKw pos (keywordEach [] X.env))):=by rfl) :
  PE X (.Call (.Attribute o m apos) [] [] pos) (ZhY X.K n m sp E ta):=by
 obtain⟨C,f,fd,hC,c,hm,F,hb⟩:=G
 intro pins s σ H Q I h
 refine PySem.W.methodCall_KW (pl:=pl) (thn (he pins s σ H _ I h) fun u s1 ⟨x,H1,I1,rx,a,C',dx,fs,ex,ea,hC',l,q⟩=>?_) ht
 subst ex
 obtain rfl:=hC.inj hC'
 obtain rfl:u=Value.ref a:=rx
 obtain⟨mA,O,r⟩:=Ux I1 ea
 refine Qu I1.kIn O (c.get m) hm.at_ hm.fn (ZaF.none_of (by rw[<- l];exact r m)) ?_
 refine PySem.W.callWith_K0 (first:=[.ref a]) I1.kIn hm.kp ?_
 have rv:ZT [V.ref a] [Value.ref a]:=.cons rfl .nil
 have hl:(([Value.ref a]:List Value)++[]).length=ps.length:=by rw[ZtW,<- rv.length];exact F.len _ _ _ _ q
 have hb':=hb s1 [.ref a] I1.kIn hl
 rw[ZtW] at hb'
 refine wpAny_call (codeAny_mono (F.run X.A X.stack s1 H1 ⟨[.ref a],[]⟩ [.ref a] [.ref a] Q (E σ) hr I1.env0 hb' rv q) fun r s' hq=>?_)
 cases r with
 |error e=>exact hx pins σ H1 s1 e s' I1 hq
 |ok fl =>
  cases fl with
  |ret u=>exact I1.after hq
  |next=>exact False.elim hq
  |brk=>exact False.elim hq
  |cont=>exact False.elim hq
end
section
variable {K:PySem.W.Frag}{EX:PX->Hp->Prop}{Γ Γ':List Md}{te:TE}{f:List PV->Rr PV}{n m:Str}{W:PX->XK->Hp->Prop}{E:XK}{mm:List PV->Rr PV}
theorem ZdU (hW:∀e H',EX e H'->W e E H') (he:DE K EX Γ Γ' .A te f):DE K EX Γ Γ' .P (ZhY K n m (spF K 1 .P W mm) (fun _=>E) te) (fun ρ=>(f ρ).bind fun x=>(obG n m x).bind fun _=>mm [unp x]):=fun B H0 H σ ρ F R Q A d=>by
 refine he B H0 H σ ρ F R _ A (d.bind.imp (fun x _ d v H1 s1 r=>?_) fun e q=>q)
 obtain⟨F1,f1,p1,A1⟩:=r
 obtain⟨p,gs,xs,rfl,hm,d⟩:=Dn.obG d.bind
 obtain⟨a,vs,u,rfl,⟨rd,hS⟩,⟨hp,hl,C,dx,rfl,hC⟩,hr⟩:=p1
 refine⟨a,C,dx,_,rfl,rd,hC,ZaG hl hm,fun _=>True,[.box none (.ob n gs) xs],⟨_,_,rfl,⟨a,vs,_,rfl,⟨rd,hS⟩,⟨trivial,hl,C,dx,rfl,hC⟩,hr⟩,rfl⟩,rfl, ?_⟩
 exact d.imp (fun x _ d v H2 s2 r=>d v H2 (s1.trans s2) ⟨F1,f1,r.1,r.2,A1.grow s2⟩) fun e q H2 s2=>hW e H2 (q H2 (A1.same.trans s2))
end
section
variable {P:Program}{w:World}{K:W.Frag}{mg:Str->Option Value}{base:Heap}{k:Nat}{n m qual:Str}{st:Stmt}{ps fs:List Str}{sp:Sp}
theorem ZaX (h:UW K n fs=true) (d:Zao K n m qual st) (b:∀(kV doc pm:Value) (an:Option Addr) (cdv ct:Value) (us:List Value),us.length=ps.length->bindArgs (PySem.W.fnOf m qual (Zo st) (Zn st) (Zd st) .none kV doc pm an cdv ct) ⟨us,[]⟩=pure (ps.zip us))
  (hf:∀{f fd},Fun K m qual st f fd->Jd P w K mg base (CX1 P w) k f fd ps sp):ZmG P w K mg base k n m ps sp:=by
 obtain⟨C,a,c,_,_⟩:=U6 h
 obtain⟨C',f,fd,hC,h1,h2,F⟩:=d
 obtain rfl:=a.inj hC
 exact⟨C,f,fd,a,c,⟨h1,by unfold PySem.W.isFn;rw[h2];rfl,F.kp⟩,hf F,F.binds b⟩
end
noncomputable def ZmJ (x:PV):PV:=match x with
 |.box _ .ls xs=>.lst xs
 |x=>x
noncomputable def popLs (x:PV):Rr (PV×PV):=match x with
 |.box p .ls xs=>(popL xs).bind fun r=>.ok (r.1,.box p .ls r.2)
 |_=>.bad
noncomputable def isLs (x:PV):Rr PV:=match x with
 |.box _ .ls xs=>if PV.flats xs=true then .ok .non else .bad
 |_=>.bad
noncomputable def appLs (x y:PV):Rr PV:=match x with
 |.box p .ls xs=>if PV.flats xs=true/\xs.length<1000000 then .ok (.box p .ls (xs++[y])) else .bad
 |_=>.bad
noncomputable def Zj3 (x:PV):PV:=match x with
 |.box p .ls _=>.box p .ls []
 |x=>x
noncomputable def prP (x:PV):Rr (PV×PV):=match x with
 |.tup [a,b]=>.ok (a,b)
 |_=>.bad
noncomputable def ZlT (y x0 x1 x2:PV):RS:=match x0,x1,x2 with
 |.box (some a0) .ls z0,.box (some a1) .ls z1,.box (some a2) .ls z2=>if PV.flats z0=true/\PV.flats z1=true/\PV.flats z2=true then .ret (.tup [y,.box (some a0) .ls z0,.box (some a1) .ls z1,.box (some a2) .ls z2]) else .bad
 |_,_,_=>.bad
section
variable {ok:PV×PV->Prop}{okv:PV->Prop}{ex:PX->Prop}{x y:PV}
theorem Dn.popLs (d:Dn (popLs x) ok ex):∃p xs,x=.box p .ls xs/\PV.flats xs=true/\0<xs.length/\ok (xs.getD (xs.length-1) .non,.box p .ls xs.dropLast):=by
 unfold L2.popLs at d
 split at d
 ·rename_i p xs
  obtain⟨h1,h2,d⟩:=Dn.popL d.bind
  exact⟨p,xs,rfl,h1,h2,d⟩
 ·exact d.elim
theorem Dn.isLs (d:Dn (isLs x) okv ex):∃p xs,x=.box p .ls xs/\PV.flats xs=true/\okv .non:=by
 unfold L2.isLs at d
 split at d
 ·rename_i p xs
  split at d
  ·rename_i h;exact⟨p,xs,rfl,h,d⟩
  ·exact d.elim
 ·exact d.elim
theorem Dn.appLs (d:Dn (appLs x y) okv ex):∃p xs,x=.box p .ls xs/\PV.flats xs=true/\xs.length<1000000/\okv (.box p .ls (xs++[y])):=by
 unfold L2.appLs at d
 split at d
 ·rename_i p xs
  split at d
  ·rename_i h;exact⟨p,xs,rfl,h.1,h.2,d⟩
  ·exact d.elim
 ·exact d.elim
theorem Dn.prP (d:Dn (prP x) ok ex):∃a b,x=.tup [a,b]/\ok (a,b):=by
 unfold L2.prP at d
 split at d
 ·exact⟨_,_,rfl,d⟩
 ·exact d.elim
end
section
variable {K:W.Frag}{B:Addr->Prop}{EX:PX->Hp->Prop}{H0 H H':Hp}{σ:St}{Γ Γ' Γ1 Γ2 Γ3:List Md}{ρ:List PV}{F F':Nat->List Addr}{R:List Addr}{te tb:TE}{f:List PV->Rr PV}{fm fm2:List PV->Rr (PV×List PV)}{i:Nat}{k:Kd}{m:List PV->Rr PV}
theorem ZcO (he:DE K EX Γ Γ' .A te f):DE K EX Γ Γ' .A te (fun ρ=>(f ρ).bind fun x=>.ok (ZmJ x)):=fun B H0 H σ ρ F R Q A d=>by
 refine he B H0 H σ ρ F R _ A (d.bind.imp (fun x _ d v H1 s1 r=>?_) fun e q=>q)
 obtain⟨F1,f1,p1,A1⟩:=r
 refine d v H1 s1 ⟨F1,f1, ?_,A1⟩
 cases x with
 |box p s xs =>
  cases s with
  |ls =>
   obtain⟨a,vs,u,rfl,h1,⟨_,h2⟩,h3⟩:=p1
   cases h2
   exact⟨a,vs,rfl,.inl h1,h3⟩
  |_=>exact p1
 |_=>exact p1
theorem Ag.lsO {p:Option Addr}{xs:List PV} (A:Ag K B H0 H σ Γ ρ F []) (hm:Γ[i]?=some .O) (e:gv i ρ=.box p .ls xs) (hf:PV.flats xs=true):∃a vs,σ[i]?=some (some (.ref a))/\H a=some (.lst vs)/\Reps K H (fun _=>True) xs vs/\F i=[a]/\Zl2 p a /\
  ∀ys ws,PV.flats ys=true->Reps K H (fun _=>True) ys ws->Ag K B H0 (upd H a (.lst ws)) σ Γ (ρ.set i (.box p .ls ys)) F []:=by
 obtain⟨v,h1,h2⟩:=A.getO hm
 rw[show ρ.getD i .non=.box p .ls xs from e] at h2
 obtain⟨a,vs,u,G,rfl,ha,⟨hp,hu⟩,ht,hn,hF⟩:=h2
 cases hu
 have hG:=Trees.flat_nil hf ht
 subst hG
 refine⟨a,vs,h1,ha,ht.reps fun _ _=>trivial,hF,hp,fun ys ws hf' hr=>?_⟩
 have AC:=Ag.chg (G:=[]) (G':=F i) (R:=[]) (x':=.box p .ls ys) (vs':=ws) A hm (by rw[hF];simp) (fun b hb=>.inl hb) (by simp) ⟨_,h1,a,ws,.lst ws,[],rfl,Z0,⟨hp,rfl⟩,(hr.trees hf').put ha (by simp),by simp,hF⟩
 rw[Zd3] at AC
 exact AC
def DMg (K:W.Frag) (EX:PX->Hp->Prop) (Γ:List Md) (te:TE) (fm:List PV->Rr (PV×List PV)):Prop:=
 ∀(B:Addr->Prop) (H0 H:Hp) (σ:St) (ρ:List PV) (F:Nat->List Addr) (Q:VK),Ag K B H0 H σ Γ ρ F [] ->
  Dn (fm ρ) (fun r=>∀v H' F',Frm H F H' F'->r.1.flat=true->Rep K H' (fun _=>True) r.1 v->Ag K B H0 H' σ Γ r.2 F' []->Q v H') (fun e=>∀H',Z5 H0 H'->EX e H')->te σ H Q
theorem Zci (he:DE K EX Γ Γ .P te f):DMg K EX Γ te (fun ρ=>(f ρ).bind fun x=>.ok (x,ρ)):=fun B H0 H σ ρ F Q A d=>by
 refine he B H0 H σ ρ F [] _ A (d.bind.imp (fun x _ d v H1 s1 r=>?_) fun e q=>q)
 obtain⟨F1,f1,hf,p1,A1⟩:=r
 exact d v H1 F1 (Frm.of s1 f1) hf p1 A1
theorem ZcJ (hm:Γ[i]?=some .O):DMg K EX Γ (Zl8 K "list" ZlW (UA i)) (fun ρ=>(popLs (gv i ρ)).bind fun r=>.ok (r.1,ρ.set i r.2)):=fun B H0 H σ ρ F Q A d=>by
 obtain⟨p,xs,e,hfl,h0,d⟩:=Dn.popLs d.bind
 obtain⟨a,vs,h1,ha,hr,hF,hp,up⟩:=A.lsO hm e hfl
 obtain⟨w,hw,rw'⟩:=ZbF hr h0
 have hqF:a∈F i:=by rw[hF];simp
 refine⟨.ref a,h1,.inl ⟨rfl,_,SqL.of ha⟩,a,vs,w,rfl,rfl,ha,hw, ?_⟩
 exact(show ∀v H' F',_ from d) w _ F (QX hqF) (VH hfl h0) (ZdM ha (VH hfl h0) rw') (up _ _ (ZaA hfl) (ZbG hr))
theorem ZhA (h1:DMg K EX Γ te fm) (h2:DMg K EX Γ tb fm2):DMg K EX Γ (ZjU (J4 te (J4 tb Zcx))) (fun ρ=>(fm ρ).bind fun r=>(fm2 r.2).bind fun q=>.ok (.tup [r.1,q.1],q.2)):=fun B H0 H σ ρ F Q A d=>by
 refine h1 B H0 H σ ρ F _ A (d.bind.imp (fun r _ d v H1 F1 fr1 hf1 p1 A1=>?_) fun e q=>q)
 refine h2 B H0 H1 σ _ F1 _ A1 (d.bind.imp (fun q _ d w H2 F2 fr2 hf2 p2 A2=>?_) fun e q=>q)
 refine⟨by show 2<=_;rw[sizeLine_eq];decide,fun p hp=>?_⟩
 have s3:Z5 H2 (upd H2 p (.tup [v,w])):=Z5.new hp
 have A3:=A2.grow s3
 have p1':=ZdN A1 fr2 hf1 p1
 exact(show ∀v H' F',_ from d) _ _ F2 ((fr1.trans fr2).trans (Frm.of s3 fun _ _ h=>h)) (by simp[PV.flat,PV.flats,hf1,hf2]) ⟨p,_,rfl,⟨Z0,trivial⟩,v,_,rfl,p1'.same s3,w,_,rfl,p2.same s3,rfl⟩ A3
theorem VJ (hm:Γ[i]?=some .O) (he:DMg K EX Γ te fm):DS K EX Γ ⟨Γ,Γ1,Γ2,k⟩ (Zcz (tBM K "list" ZaP (UA i) (J4 te Zcx))) (fun ρ=>(isLs (gv i ρ)).thenS fun _=>(fm ρ).thenS fun r=>(appLs (gv i r.2) r.1).thenS fun z=>.next (r.2.set i z)):=fun B H0 H σ ρ F D A d=>by
 obtain⟨p,xs,e,hf,d⟩:=Dn.isLs d.thenS
 obtain⟨a,vs,h1,ha,hr,hF,hp,up⟩:=A.lsO hm e hf
 refine⟨.ref a,h1,.inl ⟨rfl,_,SqL.of ha⟩, ?_⟩
 refine he B H0 H σ ρ F _ A ((show DnS _ _ _ _ _ _ _ _ _ from d).thenS.imp (fun r _ d v H1 F1 fr1 hf1 p1 A1=>?_) fun e q=>q)
 obtain⟨p2,xs2,e2,hf2,hl2,d⟩:=Dn.appLs d.thenS
 obtain⟨a2,vs2,h12,ha2,hr2,hF2,hp2,up2⟩:=A1.lsO hm e2 hf2
 rw[h1] at h12;cases h12
 refine⟨a,vs2,v,rfl,rfl,ha2,by rw[hr2.length];exact ZtC hl2 (by rw[sizeLine_eq];decide), ?_⟩
 exact(show ∀σ' H' F',_ from d) σ _ F1 (fr1.trans (QX (i:=i) (by rw[hF2];simp))) (up2 _ _ (by rw[PV.flats_append,hf2];simp[PV.flats,hf1]) (hr2.append (Reps.one p1)))
theorem Ze3 (hm:Γ[i]?=some .O):DS K EX Γ ⟨Γ,Γ1,Γ2,k⟩ (Zcz (Zl8 K "list" Zid (UA i))) (fun ρ=>(isLs (gv i ρ)).thenS fun _=>.next (ρ.set i (Zj3 (gv i ρ)))):=fun B H0 H σ ρ F D A d=>by
 obtain⟨p,xs,e,hf,d⟩:=Dn.isLs d.thenS
 obtain⟨a,vs,h1,ha,hr,hF,hp,up⟩:=A.lsO hm e hf
 refine⟨.ref a,h1,.inl ⟨rfl,_,SqL.of ha⟩,a,vs,rfl,rfl,ha, ?_⟩
 rw[e] at d
 exact(show ∀σ' H' F',_ from d) σ _ F (QX (i:=i) (by rw[hF];simp)) (up [] [] rfl rfl)
theorem Zjo {l1 l2:Nat} (he:DMg K EX Γ te fm) (h1:l1<Γ.length) (h2:l2<Γ.length):DS K EX Γ ⟨(Γ.set l1 .P).set l2 .P,Γ1,Γ2,k⟩ (ZgN te (ZlE K 2 (ZfW (Zat l1) (ZfW (Zat l2) ZlF)))) (fun ρ=>(fm ρ).thenS fun r=>(prP r.1).thenS fun q=>.next ((r.2.set l1 q.1).set l2 q.2)):=fun B H0 H σ ρ F D A d=>by
 refine he B H0 H σ ρ F _ A (d.thenS.imp (fun r _ d v H1 F1 fr1 hf1 p1 A1=>?_) fun e q=>q)
 obtain⟨x,y,e,d⟩:=Dn.prP d.thenS
 rw[e] at p1 hf1
 obtain⟨a,vs,rfl,hs,w1,r1,rfl,q1,w2,r2,rfl,q2,rfl⟩:=p1
 simp only[PV.flat,PV.flats,Bool.and_eq_true,and_true] at hf1
 refine⟨a,_,rfl,hs.sqT,rfl, ?_⟩
 have A2:=Ag.put (i:=l1) (m:=.P) (x:=x) (v:=w1) (G:=[]) (R:=[]) A1 h1 (by simp) ⟨rfl,w1,rfl,hf1.1,q1⟩
 have A3:=Ag.put (i:=l2) (m:=.P) (x:=y) (v:=w2) (G:=[]) (R:=[]) A2 (by rw[Zul];exact h2) (by simp) ⟨rfl,w2,rfl,hf1.2,q2⟩
 exact⟨w1,[w2],rfl,w2,[],rfl,rfl,(show ∀σ' H' F',_ from d) _ H1 _ (J8 (G:=[]) (J8 (G:=[]) fr1 (by simp)) (by simp)) A3⟩
theorem Zad (he:DE K EX Γ Γ .P te f) (h0:Γ[0]?=some .O) (h1:Γ[1]?=some .O) (h2:Γ[2]?=some .O):DS K EX Γ ⟨Γ3,Γ1,Γ2,.M⟩ (ZjG te) (fun ρ=>(f ρ).thenS fun y=>ZlT y (gv 0 ρ) (gv 1 ρ) (gv 2 ρ)):=fun B H0 H σ ρ F D A d=>by
 refine he B H0 H σ ρ F [] _ A (d.thenS.imp (fun y _ d v H1 s1 r=>?_) fun e q=>q)
 obtain⟨F1,f1,hf,p1,A1⟩:=r
 unfold ZlT at d
 split at d
 ·rename_i a0 z0 a1 z1 a2 z2 e0 e1 e2
  split at d
  ·rename_i hz
   obtain⟨b0,v0,_,ha0,hr0,hF0,hp0,_⟩:=A1.lsO h0 e0 hz.1
   obtain⟨b1,v1,_,ha1,hr1,hF1,hp1,_⟩:=A1.lsO h1 e1 hz.2.1
   obtain⟨b2,v2,_,ha2,hr2,hF2,hp2,_⟩:=A1.lsO h2 e2 hz.2.2
   cases hp0;cases hp1;cases hp2
   exact d v H1 A1.same ⟨y,_,z0,_,z1,_,z2,rfl,hf,p1,⟨hz.1,v0,ha0,hr0⟩,⟨hz.2.1,v1,ha1,hr1⟩,⟨hz.2.2,v2,ha2,hr2⟩,A1.young 0 _ (by rw[hF0];simp),A1.young 1 _ (by rw[hF1];simp),A1.young 2 _ (by rw[hF2];simp)⟩
  ·exact d.elim
 ·exact d.elim
end
noncomputable def ZlR (K:W.Frag) (n:Nat) (m:List PV->Rr PV):Sp:=fun vs H Q E=>∃xs us a0 x0 a1 x1 a2 x2,vs=.ref a0::.ref a1::.ref a2::us/\xs.length=n/\PV.flats xs=true/\Reps K H (fun _=>True) xs us/\ZeD K H a0 x0/\ZeD K H a1 x1/\ZeD K H a2 x2/\a0≠a1/\a0≠a2/\a1≠a2 /\
 Dn (m (.lst x0::.lst x1::.lst x2::xs)) (fun r=>∃y z0 z1 z2,r=.tup [y,.lst z0,.lst z1,.lst z2]/\∀u H',Z5 (minus H [a0,a1,a2]) H'->y.flat=true->Rep K H' (fun _=>True) y u->ZeD K H' a0 z0->ZeD K H' a1 z1->ZeD K H' a2 z2->Q u H') (fun _=>False)
noncomputable def F3 (a0 a1 a2:Addr):Nat->List Addr
 |0=>[a0]
 |1=>[a1]
 |2=>[a2]
 |_=>[]
section
variable {K:W.Frag}{H:Hp}{xs x0 x1 x2:List PV}{us:List V}{a0 a1 a2:Addr}{l:Nat}
theorem Zed {i:Nat}{b:Addr} (h:b∈F3 a0 a1 a2 i):(i=0/\b=a0)\/(i=1/\b=a1)\/(i=2/\b=a2):=by
 match i with
 |0=>exact .inl ⟨rfl,by simpa[F3] using h⟩
 |1=>exact .inr (.inl ⟨rfl,by simpa[F3] using h⟩)
 |2=>exact .inr (.inr ⟨rfl,by simpa[F3] using h⟩)
 |_+3=>simp[F3] at h
theorem Ag.init3 (hx:Reps K H (fun _=>True) xs us) (hf:PV.flats xs=true) (l0:ZeD K H a0 x0) (l1:ZeD K H a1 x1) (l2:ZeD K H a2 x2) (n01:a0≠a1) (n02:a0≠a2) (n12:a1≠a2) :
  Ag K (fun b=>minus H [a0,a1,a2] b=none) (minus H [a0,a1,a2]) H (some (.ref a0)::some (.ref a1)::some (.ref a2)::(us.map some++List.replicate l none)) (.O::.O::.O::(List.replicate xs.length .S++List.replicate l .U)) (.box (some a0) .ls x0::.box (some a1) .ls x1::.box (some a2) .ls x2::(xs++List.replicate l .non)) (F3 a0 a1 a2) []:=by
 obtain⟨f0,v0,h0,r0⟩:=l0
 obtain⟨f1,v1,h1,r1⟩:=l1
 obtain⟨f2,v2,h2,r2⟩:=l2
 refine⟨Za3,fun a h=>h,fun i a ha=>?_,by simp,fun i a ha=>?_,by simp,fun i j hij a ha z=>?_,by simp,by simp[hx.length],by simp,fun i=>?_⟩
 ·rcases Zed ha with ⟨_,rfl⟩|⟨_,rfl⟩|⟨_,rfl⟩<;>exact Zba (by simp)
 ·rcases Zed ha with ⟨_,rfl⟩|⟨_,rfl⟩|⟨_,rfl⟩
  ·exact⟨⟨.lst v0,trivial⟩,h0⟩
  ·exact⟨⟨.lst v1,trivial⟩,h1⟩
  ·exact⟨⟨.lst v2,trivial⟩,h2⟩
 ·rcases Zed ha with ⟨e1,e2⟩|⟨e1,e2⟩|⟨e1,e2⟩<;>rcases Zed z with ⟨q1,q2⟩|⟨q1,q2⟩|⟨q1,q2⟩<;>first|exact hij (e1.trans q1.symm)|exact n01 (e2.symm.trans q2)|exact n02 (e2.symm.trans q2)|exact n12 (e2.symm.trans q2)|exact n01 (q2.symm.trans e2)|exact n02 (q2.symm.trans e2)|exact n12 (q2.symm.trans e2)
 ·match i with
  |0=>exact⟨_,rfl,a0,v0,.lst v0,[],rfl,h0,⟨rfl,rfl⟩,r0.trees f0,by simp,rfl⟩
  |1=>exact⟨_,rfl,a1,v1,.lst v1,[],rfl,h1,⟨rfl,rfl⟩,r1.trees f1,by simp,rfl⟩
  |2=>exact⟨_,rfl,a2,v2,.lst v2,[],rfl,h2,⟨rfl,rfl⟩,r2.trees f2,by simp,rfl⟩
  |i+3 =>
   have sl:=(Ag.init (n:=l) hx).slot i
   show VS K H _ ((List.replicate xs.length Md.S++List.replicate l Md.U).getD i .U) ((xs++List.replicate l PV.non).getD i .non) (us.map some++List.replicate l none)[i]? []
   by_cases hi:i<xs.length
   ·have e1:(List.replicate xs.length Md.S++List.replicate l Md.U).getD i .U=.S:=by
     rw[Zt5,ZtG (by simpa using hi),Zue hi];rfl
    have e2:(xs++List.replicate l PV.non).getD i .non=xs[i]:=by
     rw[Zt5,ZtG hi,Zt6 hi];rfl
    rw[e1,e2] at sl ⊢
    obtain⟨_,v,q1,q2⟩:=sl
    exact⟨rfl,v,q1,q2.any.flatS (PV.flats_all.mp hf _ (Zuf hi))⟩
   ·have e1:(List.replicate xs.length Md.S++List.replicate l Md.U).getD i .U=.U:=by
     rw[Zt5,ZtQ (by simpa using hi)]
     by_cases q:i-(List.replicate xs.length Md.S).length<l
     ·rw[Zue q];rfl
     ·rw[ZtF (by simpa using q)];rfl
    rw[e1];rfl
end
section
variable {P:Program}{w:World}{K:W.Frag}{mg:Str->Option Value}{base:Heap}
theorem Fun.okM3 {x qual:Str}{st:Stmt}{f:Addr}{fd:FuncData}{N ps:List Str}{k n l:Nat}{m:List PV->Rr PV} (F:Fun K x qual st f fd) (S:Zs N ps (Zd st)) (hn:ps.length=n+3) (hl:N.length-(n+3)=l)
  (hbody:∀(cdv:Value) (A:Around) (outer:List Env) (s:Shared) (H:Hp) (E:XK),Vu k (A.deeper (envOfC qual (Zd st) s.heap.objs.size f cdv)) ->
   ∃t g Y,Y.r=.M/\PSs (Zby CX0 P w K mg base N qual (Zd st) f cdv A outer s H E).nox (Zn st) t/\DS K X0 (.O::.O::.O::(List.replicate n .S++List.replicate l .U)) Y t g /\
    ∀a0 x0 a1 x1 a2 x2 xs r,m (.lst x0::.lst x1::.lst x2::xs)=.ok r->∃y z0 z1 z2,r=.tup [y,.lst z0,.lst z1,.lst z2] /\
     g (.box (some a0) .ls x0::.box (some a1) .ls x1::.box (some a2) .ls x2::(xs++List.replicate l .non))=.ret (.tup [y,.box (some a0) .ls z0,.box (some a1) .ls z1,.box (some a2) .ls z2])) :
  Jd P w K mg base CX0 (k+1) f fd ps (ZlR K n m):=by
 refine F.ok S (fun vs H Q E h=>?_) (fun cdv A outer s H vs Q E hr h=>?_)
 ·obtain⟨xs,us,a0,x0,a1,x1,a2,x2,rfl,h1,_,h2,_⟩:=h
  simp only[ZtK]
  rw[h2.length,h1,hn]
 ·obtain⟨xs,us,a0,x0,a1,x1,a2,x2,rfl,h1,hf,h2,l0,l1,l2,n01,n02,n12,dn⟩:=h
  obtain⟨t,g,Y,hY,ht,hd,href⟩:=hbody cdv A outer s H E hr
  refine⟨t,ht, ?_⟩
  have A0:=Ag.init3 (l:=l) h2 hf l0 l1 l2 n01 n02 n12
  have est:VN N (.ref a0::.ref a1::.ref a2::us)=some (.ref a0)::some (.ref a1)::some (.ref a2)::(us.map some++List.replicate l none):=by
   unfold VN
   simp only[ZtK,ZtI,ZuJ]
   rw[h2.length,h1,hl]
  rw[est]
  rw[h1] at A0
  refine hd _ (minus H [a0,a1,a2]) H _ _ _ _ A0 ?_
  cases em:m (.lst x0::.lst x1::.lst x2::xs) with
  |bad=>rw[em] at dn;exact dn.elim
  |exc q=>rw[em] at dn;exact dn.elim
  |ok r =>
   rw[em] at dn
   obtain⟨y,z0,z1,z2,rfl,eg⟩:=href a0 x0 a1 x1 a2 x2 xs r em
   obtain⟨y',w0,w1,w2,e,q⟩:=dn
   simp only[PV.tup.injEq,List.cons.injEq,and_true,PV.lst.injEq] at e
   obtain⟨rfl,rfl,rfl,rfl⟩:=e
   rw[eg]
   refine fun v H' s r=>?_
   rw[hY] at r
   obtain⟨y',b0,u0,b1,u1,b2,u2,e,r2,r3,r4,r5,r6,_⟩:=r
   simp only[PV.tup.injEq,List.cons.injEq,and_true,PV.box.injEq,Option.some.injEq,true_and] at e
   obtain⟨rfl,⟨rfl,rfl⟩,⟨rfl,rfl⟩,rfl,rfl⟩:=e
   exact q v H' s r2 r3 r4 r5 r6
end
theorem Pm.ref3 (m:Pm) {R:Addr->List PV->Addr->List PV->Addr->List PV->List PV->RS} (h:∀i,m.pre i->∀a0 x0 a1 x1 a2 x2 xs,m.enc i=.lst x0::.lst x1::.lst x2::xs->∃y z0 z1 z2,m.out i=.ok (.tup [y,.lst z0,.lst z1,.lst z2]) /\
   R a0 x0 a1 x1 a2 x2 xs=.ret (.tup [y,.box (some a0) .ls z0,.box (some a1) .ls z1,.box (some a2) .ls z2])) :
  ∀a0 x0 a1 x1 a2 x2 xs r,m.fn (.lst x0::.lst x1::.lst x2::xs)=.ok r->∃y z0 z1 z2,r=.tup [y,.lst z0,.lst z1,.lst z2] /\
   R a0 x0 a1 x1 a2 x2 xs=.ret (.tup [y,.box (some a0) .ls z0,.box (some a1) .ls z1,.box (some a2) .ls z2]):=fun a0 x0 a1 x1 a2 x2 xs r e=>by
 unfold Pm.fn at e
 by_cases hx:∃i,m.enc i=(.lst x0::.lst x1::.lst x2::xs)/\m.pre i
 ·rw[dif_pos hx] at e
  obtain⟨y,z0,z1,z2,q1,q2⟩:=h _ hx.choose_spec.2 a0 x0 a1 x1 a2 x2 xs hx.choose_spec.1
  rw[q1] at e
  cases e
  exact⟨y,z0,z1,z2,rfl,q2⟩
 ·rw[dif_neg hx] at e;cases e
noncomputable def Zgy (m:List PV->Rr PV) (x0 x1 x2:PV) (xs:List PV):Rr (PV×PV×PV×PV):=match x0,x1,x2 with
 |.lst l0,.lst l1,.lst l2=>if PV.flats l0=true/\PV.flats l1=true/\PV.flats l2=true/\PV.flats xs=true then
   match m (.lst l0::.lst l1::.lst l2::xs) with
   |.ok (.tup [y,.lst z0,.lst z1,.lst z2])=>.ok (y,.lst z0,.lst z1,.lst z2)
   |_=>.bad
   else .bad
 |_,_,_=>.bad
section
variable {K:W.Frag}{B:Addr->Prop}{EX:PX->Hp->Prop}{H0 H H':Hp}{σ:St}{Γ Γ1 Γ2:List Md}{ρ ρ':List PV}{F F':Nat->List Addr}{R:List Addr}{ta:TA}{fa:List PV->Rr (List PV)}{m:List PV->Rr PV}{n l i0 i1 i2:Nat}{k:Kd}
theorem Ag.swapG {G:List Addr} (A:Ag K B H0 H σ Γ ρ F []) (sm:Z5 (minus H G) H') (hl:ρ'.length=ρ.length) (hG:∀a∈G,∃i,a∈F i)
  (h:∀i,(ρ'.getD i .non=ρ.getD i .non/\∀a∈F i,a ∉ G)\/(Γ[i]?=some .O/\∃v,σ[i]?=some (some v)/\Jc K H' (ρ'.getD i .non) v (F i))):Ag K B H0 H' σ Γ ρ' F []:=by
 have live:∀i,∀a∈F i,∃vs:LvO,H' a=some vs.1:=fun i a ha=>by
  rcases h i with ⟨_,q⟩|⟨_,v,_,t⟩
  ·obtain⟨vs,e⟩:=A.live i a ha
   exact⟨vs,sm _ _ (by rw[ZE (q a ha)];exact e)⟩
  ·exact t.alive a ha
 have hGl:∀b∈G,∃vs:LvO,H b=some vs.1:=fun b hb=>let ⟨i,hi⟩:=hG b hb;A.live i b hi
 refine⟨fun a o e=>sm a o ?_,A.own,A.young,by simp,live,by simp,A.disj,by simp,A.lenS,by rw[hl];exact A.lenR,fun i=>?_⟩
 ·rw[ZE (fun z=>by obtain⟨i,hi⟩:=hG a z;rw[A.young i a hi] at e;cases e)]
  exact A.same a o e
 ·rcases h i with ⟨e,q⟩|⟨e,v,e1,t⟩
  ·rw[e]
   refine(A.slot i).mono (fun a vs s r=>⟨(r.minus (fun z=>by obtain⟨j,hj⟩:=hG a z;exact s.2.2 j hj)).same sm,s⟩) (fun a vs r=>sm.im (r.minus hGl)) fun a ha vs z=>sm _ _ (by rw[ZE (q a ha)];exact z)
  ·rw[Zt5 (l:=Γ),e]
   exact⟨v,e1,t⟩
theorem Za9 {i j:Nat}{x:PV} (h:i≠j):gv j (ρ.set i x)=gv j ρ:=by
 unfold gv
 rw[Zt5,ZtJ h,<- Zt5]
theorem Zh2 {i:Nat}{x:PV} (h:i<ρ.length):gv i (ρ.set i x)=x:=by
 unfold gv
 rw[Zt5,ZtH h];rfl
theorem Zjn (hm0:Γ[i0]?=some .O) (hm1:Γ[i1]?=some .O) (hm2:Γ[i2]?=some .O) (h01:i0≠i1) (h02:i0≠i2) (h12:i1≠i2) (hl:l<Γ.length) (hn:Len fa n) (ha:DAR K Γ ta fa) :
  DS K EX Γ ⟨Γ.set l .P,Γ1,Γ2,k⟩ (ZgN (Vp (ZlR K n m) (J4 (UA i0) (J4 (UA i1) (J4 (UA i2) ta)))) (Zat l)) (fun ρ=>(fa ρ).thenS fun xs=>(Zgy m (gv i0 ρ) (gv i1 ρ) (gv i2 ρ) xs).thenS fun q=>.next ((((ρ.set i0 q.2.1).set i1 q.2.2.1).set i2 q.2.2.2).set l q.1)):=fun B H0 H σ ρ F D A d=>by
 have lst:∀{i:Nat}{xs:List PV},Γ[i]?=some .O->gv i ρ=.lst xs->PV.flats xs=true->∃a vs,σ[i]?=some (some (.ref a))/\H a=some (.lst vs)/\Reps K H (fun _=>True) xs vs/\F i=[a]:=fun {i xs} hm e hf=>by
  obtain⟨v,h1,h2⟩:=A.getO hm
  rw[show ρ.getD i .non=.lst xs from e] at h2
  obtain⟨a,vs,G,rfl,hH,ht,hn,hF⟩:=h2
  have hG:=Trees.flat_nil hf ht
  subst hG
  exact⟨a,vs,h1,hH,ht.reps fun _ _=>trivial,hF⟩
 cases ea:fa ρ with
 |bad=>dsimp only at d;rw[ea] at d;exact d.elim
 |exc q=>exact absurd ea (ha.1 ρ q)
 |ok xs =>
  dsimp only at d
  rw[ea] at d
  have d:Dn (Zgy m (gv i0 ρ) (gv i1 ρ) (gv i2 ρ) xs) _ _:=DnS.thenS d
  unfold Zgy at d
  split at d
  rotate_left
  ·exact d.elim
  rename_i x0 x1 x2 e0 e1 e2
  split at d
  rotate_left
  ·exact d.elim
  rename_i hf
  split at d
  rotate_left
  ·exact d.elim
  rename_i y z0 z1 z2 em
  obtain⟨a0,v0,s0,ha0,hr0,hF0⟩:=lst hm0 e0 hf.1
  obtain⟨a1,v1,s1,ha1,hr1,hF1⟩:=lst hm1 e1 hf.2.1
  obtain⟨a2,v2,s2,ha2,hr2,hF2⟩:=lst hm2 e2 hf.2.2.1
  have n01:a0≠a1:=fun z=>A.disj i0 i1 h01 a0 (by rw[hF0];simp) (by rw[hF1,z];simp)
  have n02:a0≠a2:=fun z=>A.disj i0 i2 h02 a0 (by rw[hF0];simp) (by rw[hF2,z];simp)
  have n12:a1≠a2:=fun z=>A.disj i1 i2 h12 a1 (by rw[hF1];simp) (by rw[hF2,z];simp)
  refine⟨.ref a0,s0,.ref a1,s1,.ref a2,s2,ha.2 B H0 H σ ρ F [] _ A ⟨xs,ea,fun vs hvs=>?_⟩⟩
  refine⟨xs,vs,a0,x0,a1,x1,a2,x2,rfl,hn ρ xs ea,hf.2.2.2,hvs.any,⟨hf.1,v0,ha0,hr0⟩,⟨hf.2.1,v1,ha1,hr1⟩,⟨hf.2.2.1,v2,ha2,hr2⟩,n01,n02,n12, ?_⟩
  rw[em]
  refine⟨y,z0,z1,z2,rfl,fun u H' sm fy ry L0 L1 L2=>?_⟩
  obtain⟨g0,w0,b0,r0⟩:=L0
  obtain⟨g1,w1,b1,r1⟩:=L1
  obtain⟨g2,w2,b2,r2⟩:=L2
  have len:∀{i:Nat},Γ[i]?=some .O->i<ρ.length:=fun hm=>by rw[A.lenR];exact A.lt hm
  have hGF:∀a∈[a0,a1,a2],∃i,a∈F i:=fun a h=>by
   simp only[ZtE,Zux,or_false] at h
   rcases h with rfl|rfl|rfl
   ·exact⟨i0,by rw[hF0];simp⟩
   ·exact⟨i1,by rw[hF1];simp⟩
   ·exact⟨i2,by rw[hF2];simp⟩
  have A2:Ag K B H0 H' σ Γ (((ρ.set i0 (.lst z0)).set i1 (.lst z1)).set i2 (.lst z2)) F []:=by
   refine A.swapG sm (by simp) hGF fun i=>?_
   by_cases q0:i=i0
   ·subst q0
    refine .inr ⟨hm0,_,s0, ?_⟩
    rw[show (((ρ.set i (.lst z0)).set i1 (.lst z1)).set i2 (.lst z2)).getD i .non=.lst z0 by
     show gv i _=_
     rw[Za9 (Ne.symm h02),Za9 (Ne.symm h01),Zh2 (len hm0)]]
    exact⟨a0,w0,[],rfl,b0,r0.trees g0,by simp,hF0⟩
   ·by_cases q1:i=i1
    ·subst q1
     refine .inr ⟨hm1,_,s1, ?_⟩
     rw[show (((ρ.set i0 (.lst z0)).set i (.lst z1)).set i2 (.lst z2)).getD i .non=.lst z1 by
      show gv i _=_
      rw[Za9 (Ne.symm h12),Zh2 (by rw[Zul];exact len hm1)]]
     exact⟨a1,w1,[],rfl,b1,r1.trees g1,by simp,hF1⟩
    ·by_cases q2:i=i2
     ·subst q2
      refine .inr ⟨hm2,_,s2, ?_⟩
      rw[show (((ρ.set i0 (.lst z0)).set i1 (.lst z1)).set i (.lst z2)).getD i .non=.lst z2 by
       show gv i _=_
       rw[Zh2 (by rw[Zul,Zul];exact len hm2)]]
      exact⟨a2,w2,[],rfl,b2,r2.trees g2,by simp,hF2⟩
     ·refine .inl ⟨?_,fun a ha z=>?_⟩
      ·show gv i _=gv i _
       rw[Za9 (Ne.symm q2),Za9 (Ne.symm q1),Za9 (Ne.symm q0)]
      ·simp only[ZtE,Zux,or_false] at z
       rcases z with rfl|rfl|rfl
       ·exact A.disj i i0 q0 _ ha (by rw[hF0];simp)
       ·exact A.disj i i1 q1 _ ha (by rw[hF1];simp)
       ·exact A.disj i i2 q2 _ ha (by rw[hF2];simp)
  have A3:=Ag.put (i:=l) (m:=.P) (x:=y) (v:=u) (G:=[]) (R:=[]) A2 hl (by simp) ⟨rfl,u,rfl,fy,ry⟩
  refine(show ∀σ' H' F',_ from d) _ H' _ (J8 (G:=[]) (fun b o hb nb=>⟨sm _ _ ?_,nb⟩) (by simp)) A3
  rw[ZE (fun z=>by obtain⟨j,hj⟩:=hGF b z;exact nb j hj)]
  exact hb
end
noncomputable def ZeM (K:W.Frag) (n m:Str) (sp:Sp) (E:St->XK) (ta:TE) (t:TA):TE:=fun σ H Q=>ta σ H fun x H1=>∃a C dx fs,x=.ref a/\Rd H1 a (.ins C dx fs)/\VP K n C/\fs.lookup m=none/\t σ H1 fun vs H2=>sp (x::vs) H2 Q (E σ)
section
variable {X:Cx}{e o:Expr}{es:List Expr}{n m:Str}{pos apos:Pos}{ta:TE}{t:TA}{k:Nat}{ps:List Str}{sp:Sp}{E:St->XK}
theorem ZbJ {pl:Sem Bool} (G:ZmG X.prog X.w X.K X.mg X.base k n m ps sp) (hr:Vu k X.A) (hx:Ze8 X E) (he:PE X o ta) (ha:PA X (e::es) t)
  (hst:starEach (e::es) X.env=(false,eval e X.env)::starEach es X.env:=by rfl) (hpl:(backTo pos (starEach es X.env)).any (·.1)=false:=by rfl)
  (ht:eval (.Call (.Attribute o m apos) (e::es) [] pos) X.env=(do
   let ov <- eval o X.env
   standAt apos.atName
   let (f,first) <- holding [ov] (getMethod ov m pl)
   callWith pos f first (backTo pos (starEach (e::es) X.env)) (backToKw pos (keywordEach [] X.env))):=by rfl) :
  PE X (.Call (.Attribute o m apos) (e::es) [] pos) (ZeM X.K n m sp E ta t):=by
 obtain⟨C,f,fd,hC,c,hm,F,hb⟩:=G
 intro pins s σ H Q I h
 refine PySem.W.methodCall_KW (pl:=pl) (thn (he pins s σ H _ I h) fun u s1 ⟨x,H1,I1,rx,a,C',dx,fs,ex,ea,hC',l,q⟩=>?_) ht
 subst ex
 obtain rfl:=hC.inj hC'
 obtain rfl:u=Value.ref a:=rx
 obtain⟨mA,O,r⟩:=Ux I1 ea
 refine Qu I1.kIn O (c.get m) hm.at_ hm.fn (ZaF.none_of (by rw[<- l];exact r m)) ?_
 refine PySem.W.callWith_K (first:=[.ref a]) (h₀:=X.base) I.ok.mod.kin hm.kp (thn (ha pos pins s1 σ H1 _ I1 q) fun us s2 ⟨vs,H2,I2,r,q2⟩=>⟨I2.kIn, ?_⟩) hst hpl
 have rv:ZT (V.ref a::vs) (Value.ref a::us):=.cons rfl r
 have hl:((Value.ref a::us)++[]).length=ps.length:=by rw[ZtW,<- rv.length];exact F.len _ _ _ _ q2
 have hb':=hb s2 (.ref a::us) I2.kIn hl
 rw[ZtW] at hb'
 refine wpAny_call (codeAny_mono (F.run X.A X.stack s2 H2 ⟨.ref a::us,[]⟩ (.ref a::us) (.ref a::vs) Q (E σ) hr I2.env0 hb' rv q2) fun r s' hq=>?_)
 cases r with
 |error e=>exact hx pins σ H2 s2 e s' I2 hq
 |ok fl =>
  cases fl with
  |ret u=>exact I2.after hq
  |next=>exact False.elim hq
  |brk=>exact False.elim hq
  |cont=>exact False.elim hq
end
section
variable {K:PySem.W.Frag}{EX:PX->Hp->Prop}{Γ Γ' Γ1 Γ2 Γ3:List Md}{te:TE}{ta:TA}{f:List PV->Rr PV}{fa:List PV->Rr (List PV)}{n m:Str}{W:PX->XK->Hp->Prop}{E:XK}{mm:List PV->Rr PV}{l:Nat}{fm:List PV->Rr (PV×PV)}{j i:Nat}
theorem Zck (hW:∀e H',EX e H'->W e E H') (he:DE K EX Γ Γ' .A te f) (hn:Len fa l) (ha:DAA K EX Γ' Γ1 ta fa):DE K EX Γ Γ1 .P (ZeM K n m (spF K (l+1) .P W mm) (fun _=>E) te ta) (fun ρ=>(f ρ).bind fun x=>(obG n m x).bind fun _=>(fa ρ).bind fun xs=>mm (unp x::xs)):=fun B H0 H σ ρ F R Q A d=>by
 refine he B H0 H σ ρ F R _ A (d.bind.imp (fun x _ d v H1 s1 r=>?_) fun e q=>q)
 obtain⟨F1,f1,p1,A1⟩:=r
 obtain⟨p,gs,xs',rfl,hm,d⟩:=Dn.obG d.bind
 obtain⟨a,vs',u,rfl,⟨rd,hS⟩,⟨hp,hl,C,dx,rfl,hC⟩,hr⟩:=p1
 refine⟨a,C,dx,_,rfl,rd,hC,ZaG hl hm,ha B H0 H1 σ ρ F1 R _ A1 ((show Dn _ _ _ from d).bind.imp (fun xs ex d vs H2 F2 s2 f2 p2 A2=>?_) fun e q=>q)⟩
 refine⟨fun _=>True,.box none (.ob n gs) xs'::xs,⟨_,_,rfl,⟨a,vs',_,rfl,⟨rd.same s2,hS⟩,⟨trivial,hl,C,dx,rfl,hC⟩,hr.same s2⟩,p2⟩,by rw[ZtK,hn ρ xs ex], ?_⟩
 exact d.imp (fun x _ d v H3 s3 r=>d v H3 (s1.trans (s2.trans s3)) ⟨F2,fun i a h=>f1 i a (f2 i a h),r.1,r.2,A2.grow s3⟩) fun e q H3 s3=>hW e H3 (q H3 (A2.same.trans s3))
theorem Qx (he:DM K EX Γ j te fm) (hm:Γ[j]?=some .O):DS K EX Γ ⟨Γ3,Γ1,Γ2,.N⟩ (ZjG te) (fun ρ=>(fm ρ).thenS fun r=>Zl9 r.1 r.2):=fun B H0 H σ ρ F D A d=>by
 refine he B H0 H σ ρ F _ A (d.thenS.imp (fun r _ d v H1 F1 G fr t1 h1 A1=>?_) fun e q=>q)
 obtain⟨y,b⟩:=r
 dsimp only at d t1 A1
 unfold Zl9 at d
 split at d
 ·rename_i a s xs _
  obtain⟨w,w1,w2⟩:=A1.getO hm
  rw[show (ρ.set j (.box (some a) s xs)).getD j .non=.box (some a) s xs from Zh2 (by rw[A.lenR];exact A.lt hm)] at w2
  have:=w2.pinned
  subst this
  exact d v H1 A1.same ⟨y,a,s,xs,G,F1 j,rfl,t1,w2,fun b hb z=>A1.disjR j b z (Zt8 _ hb),fun b hb=>A1.youngR b (Zt8 _ hb),fun b hb=>A1.young j b hb⟩
 ·exact d.elim
end
noncomputable def ZlQ (A B:Sp):Sp:=fun vs H Q E=>A vs H Q E\/B vs H Q E
section
variable {P:Program}{w:World}{K:W.Frag}{mg:Str->Option Value}{base:Heap}{CX:CXT}{k:Nat}{f:Addr}{fd:FuncData}{ps:List Str}{sA sB sp:Sp}
theorem Jd.or (h1:Jd P w K mg base CX k f fd ps sA) (h2:Jd P w K mg base CX k f fd ps sB):Jd P w K mg base CX k f fd ps (ZlQ sA sB):=
 ⟨fun vs H Q E h=>h.elim (h1.len vs H Q E) (h2.len vs H Q E),fun A outer s H args us vs Q E hr e0 hb rv h=>h.elim (h1.run A outer s H args us vs Q E hr e0 hb rv) (h2.run A outer s H args us vs Q E hr e0 hb rv)⟩
theorem Jd.calmX (h:Jd P w K mg base CX0 k f fd ps sp):Jd P w K mg base (CX1 P w) k f fd ps sp:=
 ⟨h.len,fun A outer s H args us vs Q E hr e0 hb rv q=>codeAny_mono (h.run A outer s H args us vs Q E hr e0 hb rv q) fun r s' z=>by
  cases r with
  |error e=>exact False.elim z
  |ok fl=>cases fl<;>exact z⟩
end
def Zg9 (t:TA):Prop:=∀σ H (Q Q':List V->Hp->Prop),(∀vs H,Q vs H->Q' vs H)->t σ H Q->t σ H Q'
theorem ZbQ:Zg9 Zcx:=fun σ H Q Q' h q=>h _ _ q
theorem Vd {i:Nat}{t:TA} (h:Zg9 t):Zg9 (J4 (UA i) t):=fun σ H Q Q' hq ⟨v,e,q⟩=>⟨v,e,h σ H _ _ (fun vs H z=>hq _ _ z) q⟩
noncomputable def ZlO (L:List Str) (i:Nat) (gb gh:List PV->RS) (ρ:List PV):RS:=match gb ρ with
 |.exc e=>if e.1∈L then gh (ρ.set i (Ziv e)) else .bad
 |_=>.bad
noncomputable def ZjJ (r s:RS):RS:=match r with
 |.bad=>s
 |r=>r
section
variable {K:W.Frag}{EX:PX->Hp->Prop}{Γ Γ' Γs:List Md}{Y Yb Yh:Tys}{tb:(St->XK)->TS}{th t:TS}{gb gh g g1 g2:List PV->RS}{C:Addr}{i j n:Nat}{L:List Str}{ta:TA}{f:List PV->Rr PV}{fm:List PV->Rr (PV×PV)}{sA sB:Sp}{E:St->XK}{k:Kd}{m:PV->List PV->Rr PV}
theorem DE.orR (hm:Zg9 ta) (h:DE K EX Γ Γ' k (UM sB E ta) f):DE K EX Γ Γ' k (UM (ZlQ sA sB) E ta) f:=fun B H0 H σ ρ F R Q A d=>hm σ H _ _ (fun vs H q=>.inr q) (h B H0 H σ ρ F R Q A d)
theorem DM.orL (hm:Zg9 ta) (h:DM K EX Γ i (Vp (spM K n j m) ta) fm):DM K EX Γ i (UM (ZlQ (spM K n j m) sB) E ta) fm:=fun B H0 H σ ρ F Q A d=>hm σ H _ _ (fun vs H q=>.inl q) (h B H0 H σ ρ F Q A d)
theorem Zjm (h:∀E:St->XK,DS K EX Γ Y (tb E) g):DS K EX Γ Y (ZlP K C i tb th) g:=fun B H0 H σ ρ F D A d=>h _ B H0 H σ ρ F D A d
theorem ZfZ (h1:DS K EX Γ Y t g1) (h2:DS K EX Γ Y t g2):DS K EX Γ Y t (fun ρ=>ZjJ (g1 ρ) (g2 ρ)):=fun B H0 H σ ρ F D A d=>by
 by_cases e:g1 ρ=.bad
 ·refine h2 B H0 H σ ρ F D A ?_
  dsimp only at d
  rw[e] at d
  exact d
 ·refine h1 B H0 H σ ρ F D A ?_
  dsimp only at d
  rwa [show ZjJ (g1 ρ) (g2 ρ)=g1 ρ by
   cases q:g1 ρ with
   |bad=>exact absurd q e
   |_=>rfl] at d
theorem Zjl (hL:∀n∈L,∀D,VP K n D->PySem.W.exmOne K (.ref D) (.ref C)=some true) (hb:∀E:XK,DS K (EX1 K E) Γs Yb (tb fun _=>E) gb) (hloc:∀(E:St->XK) D σ H,tb (fun _=>E σ) D σ H->tb E D σ H)
  (hh:DS K EX (Γ.set i .P) Yh th gh) (hs:ZaZ Γ Γs=true) (ho:Zk6 Γs=true) (hi:i<Γ.length) (hn:ZaZ (Yh.n.set i .U) Y.n=true) (hbk:ZaZ (Yh.b.set i .U) Y.b=true) (hct:ZaZ (Yh.c.set i .U) Y.c=true) (hr:Yh.r=Y.r) :
  DS K EX Γ Y (ZlP K C i tb th) (ZlO L i gb gh):=fun B H0 H σ ρ F D A d=>by
 obtain⟨F1,f1,A1⟩:=A.weak hs
 have hF:=ZiV ho A1
 have AN:=A1.near hF
 refine hloc _ D σ H (hb (ZlG K C i th D σ) B H H σ ρ F1 D AN ?_)
 unfold ZlO at d
 cases e:gb ρ with
 |next ρ1=>rw[e] at d;exact d.elim
 |brk ρ1=>rw[e] at d;exact d.elim
 |cont ρ1=>rw[e] at d;exact d.elim
 |ret x=>rw[e] at d;exact d.elim
 |bad=>rw[e] at d;exact d
 |exc q =>
  rw[e] at d
  dsimp only at d
  by_cases hq:q.1∈L
  ·rw[if_pos hq] at d
   intro H' sm C' k hC' hk
   refine⟨hL q.1 hq C' hC',k,rfl,fun ea oe hea hc hdn hnc=>?_⟩
   have s1:Z5 H' (upd H' ea (.frz oe (.own ea))):=Z5.newO hea
   have s2:Z5 H (upd H' ea (.frz oe (.own ea))):=sm.trans s1
   have A2:Ag K B H0 (upd H' ea (.frz oe (.own ea))) σ Γ ρ F []:=A.grow s2
   have key:∀S:Addr->Prop,PV.flat (Ziv q)=true/\Rep K (upd H' ea (.frz oe (.own ea))) S (Ziv q) (.ref ea):=fun S=>by
    obtain⟨qn,qv⟩:=q
    cases qv with
    |non =>
     have hk:H' k=none:=hk
     rcases hdn with ⟨z,_⟩|⟨_,fs,z⟩
     ·exact⟨rfl,ea,oe,C',rfl,⟨Z0,trivial⟩,hc,z,hnc,hC'⟩
     ·rw[hk] at z;cases z
    |int i =>
     obtain⟨fs,z1,z2⟩:=(show ∃fs,H' k=some (.xd fs)/\fs=[(("at":Str),V.int i)] from hk)
     rcases hdn with ⟨_,z⟩|⟨z,_⟩
     ·rw[z,hea] at z1;cases z1
     ·exact⟨rfl,ea,oe,C',k,fs,rfl,⟨Z0,trivial⟩,⟨s1 _ _ z1,trivial⟩,hc,z,hnc,hC',z2⟩
    |_=>exact hk.elim
   have A3:=Ag.put (i:=i) (m:=.P) (x:=Ziv q) (v:=.ref ea) (G:=[]) (R:=[]) A2 hi (by simp) ⟨rfl,_,rfl,(key fun _=>True).1,(key _).2⟩
   refine hh B H0 _ _ _ _ (unE D i) A3 ?_
   have fr3:Frm H F (upd H' ea (.frz oe (.own ea))) (VY F i []):=Zbg (G:=[]) s2 (fun _ _ h=>h) (by simp)
   cases e2:gh (ρ.set i (Ziv q)) with
   |next ρ1 =>
    rw[e2] at d
    intro σ' H2 F2 fr A'
    obtain⟨F4,f4,A4⟩:=A'.unset i hn
    exact d _ H2 F4 (fr3.trans (fr.trans (Frm.of (Z5.refl _) f4))) A4
   |brk ρ1 =>
    rw[e2] at d
    intro σ' H2 F2 fr A'
    obtain⟨F4,f4,A4⟩:=A'.unset i hbk
    exact d _ H2 F4 (fr3.trans (fr.trans (Frm.of (Z5.refl _) f4))) A4
   |cont ρ1 =>
    rw[e2] at d
    intro σ' H2 F2 fr A'
    obtain⟨F4,f4,A4⟩:=A'.unset i hct
    exact d _ H2 F4 (fr3.trans (fr.trans (Frm.of (Z5.refl _) f4))) A4
   |ret x=>rw[e2] at d;exact fun v H2 s r=>d v H2 s (hr▸r)
   |exc q2=>rw[e2] at d;exact d
   |bad=>rw[e2] at d;exact d
  ·rw[if_neg hq] at d;exact d.elim
end
theorem Pm.fn_bad (m:Pm) {xs:List PV} (h:∀i,m.enc i=xs->¬m.pre i):m.fn xs=.bad:=by
 unfold Pm.fn
 exact dif_neg fun⟨i,e,p⟩=>h i e p
end L2
namespace My
open L2
noncomputable def tab (n:Nat) (f:Nat->Int):List Int:=(List.range n).map f
theorem ZK (n:Nat) (f:Nat->Int):(tab n f).length=n:=by simp[tab]
theorem VT {n:Nat}{f:Nat->Int}{x:Nat} (h:x<n):(tab n f).getD x 0=f x:=by
 rw[Zt5,tab,ZtL,ZuB h];rfl
theorem Q3 {n:Nat}{f:Nat->Int}{l:List Int} (hl:l.length=n) (h:∀x,x<n->l.getD x 0=f x):l=tab n f:=by
 apply List.ext_getElem
 ·rw[hl,ZK]
 ·intro i h1 h2
  have:=h i (by omega)
  rw[Zt5,Zt6 h1] at this
  simp only[tab,ZuI,List.getElem_range]
  exact this
theorem Zhs (l:List Int):l=tab l.length fun x=>l.getD x 0:=Q3 rfl fun _ _=>rfl
theorem getD_set {l:List Int}{j x:Nat}{v:Int} (h:j<l.length):(l.set j v).getD x 0=if x=j then v else l.getD x 0:=by
 rw[Zt5,Zt5]
 by_cases e:x=j
 ·subst e;rw[ZtH h,if_pos rfl];rfl
 ·rw[ZtJ (Ne.symm e),if_neg e]
theorem ZeJ {n:Nat}{f:Nat->Int}{j:Nat}{v:Int} (h:j<n):(tab n f).set j v=tab n fun x=>if x=j then v else f x:=by
 refine Q3 (by rw[Zul,ZK]) fun x hx=>?_
 rw[getD_set (by rw[ZK];exact h)]
 by_cases e:x=j
 ·rw[if_pos e,if_pos e]
 ·rw[if_neg e,if_neg e,VT hx]
theorem Q4 {n:Nat}{f g:Nat->Int} (h:∀x,x<n->f x=g x):tab n f=tab n g:=Q3 (ZK _ _) fun x hx=>by rw[VT hx,h x hx]
theorem Zf8 {n:Nat}{f:Nat->Int}{v:Int}:v∈tab n f ↔ ∃x,x<n/\f x=v:=by simp[tab]
theorem JD {l:List Int}{x:Nat} (h:x<l.length):l.getD x 0∈l:=by
 rw[Zt5,Zt6 h];exact Zuf h
theorem Zf9 {l:List Int}{v:Int} (h:v∈l):∃x,x<l.length/\l.getD x 0=v:=by
 obtain⟨x,hx,e⟩:=List.getElem_of_mem h
 exact⟨x,hx,by rw[Zt5,Zt6 hx,<- e];rfl⟩
theorem ZaM:∀{l:List Int}{j:Nat}{v:Int},j<l.length->(l.set j v).sum=l.sum-l.getD j 0+v
 |a::l,0,v,_=>by simp;omega
 |a::l,j+1,v,h=>by
  have:=ZaM (l:=l) (j:=j) (v:=v) (by simpa using h)
  simp only[ZuE,Zu7,List.getD_cons_succ,this];omega
theorem Q5:∀(ns:List Int) (c:Int),(ns.map fun v=>v+c).sum=ns.sum+ns.length*c
 |[],c=>by simp
 |a::l,c=>by
  simp only[ZtI,Zu7,ZtK]
  rw[Q5 l c,Int.natCast_add,Int.add_mul];omega
theorem Jr {n a b:Int} (ha:0<=a) (ha':a<n) (hb:0<=b) (hb':b<n):(a-b)%n=if b<=a then a-b else a-b+n:=by
 by_cases h:b<=a
 ·rw[if_pos h,ZtZ (by omega) (by omega)]
 ·rw[if_neg h,<- Int.add_emod_right,ZtZ (by omega) (by omega)]
theorem UD {n a b:Int} (ha:0<=a) (ha':a<n) (hb:0<=b) (hb':b<n):(a+b)%n=if a+b<n then a+b else a+b-n:=by
 by_cases h:a+b<n
 ·rw[if_pos h,ZtZ (by omega) (by omega)]
 ·rw[if_neg h,<- Int.sub_emod_right,ZtZ (by omega) (by omega)]
structure U9 (ns:List Int):Prop where
 lo:2<=ns.length
 hi:ns.length<=24
 nn:∀x∈ns,0<=x
 sm:ns.sum<=10^60
theorem U9.nn' {ns:List Int} (h:U9 ns) (x:Nat):0<=ns.getD x 0:=by
 by_cases hx:x<ns.length
 ·exact h.nn _ (JD hx)
 ·rw[Zt5,ZtF (by omega)];exact Int.le_refl _
theorem sum_nn:∀{l:List Int},(∀x∈l,0<=x)->0<=l.sum
 |[],_=>by simp
 |a::l,h=>by
  have:=sum_nn (l:=l) fun x hx=>h x (by simp[hx])
  have:=h a (by simp)
  simp only[Zu7];omega
theorem Zis:∀{l:List Int}{v:Int},(∀x∈l,0<=x)->v∈l->v<=l.sum
 |a::l,v,h,hv=>by
  have h1:=sum_nn (l:=l) fun x hx=>h x (by simp[hx])
  have h2:=h a (by simp)
  simp only[Zu7]
  rcases ZtE.mp hv with rfl|hv
  ·omega
  ·have:=Zis (l:=l) (fun x hx=>h x (by simp[hx])) hv
   omega
noncomputable def ZjH (ns:List Int) (p:Int) (x:Nat):Int:=(if (x:Int)=p then 0 else ns.getD x 0)+ns.getD p.toNat 0/ns.length
noncomputable def Zkf (n:Int) (p:Int) (i:Int) (x:Nat):Int:=if 1<=((x:Int)-p)%n/\((x:Int)-p)%n<=i then 1 else 0
noncomputable def Zb8 (ns:List Int) (p:Int) (i:Int) (x:Nat):Int:=ZjH ns p x+Zkf ns.length p i x
theorem ZeU (n p i:Int) (x:Nat):0<=Zkf n p i x:=by unfold Zkf;split<;>omega
theorem Uh {n p i:Int}{x:Nat} (h:1<=((x:Int)-p)%n/\((x:Int)-p)%n<=i):Zkf n p i x=1:=if_pos h
theorem UB {n p i:Int}{x:Nat} (h:¬(1<=((x:Int)-p)%n/\((x:Int)-p)%n<=i)):Zkf n p i x=0:=if_neg h
theorem ZeV {ns:List Int}{p:Int}{x:Nat} (h:(x:Int)=p):ZjH ns p x=ns.getD p.toNat 0/ns.length:=by unfold ZjH;rw[if_pos h];omega
theorem Zc0 {ns:List Int}{p:Int}{x:Nat} (h:(x:Int)≠p):ZjH ns p x=ns.getD x 0+ns.getD p.toNat 0/ns.length:=by unfold ZjH;rw[if_neg h]
noncomputable def ZgC (ns:List Int) (p:Int):List Int:=tab ns.length (Zb8 ns p (ns.getD p.toNat 0%ns.length))
noncomputable def ZeT (ns:List Int) (p:Int):Int:=(p+ns.getD p.toNat 0%ns.length)%ns.length
theorem VU (ns:List Int) (p:Int):(ZgC ns p).length=ns.length:=ZK _ _
section
variable {ns:List Int}{p:Int}
theorem Zdj (h0:0<=p) (h1:p<ns.length):(ns.map fun v=>v+ns.getD p.toNat 0/ns.length).set p.toNat (ns.getD p.toNat 0/ns.length)=tab ns.length (Zb8 ns p 0):=by
 refine Q3 (by simp) fun x hx=>?_
 rw[getD_set (by simp;omega)]
 unfold Zb8
 rw[UB (by omega)]
 by_cases e:x=p.toNat
 ·rw[if_pos e,ZeV (by omega)];omega
 ·rw[if_neg e,Zc0 (by omega)]
  simp[Zt5,Zt6 hx]
theorem Zdk (h0:0<=p) (h1:p<ns.length) {i:Nat} (hi:(i:Int)+1<ns.length) :
  (tab ns.length (Zb8 ns p i)).set ((p+(i+1))%ns.length).toNat (Zb8 ns p i ((p+(i+1))%ns.length).toNat+1)=tab ns.length (Zb8 ns p ((i+1:Nat):Int)):=by
 have m1:=UD h0 h1 (show (0:Int)<=(i:Int)+1 by omega) hi
 have hlt:((p+((i:Int)+1))%ns.length).toNat<ns.length:=by
  rw[m1];split<;>omega
 rw[ZeJ hlt]
 refine Q4 fun x hx=>?_
 have m2:=Jr (n:=ns.length) (show (0:Int)<=(x:Int) by omega) (by omega) h0 h1
 by_cases e:x=((p+((i:Int)+1))%ns.length).toNat
 ·rw[if_pos e,<- e]
  unfold Zb8
  have hd:((x:Int)-p)%ns.length=i+1:=by
   rw[m2]
   rw[m1] at e
   split at e<;>split<;>omega
  rw[UB (by omega),Uh (by omega)];omega
 ·rw[if_neg e]
  unfold Zb8
  have hd:((x:Int)-p)%ns.length≠i+1:=by
   intro z
   apply e
   rw[m2] at z
   rw[m1]
   split at z<;>split<;>omega
  by_cases q:1<=((x:Int)-p)%ns.length/\((x:Int)-p)%ns.length<=i
  ·rw[Uh q,Uh (by omega)]
  ·rw[UB q,UB (by omega)]
theorem Zb6 (h0:0<=p) (h1:p<ns.length):∀i:Nat,(i:Int)<ns.length->(tab ns.length (Zb8 ns p i)).sum=ns.sum+ns.length*(ns.getD p.toNat 0/ns.length)-ns.getD p.toNat 0+i
 |0,_=>by
  have:=Zdj h0 h1
  rw[Zu5,<- this,ZaM (by simp;omega)]
  have e:=Q5 ns (ns.getD p.toNat 0/ns.length)
  rw[e]
  have e2:(ns.map fun v=>v+ns.getD p.toNat 0/ns.length).getD p.toNat 0=ns.getD p.toNat 0+ns.getD p.toNat 0/ns.length:=by
   have hx:p.toNat<ns.length:=by omega
   rw[Zt5,ZtL,Zt6 hx]
   simp[hx]
  rw[e2];omega
 |i+1,hi=>by
  have ih:=Zb6 h0 h1 i (by omega)
  have m1:=UD h0 h1 (show (0:Int)<=(i:Int)+1 by omega) (by omega)
  have hlt:((p+((i:Int)+1))%ns.length).toNat<ns.length:=by rw[m1];split<;>omega
  rw[<- Zdk h0 h1 (by omega),ZaM (by rw[ZK];exact hlt),ih,VT hlt];omega
theorem Zdl (h0:0<=p) (h1:p<ns.length) (hs:0<=ns.getD p.toNat 0):(ZgC ns p).sum=ns.sum:=by
 have b1:=ZtV (ns.getD p.toNat 0) (show (ns.length:Int)≠0 by omega)
 have b2:=ZtR (ns.getD p.toNat 0) (show (0:Int)<ns.length by omega)
 have:=Zb6 h0 h1 (ns.getD p.toNat 0%ns.length).toNat (by omega)
 rw[Zum b1] at this
 have e:=Int.mul_ediv_add_emod (ns.getD p.toNat 0) ns.length
 unfold ZgC
 omega
theorem Zi8 (hn:∀x∈ns,0<=x) (i:Int) (x:Nat) (hx:x<ns.length):0<=Zb8 ns p i x:=by
 have h1:=hn _ (JD hx)
 have h2:0<=ns.getD p.toNat 0:=by
  by_cases hp:p.toNat<ns.length
  ·exact hn _ (JD hp)
  ·rw[Zt5,ZtF (by omega)];exact Int.le_refl _
 have h3:=Int.ediv_nonneg h2 (show (0:Int)<=ns.length by omega)
 have h4:=ZeU ns.length p i x
 unfold Zb8 ZjH
 split<;>omega
end
noncomputable def run (f:Nat->Int):Nat->Nat->Nat
 |0,i=>i
 |k+1,i=>if 0<f i then run f k (i+1) else i
theorem Zdm (f:Nat->Int):∀(k i:Nat),i<=run f k i/\run f k i<=i+k/\(∀j,i<=j->j<run f k i->0<f j)/\(run f k i<i+k->¬0<f (run f k i))
 |0,i=>⟨ZtD _,ZtD _,fun j h1 h2=>by simp only[run] at h2;omega,fun h=>by simp only[run] at h;omega⟩
 |k+1,i=>by
  unfold run
  by_cases h:0<f i
  ·rw[if_pos h]
   obtain⟨a,b,c,d⟩:=Zdm f k (i+1)
   refine⟨by omega,by omega,fun j h1 h2=>?_,fun h=>d (by omega)⟩
   by_cases e:j=i
   ·subst e;assumption
   ·exact c j (by omega) h2
  ·rw[if_neg h]
   exact⟨ZtD _,by omega,fun j h1 h2=>by omega,fun _=>h⟩
noncomputable def tbG (ns:List Int) (q:Int) (i:Nat):Int:=ns.getD ((q-i)%ns.length).toNat 0-UR ns
noncomputable def tbJ (ns:List Int) (q:Int):Nat:=run (tbG ns q) ns.length 0
noncomputable def tbF (ns:List Int) (q:Int) (i:Nat) (x:Nat):Int:=ns.getD x 0-UR ns-(if (q-x)%(ns.length:Int)<i then 1 else 0)
noncomputable def tbP (ns:List Int) (q:Int):Int:=(q-tbJ ns q)%ns.length
noncomputable def tbT (ns:List Int) (q:Int):Int:=UR ns*ns.length+tbJ ns q
noncomputable def tbB (ns:List Int) (q:Int):List Int:=(tab ns.length (tbF ns q (tbJ ns q))).set (tbP ns q).toNat (tbT ns q)
theorem JY (ns:List Int) (q:Int):(tbB ns q).length=ns.length:=by simp[tbB,ZK]
section
variable {ns:List Int}{q:Int}
theorem ZaL (h0:0<=q) (h1:q<ns.length):tbJ ns q<ns.length/\(∀i,i<tbJ ns q->0<tbG ns q i)/\tbG ns q (tbJ ns q)=0:=by
 have hne:ns≠[]:=by intro e;rw[e] at h1;simp at h1;omega
 obtain⟨x,hx,ex⟩:=Zf9 (VB hne)
 have m1:=Jr (n:=ns.length) h0 h1 (show (0:Int)<=x by omega) (by omega)
 have b1:0<=(q-x)%(ns.length:Int)/\(q-x)%(ns.length:Int)<ns.length:=by rw[m1];split<;>omega
 have gx:tbG ns q ((q-x)%(ns.length:Int)).toNat=0:=by
  unfold tbG
  have:((q-(((q-x)%(ns.length:Int)).toNat:Nat))%(ns.length:Int)).toNat=x:=by
   rw[Zum b1.1,Jr h0 h1 b1.1 b1.2,m1]
   split<;>split<;>omega
  rw[this,ex];omega
 obtain⟨a,b,c,d⟩:=Zdm (tbG ns q) ns.length 0
 have hlt:tbJ ns q<ns.length:=by
  unfold tbJ
  by_cases h:run (tbG ns q) ns.length 0<ns.length
  ·exact h
  ·have:=c ((q-x)%(ns.length:Int)).toNat (by omega) (by omega)
   rw[gx] at this;omega
 refine⟨hlt,fun i hi=>c i (by omega) hi, ?_⟩
 have h3:=d (by unfold tbJ at hlt;omega)
 have h4:0<=tbG ns q (tbJ ns q):=by
  unfold tbG
  have:=Zbb (ns:=ns) (JD (x:=((q-tbJ ns q)%(ns.length:Int)).toNat) (by
   have:=ZtV (q-tbJ ns q) (show (ns.length:Int)≠0 by omega)
   have:=ZtR (q-tbJ ns q) (show (0:Int)<ns.length by omega)
   omega))
  omega
 have h5:¬0<tbG ns q (tbJ ns q):=h3
 omega
theorem Zi6 (h0:0<=q) (h1:q<ns.length) {i:Nat} (hi:i<ns.length):(tab ns.length (tbF ns q i)).set ((q-i)%ns.length).toNat (tbF ns q i ((q-i)%ns.length).toNat-1)=tab ns.length (tbF ns q (i+1)):=by
 have m1:=Jr (n:=ns.length) h0 h1 (show (0:Int)<=i by omega) (by omega)
 have hlt:((q-(i:Int))%ns.length).toNat<ns.length:=by rw[m1];split<;>omega
 rw[ZeJ hlt]
 refine Q4 fun x hx=>?_
 have m2:=Jr (n:=ns.length) h0 h1 (show (0:Int)<=(x:Int) by omega) (by omega)
 by_cases e:x=((q-(i:Int))%ns.length).toNat
 ·rw[if_pos e,<- e]
  unfold tbF
  have hd:(q-(x:Int))%ns.length=i:=by
   rw[m2];rw[m1] at e
   split at e<;>split<;>omega
  rw[hd,if_neg (by omega),if_pos (by omega)];omega
 ·rw[if_neg e]
  unfold tbF
  have hd:(q-(x:Int))%ns.length≠i:=by
   intro z;apply e
   rw[m2] at z;rw[m1]
   split at z<;>split<;>omega
  by_cases h:(q-(x:Int))%ns.length<i
  ·rw[if_pos h,if_pos (by omega)]
  ·rw[if_neg h,if_neg (by omega)]
theorem ZhV (h0:0<=q) (h1:q<ns.length) {i:Nat} (hi:i<ns.length):tbF ns q i ((q-i)%ns.length).toNat=tbG ns q i:=by
 have m1:=Jr (n:=ns.length) h0 h1 (show (0:Int)<=i by omega) (by omega)
 have hb:0<=(q-(i:Int))%ns.length/\(q-(i:Int))%ns.length<ns.length:=by rw[m1];split<;>omega
 unfold tbF tbG
 rw[Zum hb.1,Jr h0 h1 hb.1 hb.2,m1]
 have:¬((if (if (i:Int)<=q then q-i else q-i+ns.length)<=q then q-(if (i:Int)<=q then q-i else q-i+ns.length) else q-(if (i:Int)<=q then q-i else q-i+ns.length)+ns.length)<(i:Int)):=by
  split<;>split<;>omega
 rw[if_neg this];omega
end
theorem ZgP {ns:List Int}{q:Int} (h0:0<=q) (h1:q<ns.length) (hn:∀x∈ns,0<=x):ZgC (tbB ns q) (tbP ns q)=ns/\ZeT (tbB ns q) (tbP ns q)=q:=by
 have len:=JY ns q
 obtain⟨j1,j2,j3⟩:=ZaL h0 h1
 have hne:ns≠[]:=by intro e;rw[e] at h1;simp at h1;omega
 have hm:=hn _ (VB hne)
 have m0:=Jr (n:=ns.length) h0 h1 (show (0:Int)<=(tbJ ns q:Nat) by omega) (by omega)
 have eP:tbP ns q=if ((tbJ ns q:Nat):Int)<=q then q-tbJ ns q else q-tbJ ns q+ns.length:=m0
 have hP:0<=tbP ns q/\tbP ns q<ns.length:=by rw[eP];split<;>omega
 have hp:(tbP ns q).toNat<ns.length:=by omega
 have get:∀x,x<ns.length->(tbB ns q).getD x 0=if x=(tbP ns q).toNat then tbT ns q else tbF ns q (tbJ ns q) x:=fun x hx=>by
  unfold tbB
  rw[getD_set (by rw[ZK];exact hp),VT hx]
 have gp:(tbB ns q).getD (tbP ns q).toNat 0=tbT ns q:=by rw[get _ hp,if_pos rfl]
 have et:tbT ns q/ns.length=UR ns/\tbT ns q%ns.length=tbJ ns q:=by
  unfold tbT
  constructor
  ·rw[Int.add_comm,Int.add_mul_ediv_right _ _ (by omega),Int.ediv_eq_zero_of_lt (by omega) (by omega)];omega
  ·rw[Int.add_comm,Int.add_mul_emod_self_right,ZtZ (by omega) (by omega)]
 constructor
 ·unfold ZgC
  rw[len]
  refine((Zhs ns).trans (Q4 fun x hx=>?_)).symm
  unfold Zb8
  rw[gp,len,et.2]
  have m1:=Jr (n:=ns.length) (show (0:Int)<=x by omega) (by omega) hP.1 hP.2
  have m2:=Jr (n:=ns.length) h0 h1 (show (0:Int)<=x by omega) (by omega)
  by_cases e:(x:Int)=tbP ns q
  ·rw[ZeV e,gp,len,et.1,UB (by rw[e,Int.sub_self,Int.zero_emod];omega)]
   have:x=((q-(tbJ ns q:Nat))%(ns.length:Int)).toNat:=by
    show x=(tbP ns q).toNat
    omega
   unfold tbG at j3
   rw[<- this] at j3;omega
  ·rw[Zc0 e,gp,len,et.1,get x hx,if_neg (by omega)]
   unfold tbF
   have key:(1<=((x:Int)-tbP ns q)%ns.length/\((x:Int)-tbP ns q)%ns.length<=(tbJ ns q:Int)) ↔ (q-x)%(ns.length:Int)<(tbJ ns q:Int):=by
    rw[m1,m2]
    rw[eP] at e ⊢
    split<;>split<;>split at *<;>omega
   by_cases c:(q-x)%(ns.length:Int)<(tbJ ns q:Int)
   ·rw[if_pos c,Uh (key.mpr c)];omega
   ·rw[if_neg c,UB (fun z=>c (key.mp z))];omega
 ·unfold ZeT
  rw[gp,len,et.2,UD hP.1 hP.2 (by omega) (by omega),eP]
  split<;>split<;>omega
structure Vs (ns:List Int) (p:Int):Prop where
 bd:U9 ns
 lo:0<=p
 hi:p<ns.length
 pos:0<ns.getD p.toNat 0
noncomputable def Zb7 (a:List Int×Int):List Int×Int:=(ZgC a.1 a.2,ZeT a.1 a.2)
noncomputable def tbS (a:List Int×Int):List Int×Int:=(tbB a.1 a.2,tbP a.1 a.2)
theorem ZeS {ns:List Int}{p:Int} (h:Vs ns p):U9 (ZgC ns p):=by
 have:=h.lo;have:=h.hi
 refine⟨by rw[VU];exact h.bd.lo,by rw[VU];exact h.bd.hi,fun x hx=>?_, ?_⟩
 ·obtain⟨y,hy,rfl⟩:=Zf8.mp hx
  exact Zi8 h.bd.nn _ y hy
 ·rw[Zdl h.lo h.hi (h.bd.nn' _)];exact h.bd.sm
theorem Zef {ns:List Int}{p:Int} (h0:0<=p) (h1:p<ns.length):0<=ZeT ns p/\ZeT ns p<ns.length:=
 ⟨ZtV _ (by omega),ZtR _ (by omega)⟩
theorem ZeR {ns:List Int}{p:Int} (h:Vs ns p):Vs (ZgC ns p) (ZeT ns p):=by
 have h0:=h.lo
 have h1:=h.hi
 have hs:=h.pos
 obtain⟨l0,l1⟩:=Zef h0 h1
 refine⟨ZeS h,l0,by rw[VU];exact l1, ?_⟩
 have o0:=ZtV (ns.getD p.toNat 0) (show (ns.length:Int)≠0 by omega)
 have o1:=ZtR (ns.getD p.toNat 0) (show (0:Int)<ns.length by omega)
 have es:=Int.mul_ediv_add_emod (ns.getD p.toNat 0) ns.length
 have dn:=Int.ediv_nonneg (show 0<=ns.getD p.toNat 0 by omega) (show (0:Int)<=ns.length by omega)
 have hx:(ZeT ns p).toNat<ns.length:=by omega
 have hv:=h.bd.nn' (ZeT ns p).toNat
 unfold ZgC
 rw[VT hx]
 unfold Zb8
 have mL:ZeT ns p=if p+ns.getD p.toNat 0%ns.length<ns.length then p+ns.getD p.toNat 0%ns.length else p+ns.getD p.toNat 0%ns.length-ns.length:=UD h0 h1 o0 o1
 by_cases c:ns.getD p.toNat 0%ns.length=0
 ·rw[ZeV (by rw[c] at mL;split at mL<;>omega)]
  have:=ZeU ns.length p (ns.getD p.toNat 0%ns.length) (ZeT ns p).toNat
  have:ns.getD p.toNat 0/ns.length≠0:=fun z=>by rw[z] at es;omega
  omega
 ·have m2:=Jr (n:=ns.length) l0 l1 h0 h1
  rw[Uh (by rw[Zum l0,m2];split at mL<;>split<;>omega),Zc0 (by split at mL<;>omega)]
  omega
theorem Zb3 {ns:List Int}{q:Int} (h1:0<ns.length):0<=tbP ns q/\tbP ns q<ns.length:=
 ⟨ZtV _ (by omega),ZtR _ (by omega)⟩
theorem ZgL {ns:List Int}{q:Int} (h:Vs ns q):Vs (tbB ns q) (tbP ns q):=by
 have h0:=h.lo
 have h1:=h.hi
 have hs:=h.pos
 obtain⟨p0,p1⟩:=Zb3 (ns:=ns) (q:=q) (by omega)
 obtain⟨j1,j2,j3⟩:=ZaL h0 h1
 have hne:ns≠[]:=by intro e;rw[e] at h1;simp at h1;omega
 have hm:=h.bd.nn _ (VB hne)
 have hT:0<tbT ns q:=by
  unfold tbT
  by_cases c:tbJ ns q=0
  ·unfold tbG at j3
   rw[c,Zu5,Int.sub_zero,ZtZ h0 h1] at j3
   have:0<UR ns:=by omega
   have:=Int.mul_pos this (show (0:Int)<ns.length by omega)
   omega
  ·have:=Int.mul_nonneg hm (show (0:Int)<=ns.length by omega)
   omega
 have hpl:(tbP ns q).toNat<ns.length:=by omega
 have nn:∀x∈tbB ns q,0<=x:=fun x hx=>by
  unfold tbB at hx
  rcases List.mem_or_eq_of_mem_set hx with z|z
  ·obtain⟨y,hy,rfl⟩:=Zf8.mp z
   have ml:=Zbb (ns:=ns) (JD hy)
   unfold tbF
   split
   ·rename_i c
    have m:=Jr (n:=ns.length) h0 h1 (show (0:Int)<=y by omega) (by omega)
    have g:=j2 ((q-(y:Int))%ns.length).toNat (by have:=ZtV (q-(y:Int)) (show (ns.length:Int)≠0 by omega);omega)
    unfold tbG at g
    have e:((q-(((q-(y:Int))%ns.length).toNat:Nat))%(ns.length:Int)).toNat=y:=by
     have b:0<=(q-(y:Int))%ns.length/\(q-(y:Int))%ns.length<ns.length:=by rw[m];split<;>omega
     rw[Zum b.1,Jr h0 h1 b.1 b.2,m]
     split<;>split<;>omega
    rw[e] at g;omega
   ·omega
  ·omega
 have hsum:(tbB ns q).sum=ns.sum:=by
  have e:=(ZgP h0 h1 h.bd.nn).1
  have:=Zdl (ns:=tbB ns q) (p:=tbP ns q) p0 (by rw[JY];exact p1) (by
   by_cases hx:(tbP ns q).toNat<(tbB ns q).length
   ·exact nn _ (JD hx)
   ·rw[Zt5,ZtF (by omega)];exact Int.le_refl _)
  rw[e] at this
  exact this.symm
 refine⟨⟨by rw[JY];exact h.bd.lo,by rw[JY];exact h.bd.hi,nn,by rw[hsum];exact h.bd.sm⟩,p0,by rw[JY];exact p1, ?_⟩
 unfold tbB
 rw[getD_set (by rw[ZK];exact hpl),if_pos rfl]
 exact hT
noncomputable def its {α:Type} (f:α->α):Nat->α->α
 |0,a=>a
 |n+1,a=>f (its f n a)
theorem V3 {f:List Int×Int->List Int×Int} (hf:f=Zb7\/f=tbS) {a:List Int×Int} (h:Vs a.1 a.2):∀n,Vs (its f n a).1 (its f n a).2
 |0=>h
 |n+1=>by
  have ih:=V3 hf h n
  rcases hf with rfl|rfl
  ·exact ZeR ih
  ·exact ZgL ih
section
end
end My
namespace My
open PySem L2
noncomputable abbrev UY (a:List Int×Int):PV:=.tup [.lst (a.1.map PV.int),.int a.2]
noncomputable def Ud (ns:List Int) (m:Int):Nat->List Int
 |0=>List.replicate m.toNat 0
 |i+1=>(Ud ns m i).set ((i:Int)%m).toNat (((Ud ns m i).getD ((i:Int)%m).toNat 0*31+ns.getD (i+1) 0)%10^60)
theorem Ze1 (ns:List Int) (m:Int) (i:Nat):Ud ns m (i+1)=(Ud ns m i).set ((i:Int)%m).toNat (((Ud ns m i).getD ((i:Int)%m).toNat 0*31+ns.getD (i+1) 0)%10^60):=by rw[Ud]
noncomputable def Vq (ns:List Int) (m:Int):List Int:=Ud ns m (ns.length-1)
theorem JM (ns:List Int) (m:Int):∀i,(Ud ns m i).length=m.toNat
 |0=>by simp[Ud]
 |i+1=>by simp[Ud,JM ns m i]
theorem Vl (ns:List Int) (m:Int):∀i,∀x∈Ud ns m i,0<=x/\x<10^60
 |0=>fun x hx=>by rw[List.eq_of_mem_replicate hx];decide
 |i+1=>fun x hx=>by
  rcases List.mem_or_eq_of_mem_set hx with z|z
  ·exact Vl ns m i x z
  ·rw[z];exact⟨ZtV _ (by decide),ZtR _ (by decide)⟩
noncomputable def Qg (pits way number:Int):Int:=if way=3 then [0,1,number/24,pits].getD (number/7%4).toNat 0 else if way=2 then number/24 else if way=1 then number/11%30 else number/11%4
noncomputable def VD (ns:List Int) (pits way:Int):List Int:=(Vq ns pits).map (Qg pits way)
noncomputable def BB:Int:=41666666666666666666666666666666666666666666666666666666666
theorem ZcG {pits way z:Int} (h1:2<=pits) (h2:pits<=24) (z0:0<=z) (z1:z<10^60):0<=Qg pits way z/\Qg pits way z<=BB:=by
 unfold Qg BB
 split
 ·have c4:z/7%4=0\/z/7%4=1\/z/7%4=2\/z/7%4=3:=by omega
  rcases c4 with e|e|e|e<;>rw[e]
  ·exact⟨by show (0:Int)<=0;decide,by show (0:Int)<=41666666666666666666666666666666666666666666666666666666666;decide⟩
  ·exact⟨by show (0:Int)<=1;decide,by show (1:Int)<=41666666666666666666666666666666666666666666666666666666666;decide⟩
  ·exact⟨by show 0<=z/24;omega,by show z/24<=_;omega⟩
  ·exact⟨by show 0<=pits;omega,by show pits<=_;omega⟩
 ·split
  ·omega
  ·split<;>omega
theorem ZeP (ns:List Int) (h:∀x∈ns,x<=BB):ns.sum<=ns.length*BB:=by
 induction ns with
 |nil=>simp
 |cons x xs ih =>
  have h1:=h x (by simp)
  have h2:=ih fun y hy=>h y (by simp[hy])
  simp only[Zu7,ZtK]
  rw[Int.natCast_add,Int.add_mul]
  omega
theorem U9.of {ns:List Int} (h1:2<=ns.length) (h2:ns.length<=24) (h:∀x∈ns,0<=x/\x<=BB):U9 ns:=by
 refine⟨h1,h2,fun x hx=>(h x hx).1, ?_⟩
 have a:=ZeP ns fun x hx=>(h x hx).2
 have b:(ns.length:Int)*BB<=24*BB:=Int.mul_le_mul_of_nonneg_right (by omega) (by decide)
 have c:(24:Int)*BB<=10^60:=by decide
 omega
theorem QR (ns:List Int) {pits way:Int} (h:0<=pits):((VD ns pits way).length:Int)=pits:=by
 unfold VD Vq
 rw[Zt7,JM];omega
theorem Zaq (ns:List Int) {pits way:Int} (h1:2<=pits) (h2:pits<=24):U9 (VD ns pits way):=by
 have hl:=QR ns (way:=way) (show 0<=pits by omega)
 refine U9.of (by omega) (by omega) fun x hx=>?_
 obtain⟨z,hz,rfl⟩:=Zub.mp hx
 obtain⟨z0,z1⟩:=Vl ns pits _ z hz
 exact ZcG h1 h2 z0 z1
noncomputable def J3 (ns:List Int):Bool:=decide (2<=ns.length/\ns.length<=24/\(∀x∈ns,0<=x)/\ns.sum<=10^60)
theorem Jo {ns:List Int}:J3 ns=true ↔ U9 ns:=by
 unfold J3
 rw[decide_eq_true_iff]
 exact⟨fun⟨a,b,c,d⟩=>⟨a,b,c,d⟩,fun h=>⟨h.lo,h.hi,h.nn,h.sm⟩⟩
theorem Vs.sowOk {ns:List Int}{p:Int} (h:Vs ns p):0<=p/\p<ns.length/\ns.length<=1000:=⟨h.lo,h.hi,by have:=h.bd.hi;omega⟩
noncomputable def Zks (ns:List Int) (p:Int):Option Str:=if 0<=p/\p<ns.length then none else some "BadPit"
noncomputable def stX (ns:List Int) (p:Int):Option Str:=if J3 ns=true then (if 0<=p/\p<ns.length then (if ns.getD p.toNat 0=0 then some "NoSeeds" else none) else some "BadPit") else some "BadBoard"
theorem J5 {ns:List Int}{p:Int}:stX ns p=none ↔ Vs ns p:=by
 unfold stX
 by_cases h:J3 ns=true
 ·have hB:=Jo.mp h
  rw[if_pos h]
  by_cases h1:0<=p/\p<ns.length
  ·rw[if_pos h1]
   by_cases h2:ns.getD p.toNat 0=0
   ·rw[if_pos h2];exact⟨fun z=>(by cases z),fun z=>(by have:=z.pos;omega)⟩
   ·rw[if_neg h2];exact⟨fun _=>⟨hB,h1.1,h1.2,by have:=hB.nn' p.toNat;omega⟩,fun _=>rfl⟩
  ·rw[if_neg h1];exact⟨fun z=>(by cases z),fun z=>(h1 ⟨z.lo,z.hi⟩).elim⟩
 ·rw[if_neg h];exact⟨fun z=>(by cases z),fun z=>(h (Jo.mpr z.bd)).elim⟩
theorem Vs.tbOk {ns:List Int}{p:Int} (h:Vs ns p):0<=p/\p<ns.length/\ns.length<=1000/\∀x∈ns,0<=x/\x<=10^60:=⟨h.lo,h.hi,by have:=h.bd.hi;omega,fun x hx=>⟨h.bd.nn x hx,by have:=Zis h.bd.nn hx;have:=h.bd.sm;omega⟩⟩
end My
namespace L2
open PySem
noncomputable def fzI (ns:List Int):PV:=.fz (ns.map PV.int)
noncomputable abbrev Dd:=Str×Int×Int
noncomputable def dd3 (d:Dd):PV:=.tup [.str d.1,.int d.2.1,.int d.2.2]
noncomputable def UL (u:Dd×List Int):PV:=.tup [dd3 u.1,fzI u.2]
structure Bk where
 bs:List (List Int)
 ds:List Dd
 us:List (Dd×List Int)
noncomputable def JG (p:Option Addr) (b d u:List PV):PV:=.box p (.ob "RingBook" ["boards", "deeds", "undone"]) [.lst b,.lst d,.lst u]
noncomputable def bkP (p:Option Addr) (k:Bk):PV:=JG p (k.bs.map fzI) (k.ds.map dd3) (k.us.map UL)
theorem QW {a b:List Int} (h:fzI a=fzI b):a=b:=Jb (PV.fz.inj h)
theorem Zbm {a b:Dd} (h:dd3 a=dd3 b):a=b:=by
 simp only[dd3,PV.tup.injEq,List.cons.injEq,PV.str.injEq,PV.int.injEq,and_true] at h
 exact Prod.ext h.1 (Prod.ext h.2.1 h.2.2)
theorem Zdf {a b:Dd×List Int} (h:UL a=UL b):a=b:=by
 simp only[UL,PV.tup.injEq,List.cons.injEq,and_true] at h
 exact Prod.ext (Zbm h.1) (QW h.2)
theorem JL {α:Type}{q:α->PV} (hq:∀a b,q a=q b->a=b):∀{l m:List α},l.map q=m.map q->l=m
 |[],[],_=>rfl
 |[],_::_,h=>by simp at h
 |_::_,[],h=>by simp at h
 |a::l,b::m,h=>by
  simp only[ZtI,List.cons.injEq] at h
  rw[hq a b h.1,JL hq h.2]
theorem Jm {p:Option Addr}{a b:Bk} (h:bkP p a=bkP p b):a=b:=by
 simp only[bkP,JG,PV.box.injEq,List.cons.injEq,PV.lst.injEq,and_true,true_and] at h
 obtain⟨h1,h2,h3⟩:=h
 have e1:=JL (fun _ _=>QW) h1
 have e2:=JL (fun _ _=>Zbm) h2
 have e3:=JL (fun _ _=>Zdf) h3
 cases a;cases b
 simp only at e1 e2 e3
 rw[e1,e2,e3]
theorem flats_map {α:Type}{q:α->PV} (h:∀a,(q a).flat=true) (l:List α):PV.flats (l.map q)=true:=PV.flats_all.mpr fun x hx=>by
 obtain⟨a,_,rfl⟩:=Zub.mp hx
 exact h a
theorem J0 (ns:List Int):(fzI ns).flat=true:=PV.flats_ints ns
theorem JQ (d:Dd):(dd3 d).flat=true:=rfl
theorem JB (u:Dd×List Int):(UL u).flat=true:=by simp[UL,PV.flat,PV.flats,JQ,J0]
theorem ix0:(["boards", "deeds", "undone"]:List Str).idxOf ("boards":Str)=0:=by decide +kernel
theorem ix1:(["boards", "deeds", "undone"]:List Str).idxOf ("deeds":Str)=1:=by decide +kernel
theorem ix2:(["boards", "deeds", "undone"]:List Str).idxOf ("undone":Str)=2:=by decide +kernel
section
variable {p:Option Addr}{k:Bk}{b d u:List PV}
theorem ZmA:pFld "RingBook" "boards" (JG p b d u)=.ok (.lst b):=by simp only[pFld,JG,ix0,if_pos];rfl
theorem Zm9:pFld "RingBook" "deeds" (JG p b d u)=.ok (.lst d):=by simp only[pFld,JG,ix1,if_pos];rfl
theorem Zm8:pFld "RingBook" "undone" (JG p b d u)=.ok (.lst u):=by simp only[pFld,JG,ix2,if_pos];rfl
theorem ZgG:pFld "RingBook" "boards" (bkP p k)=.ok (.lst (k.bs.map fzI)):=ZmA
theorem Zj4:pFld "RingBook" "deeds" (bkP p k)=.ok (.lst (k.ds.map dd3)):=Zm9
theorem Zlo:pFld "RingBook" "undone" (bkP p k)=.ok (.lst (k.us.map UL)):=Zm8
theorem ZhQ {m:Str} (h:m ∉ (["boards", "deeds", "undone"]:List Str)):obG "RingBook" m (bkP p k)=.ok .non:=by
 unfold bkP JG obG
 exact if_pos ⟨rfl,h⟩
theorem Zlq:obG "RingBook" "sow" (bkP p k)=.ok .non:=ZhQ (by decide +kernel)
theorem Zlt:obG "RingBook" "back" (bkP p k)=.ok .non:=ZhQ (by decide +kernel)
theorem Zls:obG "RingBook" "enter" (bkP p k)=.ok .non:=ZhQ (by decide +kernel)
theorem Zlp:obG "RingBook" "undo" (bkP p k)=.ok .non:=ZhQ (by decide +kernel)
theorem Zlr:obG "RingBook" "redo" (bkP p k)=.ok .non:=ZhQ (by decide +kernel)
theorem Zm4:obG "RingBook" "board" (bkP p k)=.ok .non:=ZhQ (by decide +kernel)
theorem Zm3:obG "RingBook" "plan" (bkP p k)=.ok .non:=ZhQ (by decide +kernel)
theorem Zm5:obG "RingBook" "sown_in_all" (bkP p k)=.ok .non:=ZhQ (by decide +kernel)
theorem Zm6:obG "RingBook" "came_again" (bkP p k)=.ok .non:=ZhQ (by decide +kernel)
theorem Zlv:Zji "RingBook" "boards" (bkP p k)=.ok .non:=by unfold Zji;rw[ZgG];exact if_pos (flats_map J0 _)
theorem Zlu:Zji "RingBook" "deeds" (bkP p k)=.ok .non:=by unfold Zji;rw[Zj4];exact if_pos (flats_map JQ _)
theorem Zm7:Zji "RingBook" "undone" (bkP p k)=.ok .non:=by unfold Zji;rw[Zlo];exact if_pos (flats_map JB _)
theorem ZmT {y:List PV}:Q7 "RingBook" "boards" (JG p b d u) y=.ok (JG p y d u):=by unfold Q7 JG;simp only[ix0];rfl
theorem ZmS {y:List PV}:Q7 "RingBook" "deeds" (JG p b d u) y=.ok (JG p b y u):=by unfold Q7 JG;simp only[ix1];rfl
theorem ZmR {y:List PV}:Q7 "RingBook" "undone" (JG p b d u) y=.ok (JG p b d y):=by unfold Q7 JG;simp only[ix2];rfl
theorem Zlx {ns:List Int} (h:k.bs.length<1000000):Zj7 "RingBook" "boards" (bkP p k) (fzI ns)=.ok (bkP p ⟨k.bs++[ns],k.ds,k.us⟩):=by
 unfold Zj7
 rw[ZgG]
 show (if _ then _ else _)=_
 rw[if_pos ⟨flats_map J0 _,by rw[Zt7];exact h⟩]
 show Q7 _ _ (JG p _ _ _) _=_
 rw[ZmT]
 unfold bkP
 rw[ZtU];rfl
theorem Zlw {x:Dd} (h:k.ds.length<1000000):Zj7 "RingBook" "deeds" (bkP p k) (dd3 x)=.ok (bkP p ⟨k.bs,k.ds++[x],k.us⟩):=by
 unfold Zj7
 rw[Zj4]
 show (if _ then _ else _)=_
 rw[if_pos ⟨flats_map JQ _,by rw[Zt7];exact h⟩]
 show Q7 _ _ (JG p _ _ _) _=_
 rw[ZmS]
 unfold bkP
 rw[ZtU];rfl
theorem ZmB {x:Dd×List Int} (h:k.us.length<1000000):Zj7 "RingBook" "undone" (bkP p k) (UL x)=.ok (bkP p ⟨k.bs,k.ds,k.us++[x]⟩):=by
 unfold Zj7
 rw[Zlo]
 show (if _ then _ else _)=_
 rw[if_pos ⟨flats_map JB _,by rw[Zt7];exact h⟩]
 show Q7 _ _ (JG p _ _ _) _=_
 rw[ZmR]
 unfold bkP
 rw[ZtU];rfl
theorem Zml {α:Type}{q:α->PV}{L:List α}{d:α} (h:L.length≠0):(L.map q).getD ((L.map q).length-1) .non=q (L.getD (L.length-1) d):=by
 rw[Zt7,Zt5,Zt5,ZtL,Zt6 (by omega)];rfl
theorem ZlA {α:Type}{q:α->PV} (hq:∀a,(q a).flat=true) {L:List α} (d:α) (h:L.length≠0):popL (L.map q)=.ok (q (L.getD (L.length-1) d),L.dropLast.map q):=by
 unfold popL
 rw[if_pos ⟨flats_map hq _,by rw[Zt7];exact h⟩,Zml (d:=d) h,List.map_dropLast]
theorem Zm2 (h:k.bs.length≠0):ZiG "RingBook" "boards" (bkP p k)=.ok (fzI (k.bs.getD (k.bs.length-1) []),bkP p ⟨k.bs.dropLast,k.ds,k.us⟩):=by
 unfold ZiG
 rw[ZgG]
 show (popL _).bind _=_
 rw[ZlA J0 [] h]
 simp only[Rr.bind_ok]
 unfold bkP
 rw[ZmT];rfl
theorem Zm1 (h:k.ds.length≠0):ZiG "RingBook" "deeds" (bkP p k)=.ok (dd3 (k.ds.getD (k.ds.length-1) ("",0,0)),bkP p ⟨k.bs,k.ds.dropLast,k.us⟩):=by
 unfold ZiG
 rw[Zj4]
 show (popL _).bind _=_
 rw[ZlA JQ ("",0,0) h]
 simp only[Rr.bind_ok]
 unfold bkP
 rw[ZmS];rfl
theorem Zm0 (h:k.us.length≠0):ZiG "RingBook" "undone" (bkP p k)=.ok (UL (k.us.getD (k.us.length-1) (("",0,0),[])),bkP p ⟨k.bs,k.ds,k.us.dropLast⟩):=by
 unfold ZiG
 rw[Zlo]
 show (popL _).bind _=_
 rw[ZlA JB (("",0,0),[]) h]
 simp only[Rr.bind_ok]
 unfold bkP
 rw[ZmR];rfl
theorem Zmw:pSetF "RingBook" "undone" (bkP p k) (.lst [])=.ok (bkP p ⟨k.bs,k.ds,[]⟩):=by
 unfold bkP JG
 simp only[pSetF]
 rw[if_pos ⟨trivial,by decide⟩,show Zfe ("undone":Str) (["boards", "deeds", "undone"]:List Str)=(["boards", "deeds", "undone"]:List Str) by decide +kernel]
 unfold Zc4
 rw[if_pos (by decide +kernel),ix2];rfl
theorem Zmz {y:PV}:pSetF "RingBook" "boards" (.box p (.ob "RingBook" []) []) y=.ok (.box p (.ob "RingBook" ["boards"]) [y]):=by
 simp only[pSetF]
 rw[if_pos ⟨trivial,by decide⟩,show Zfe ("boards":Str) ([]:List Str)=(["boards"]:List Str) by decide +kernel]
 unfold Zc4
 rw[if_neg (by decide +kernel)];rfl
theorem Zmy {x y:PV}:pSetF "RingBook" "deeds" (.box p (.ob "RingBook" ["boards"]) [x]) y=.ok (.box p (.ob "RingBook" ["boards", "deeds"]) [x,y]):=by
 simp only[pSetF]
 rw[if_pos ⟨trivial,by decide⟩,show Zfe ("deeds":Str) (["boards"]:List Str)=(["boards", "deeds"]:List Str) by decide +kernel]
 unfold Zc4
 rw[if_neg (by decide +kernel)];rfl
theorem Zmx {x y z:PV}:pSetF "RingBook" "undone" (.box p (.ob "RingBook" ["boards", "deeds"]) [x,y]) z=.ok (.box p (.ob "RingBook" ["boards", "deeds", "undone"]) [x,y,z]):=by
 simp only[pSetF]
 rw[if_pos ⟨trivial,by decide⟩,show Zfe ("undone":Str) (["boards", "deeds"]:List Str)=(["boards", "deeds", "undone"]:List Str) by decide +kernel]
 unfold Zc4
 rw[if_neg (by decide +kernel)];rfl
end
theorem UO {α:Type}{q:α->PV}{L:List α}{d:α} (h:L.length≠0):pIx (.lst (L.map q)) (.int (-1))=.ok (q (L.getD (L.length-1) d)):=by
 have e:ixN (L.map q).length (-1)=some (L.length-1):=by
  unfold ixN
  rw[Zt7,if_neg (by decide),if_pos (by omega)]
  congr 1
  omega
 unfold pIx atI
 simp only[e,Zuw]
 rw[ZtL,Zt5,Zt6 (by omega)];rfl
theorem Qv {a:List Int×Int}:Zbx (.tup [.lst (a.1.map PV.int),.int a.2])=.tup [fzI a.1,.int a.2]:=by
 simp only[Zbx,frzPs,UJ];rfl
theorem UU {ns:List Int}:grd (fzI ns)=.ok (fzI ns):=by unfold grd;rw[if_pos (J0 ns)]
theorem ZdK {ns:List Int}{i:Int}:grd (.tup [fzI ns,.int i])=.ok (.tup [fzI ns,.int i]):=by
 unfold grd;rw[if_pos (by simp[PV.flat,PV.flats,J0])]
theorem Zb0 {p:Option Addr}{k:Bk}:unp (bkP p k)=bkP none k:=rfl
theorem ZU {ns:List Int}:thw (fzI ns)=.lst (ns.map PV.int):=rfl
theorem ZdL {ns:List Int}:Zbx (.lst (ns.map PV.int))=fzI ns:=by simp only[Zbx,UJ];rfl
end L2
namespace L2
noncomputable def ZkQ (p s:Int):Int:=p*s%(p+1)
noncomputable def Zng (p s:Int):Int:=p*s/(p+1)
noncomputable def Zi9 (s:Int):Nat->Int
 |0=>s
 |k+1=>Zng (k+1) (Zi9 s k)
noncomputable def ZkU (s:Int) (n:Nat):List Int:=(List.range n).map fun(k:Nat)=>ZkQ (k+1) (Zi9 s k)
noncomputable def ZjR (s:Int):Nat->Nat->Nat
 |0,k=>k
 |n+1,k=>if 0<Zi9 s k then ZjR s n (k+1) else k
noncomputable def Zno (s:Int):Nat:=ZjR s s.toNat 0
noncomputable def ZlK (s:Int):List Int:=ZkU s (Zno s)
def Zg6 (ns:List Int):Prop:=(∀x∈ns,0<=x)/\ns.length<=200/\ns.sum<=10000/\(ns=[]\/ns.getD (ns.length-1) 0≠0)
noncomputable instance (ns:List Int):Decidable (Zg6 ns):=by unfold Zg6;infer_instance
def Zi1 (ns:List Int):Prop:=Zg6 ns/\ns=ZlK ns.sum
noncomputable instance (ns:List Int):Decidable (Zi1 ns):=by unfold Zi1;infer_instance
noncomputable def s2 (ns:List Int) (r:Nat):Nat->Int
 |0=>0
 |i+1=>s2 ns r i+if i%2=r then ns.getD i 0 else 0
noncomputable def hs:Nat->Nat->Int->List Int
 |_,0,_=>[]
 |k,m+1,l=>ZkQ (k+1) l::hs (k+1) m (Zng (k+1) l)
noncomputable def s3 (ns:List Int) (r:Nat):Nat->Int
 |0=>0
 |i+1=>s3 ns r i+if i%3=r then ns.getD i 0 else 0
def Zi0 (ns:List Int):Prop:=(∀x∈ns,0<=x)/\ns.length<=100/\ns.sum<=100/\(ns=[]\/(ns.getD 0 0≠0/\ns.getD (ns.length-1) 0≠0))
noncomputable instance (ns:List Int):Decidable (Zi0 ns):=by unfold Zi0;infer_instance
theorem sum_nn:∀{ns:List Int},(∀x∈ns,0<=x)->0<=ns.sum
 |[],_=>by simp
 |x::xs,h=>by
  have:=h x (by simp)
  have:=sum_nn (ns:=xs) (fun y hy=>h y (by simp[hy]))
  simp;omega
theorem getD_set {l:List Int}{i j:Nat}{v:Int} (h:i<l.length):(l.set i v).getD j 0=if i=j then v else l.getD j 0:=by
 simp only[Zt5,List.getElem?_set,if_pos h]
 split<;>rfl
theorem mem_getD {l:List Int}{x:Int} (h:x∈l):∃i,i<l.length/\x=l.getD i 0:=by
 obtain⟨i,hi,rfl⟩:=List.getElem_of_mem h
 exact⟨i,hi,by rw[Zt5,Zt6 hi];rfl⟩
end L2
namespace My
open L2
noncomputable def ZlN (ns:List Int) (k:Int):List Int:=tab ns.length fun x=>ns.getD (((x:Int)-k)%ns.length).toNat 0
noncomputable def ZlM (a:List Int×Int) (s:Nat):Int:=((its Zb7 s a).2-a.2)%a.1.length
def isT (a:List Int×Int) (s:Nat):Prop:=(its Zb7 s a).1=ZlN a.1 (ZlM a s)
noncomputable instance (a:List Int×Int) (s:Nat):Decidable (isT a s):=by unfold isT;infer_instance
section
end
end My
namespace My
open PySem PySem.Spec PyProof.Rows L2
theorem Zh6 {xs:List PV}:PV.flat (.tup xs)=PV.flats xs:=by simp[PV.flat]
theorem ZaB {ns:List Int}:PV.flat (.tup (ns.map PV.int))=true:=by rw[Zh6];exact Zcf
theorem ZfU {ns:List Int}:grd (.tup (ns.map PV.int))=.ok (.tup (ns.map PV.int)):=by unfold grd;rw[ZaB];rfl
noncomputable def tI (b:List Int):List Key:=b.map Sum.inl
theorem Zdg (b:List Int):Vw b=.tup ((tI b).map Zjc):=by unfold Vw tI;rw[ZuN];rfl
theorem flats_map {α:Type}{q:α->PV} (h:∀a,PV.flat (q a)=true):∀L:List α,PV.flats (L.map q)=true
 |[]=>by simp[PV.flats]
 |a::L=>by
  rw[ZtI]
  simp only[PV.flats,h a,flats_map h L,Bool.and_self]
theorem ZiW {xs:List PV} (h:PV.flats xs=true) (hl:xs.length<=1000000):newF xs=.ok (.lst xs):=by
 unfold newF
 rw[h,decide_eq_true hl];rfl
theorem Zin {α:Type}{q:α->PV}{L:List α} (h:∀a,PV.flat (q a)=true) (hl:L.length<=1000000):newF (L.map q)=.ok (.lst (L.map q)):=ZiW (flats_map h L) (by simpa using hl)
theorem Zcg (t:List Int):PV.flat (Vw t)=true:=ZaB
theorem ZjZ {a b:List Int} (h:tI a=tI b):a=b:=by
 unfold tI at h
 exact(List.map_inj_right fun x y h=>Sum.inl.inj h).mp h
section
variable {κ:Type} [DecidableEq κ]
end
section
variable {ks:List (List Key)}{xs:List PV}{p:Option PySem.Addr}{g:List Int}{v:PV}
theorem Zlj:dAt (.box p (.dt ks) xs) (Vw g)=some (atK ks xs (tI g)):=by
 rw[Zdg]
 simp only[dAt,UI,Option.map_some]
theorem ZiT (h:atK ks xs (tI g)=some v):Zhh (.box p (.dt ks) xs) (Vw g)=.ok v:=by
 unfold Zhh
 rw[Zlj,h]
theorem Zkz {f:Bool->Bool}:ZlC f (Vw g) (.box p (.dt ks) xs)=.ok (.bl (f (atK ks xs (tI g)).isSome)):=by
 unfold ZlC
 rw[Zlj]
theorem ZiS (hv:v.flat=true) (hl:xs.length<1000000):Zfv (.box p (.dt ks) xs) (Vw g) v=.ok (.box p (.dt (UC ks (tI g))) (putXs ks xs (tI g) v)):=by
 rw[Zdg]
 unfold Zfv
 simp only[UI]
 rw[if_pos ⟨hl,.inr hv⟩]
end
end My
namespace My
open PySem L2
noncomputable def Ub (bs:List (List Int)) (b:List Int):Nat->Option Nat
 |0=>none
 |i+1=>if bs.getD i []=b then some i else Ub bs b i
theorem VE {bs:List (List Int)}{b:List Int}{i:Nat}:∀{n:Nat},Ub bs b n=some i ↔ i<n/\bs.getD i []=b/\∀m,i<m->m<n->bs.getD m []≠b
 |0=>by simp[Ub]
 |n+1=>by
  unfold Ub
  by_cases e:bs.getD n []=b
  ·rw[if_pos e]
   constructor
   ·intro h
    cases h
    exact⟨Zus _,e,fun m h1 h2=>by omega⟩
   ·rintro⟨h1,h2,h3⟩
    by_cases q:i=n
    ·rw[q]
    ·exact absurd e (h3 n (by omega) (by omega))
  ·rw[if_neg e,VE]
   constructor
   ·rintro⟨h1,h2,h3⟩
    refine⟨by omega,h2,fun m q1 q2=>?_⟩
    by_cases q:m=n
    ·rw[q];exact e
    ·exact h3 m q1 (by omega)
   ·rintro⟨h1,h2,h3⟩
    refine⟨?_,h2,fun m q1 q2=>h3 m q1 (by omega)⟩
    by_cases q:i=n
    ·rw[q] at h2;exact absurd h2 e
    ·omega
noncomputable def ZeB (o:Option Nat) (j:Nat):List (List Int):=match o with
 |some i=>[[(i:Int),(j:Int)]]
 |none=>[]
noncomputable def Vt (bs:List (List Int)):Nat->List (List Int)
 |0=>[]
 |j+1=>Vt bs j++ZeB (Ub bs (bs.getD j []) j) j
def PrC (bs:List (List Int)) (n:Nat) (x:List Int):Prop:=∃i j:Nat,x=[(i:Int),(j:Int)]/\i<j/\j<n/\bs.getD i []=bs.getD j []/\∀m,i<m->m<j->bs.getD m []≠bs.getD j []
theorem Zeb {bs:List (List Int)}{x:List Int}:∀{n:Nat},x∈Vt bs n ↔ PrC bs n x
 |0=>by
  simp only[Vt,Zux,false_iff]
  rintro⟨i,j,_,_,h,_⟩
  omega
 |n+1=>by
  unfold Vt
  rw[ZtA,Zeb]
  constructor
  ·rintro(⟨i,j,h1,h2,h3,h4⟩|h)
   ·exact⟨i,j,h1,h2,by omega,h4⟩
   ·unfold ZeB at h
    split at h
    ·rename_i i e
     obtain⟨e1,e2,e3⟩:=VE.mp e
     exact⟨i,n,by simpa using h,e1,by omega,e2,e3⟩
    ·simp at h
  ·rintro⟨i,j,rfl,h2,h3,h4,h5⟩
   by_cases q:j=n
   ·subst q
    refine .inr ?_
    rw[VE.mpr ⟨h2,h4,h5⟩]
    simp[ZeB]
   ·exact .inl ⟨i,j,rfl,h2,by omega,h4,h5⟩
theorem Qy {bs:List (List Int)}:∀{n:Nat},(Vt bs n).length<=n
 |0=>by simp[Vt]
 |n+1=>by
  unfold Vt
  have:=Qy (bs:=bs) (n:=n)
  rw[Zud]
  have:(ZeB (Ub bs (bs.getD n []) n) n).length<=1:=by unfold ZeB;split<;>simp
  omega
theorem Zgt {bs:List (List Int)}{n:Nat}:∀t∈Vt bs n,t≠[]:=fun t ht=>by
 obtain⟨i,j,rfl,_⟩:=Zeb.mp ht
 simp
theorem Zbt {k k':List Key}{y:PV}:∀{ks:List (List Key)}{xs:List PV},ks.length=xs.length->k∈ks->atK ks (Zei ks xs k y) k'=if k'=k then some y else atK ks xs k'
 |[],_,_,h=>by simp at h
 |_::_,[],h,_=>by simp at h
 |q::ks,x::xs,h,hm=>by
  unfold Zei atK
  by_cases e:q=k
  ·subst e
   rw[if_pos rfl]
   by_cases e2:k'=q
   ·subst e2;rw[if_pos rfl,if_pos rfl]
   ·rw[if_neg (Ne.symm e2),if_neg e2,if_neg (Ne.symm e2)]
    by_cases hm2:q∈ks
    ·rw[Zbt (by simpa using h) hm2,if_neg e2]
    ·clear hm
     have:∀{ks:List (List Key)}{xs:List PV},ks.length=xs.length->q ∉ ks->atK ks (Zei ks xs q y) k'=atK ks xs k':=by
      intro ks
      induction ks with
      |nil=>intro xs _ _;rfl
      |cons a ks ih =>
       intro xs hl hn
       cases xs with
       |nil=>simp at hl
       |cons x xs =>
        have hn':a≠q:=fun z=>hn (by simp[z])
        simp only[Zei,atK]
        rw[if_neg hn',ih (by simpa using hl) fun z=>hn (by simp[z])]
     exact this (by simpa using h) hm2
  ·rw[if_neg e]
   have hm2:k∈ks:=by
    rcases ZtE.mp hm with z|z
    ·exact absurd z.symm e
    ·exact z
   by_cases e2:q=k'
   ·rw[if_pos e2,if_pos e2,if_neg (fun z=>e (e2.trans z))]
   ·rw[if_neg e2,if_neg e2,Zbt (by simpa using h) hm2]
theorem Zec {k k':List Key}{y:PV}:∀{ks:List (List Key)}{xs:List PV},ks.length=xs.length->k ∉ ks->atK (ks++[k]) (xs++[y]) k'=if k'=k then some y else atK ks xs k'
 |[],[],_,_=>by
  show (if k=k' then some y else none)=_
  by_cases e:k'=k
  ·rw[if_pos e,if_pos e.symm]
  ·rw[if_neg e,if_neg (Ne.symm e)];rfl
 |[],_::_,h,_=>by simp at h
 |_::_,[],h,_=>by simp at h
 |q::ks,x::xs,h,hm=>by
  have e:q≠k:=fun z=>hm (by simp[z])
  show (if q=k' then some x else atK (ks++[k]) (xs++[y]) k')=if k'=k then some y else if q=k' then some x else atK ks xs k'
  rw[Zec (by simpa using h) fun z=>hm (by simp[z])]
  by_cases e2:q=k'
  ·rw[if_pos e2,if_pos e2,if_neg (fun z=>e (e2.trans z))]
  ·rw[if_neg e2,if_neg e2]
theorem Zj6 {ks:List (List Key)}{xs:List PV}{k k':List Key}{y:PV} (h:ks.length=xs.length):atK (UC ks k) (putXs ks xs k y) k'=if k'=k then some y else atK ks xs k':=by
 unfold UC putXs
 by_cases hm:k∈ks
 ·rw[if_pos hm,if_pos hm,Zbt h hm]
 ·rw[if_neg hm,if_neg hm,Zec h hm]
theorem Zkn {ks:List (List Key)}{xs:List PV}{k:List Key}{y:PV} (h:ks.length=xs.length):(putXs ks xs k y).length<=xs.length+1:=by
 unfold putXs
 split
 ·rw[ZaO h,h];omega
 ·simp
theorem V0 {g:Bool->Bool}{n:Nat}{x:PV} (h:Dat n x) (hn:n<=64:=by decide):Zbw g x x=.ok (.bl (g true)):=by
 unfold Zbw
 rw[h.ok hn,Bool.and_self,if_pos rfl,PySem.SeqAt.eqv_refl _ h.can]
theorem ZhM (L:List (List Int)):Dat 2 (.lst (L.map Vw)):=Zgm fun x hx=>by
 obtain⟨t,_,rfl⟩:=Zub.mp hx
 exact Zgl fun y hy=>by
  obtain⟨i,_,rfl⟩:=Zub.mp hy
  exact ZcR i
theorem ZkW {α:Type}{q:α->PV}{L:List α}{d:α}{i:Nat}{x:PV} (h:(Zbh (L.map q))[i]?=some x):i<L.length/\x=.tup [.int i,q (L.getD i d)]:=by
 unfold Zbh at h
 rw[Zu6,ZtL] at h
 by_cases hi:i<L.length
 ·rw[Zt6 hi] at h
  refine⟨hi, ?_⟩
  rw[Zt5,Zt6 hi]
  simpa using h.symm
 ·rw[ZtF (by omega)] at h
  simp at h
end My
namespace My
open L2
noncomputable abbrev Zi2:=PySem.Str×Int
noncomputable def ZcN (d:Zi2):PV:=.tup [.str d.1,.int d.2]
noncomputable def Zms (w:PySem.Str):Bool:=w==("sow":PySem.Str) || w==("back":PySem.Str)
noncomputable def Znt (b:List Int) (d:Zi2):Bool:=Zms d.1&&(decide (0<=d.2/\d.2<(b.length:Int))&&decide (0<b.getD d.2.toNat 0))
noncomputable def Zjv (b:List Int) (d:Zi2):List Int×Int:=if d.1=("sow":PySem.Str) then Zb7 (b,d.2) else tbS (b,d.2)
noncomputable def Zl6 (b:List Int) (ds:List Zi2):Nat->List Int
 |0=>b
 |i+1=>(Zjv (Zl6 b ds i) (ds.getD i ("",0))).1
noncomputable def Zmu (b:List Int) (ds:List Zi2) (i:Nat):Bool:=Znt (Zl6 b ds i) (ds.getD i ("",0))
end My
namespace My
open PySem L2
noncomputable def ZiN (d:Dd):Zi2:=(d.1,d.2.1)
noncomputable abbrev plO (ds:List Dd):List Zi2:=ds.map ZiN
noncomputable def mvD (b:List Int) (d:Zi2):Int:=if d.1=("sow":Str) then b.getD d.2.toNat 0 else -(Zjv b d).1.getD (Zjv b d).2.toNat 0
structure Zny (b0:List Int) (bs:List (List Int)) (ds:List Dd):Prop where
 len:bs.length=ds.length+1
 wk:∀i,i<bs.length->bs.getD i []=Zl6 b0 (plO ds) i
 can:∀i,i<ds.length->Zmu b0 (plO ds) i=true
 mv:∀i,i<ds.length->(ds.getD i ("",0,0)).2.2=mvD (Zl6 b0 (plO ds) i) (ZiN (ds.getD i ("",0,0)))
structure Bw (b0:List Int) (k:Bk):Prop where
 bd:U9 b0
 kl:k.bs.length=k.ds.length+1
 all:Zny b0 (k.bs++(k.us.map (·.2)).reverse) (k.ds++(k.us.map (·.1)).reverse)
noncomputable def ZI (k:Bk):List Int:=k.bs.getD (k.bs.length-1) []
theorem Zaj {bs:List (List Int)}:∀{n:Nat},(Vt bs (n+1)).length<=n
 |0=>by simp[Vt,Ub,ZeB]
 |n+1=>by
  have ih:=Zaj (bs:=bs) (n:=n)
  rw[Vt,Zud]
  have:(ZeB (Ub bs (bs.getD (n+1) []) (n+1)) (n+1)).length<=1:=by unfold ZeB;split<;>simp
  omega
noncomputable def skS (k:Bk) (p:Int):Bk:=⟨k.bs++[(Zb7 (ZI k,p)).1],k.ds++[(("sow":PySem.Str),p,(ZI k).getD p.toNat 0)],[]⟩
noncomputable def skT (k:Bk) (p:Int):Bk:=⟨k.bs++[(tbS (ZI k,p)).1],k.ds++[(("back":PySem.Str),p,-(tbS (ZI k,p)).1.getD (tbS (ZI k,p)).2.toNat 0)],[]⟩
noncomputable def skU (k:Bk):Bk:=⟨k.bs.dropLast,k.ds.dropLast,k.us++[(k.ds.getD (k.ds.length-1) ("",0,0),k.bs.getD (k.bs.length-1) [])]⟩
noncomputable def skR (k:Bk):Bk:=⟨k.bs++[(k.us.getD (k.us.length-1) (("",0,0),[])).2],k.ds++[(k.us.getD (k.us.length-1) (("",0,0),[])).1],k.us.dropLast⟩
noncomputable def Vx (k:Bk) (w p:Int):Option PySem.Str:=if w=2 then (if k.ds.length=0 then some "NoDeed" else none) else if w=3 then (if k.us.length=0 then some "NoDeed" else none) else stX (ZI k) p
noncomputable def stK (k:Bk) (w p:Int):Bk:=if w=0 then skS k p else if w=1 then skT k p else if w=2 then skU k else skR k
noncomputable def stV (k:Bk) (w p:Int):PV:=if w=0 then .int (Zb7 (ZI k,p)).2 else if w=1 then .int (tbS (ZI k,p)).2 else .non
noncomputable def JF (k:Bk) (w p:Int):PV:=match Vx k w p with
 |some x=>.str x
 |none=>stV k w p
noncomputable def nxK (k:Bk) (w p:Int):Bk:=match Vx k w p with
 |some _=>k
 |none=>stK k w p
structure BkG (n:Nat) (k:Bk):Prop where
 bd:∀b∈k.bs,U9 b
 ub:∀u∈k.us,U9 u.2
 bl:k.ds.length+1=k.bs.length
 dl:k.ds.length<=n
 ul:k.us.length<=n
 wd:∀d∈k.ds,d.1 = "sow"\/d.1 = "back"
 wu:∀u∈k.us,u.1.1 = "sow"\/u.1.1 = "back"
theorem BkG.last {n:Nat}{k:Bk} (h:BkG n k):U9 (ZI k):=by
 refine h.bd _ ?_
 unfold ZI
 have:=h.bl
 rw[Zt5,Zt6 (by omega)]
 exact Zuf _
theorem BkG.first {n:Nat}{b:List Int} (h:U9 b):BkG n ⟨[b],[],[]⟩:=⟨fun x hx=>by rw[ZtO.mp hx];exact h,by simp,rfl,Zuk _,Zuk _,by simp,by simp⟩
theorem Uj {k:Bk}{w p:Int} (h2:w≠2) (h3:w≠3):Vx k w p=stX (ZI k) p:=by unfold Vx;rw[if_neg h2,if_neg h3]
theorem BkG.next {n:Nat}{k:Bk}{w p:Int} (h:BkG n k) (hw:0<=w/\w<=3):BkG (n+1) (nxK k w p):=by
 have hdl:=h.dl
 have hul:=h.ul
 have hbl:=h.bl
 unfold nxK
 split
 ·exact⟨h.bd,h.ub,h.bl,by omega,by omega,h.wd,h.wu⟩
 ·rename_i e
  unfold stK
  by_cases w0:w=0
  ·rw[if_pos w0]
   rw[Uj (by omega) (by omega)] at e
   have st:=J5.mp e
   refine⟨fun b hb=>?_,by simp[skS],by simp[skS];omega,by simp[skS];omega,by simp[skS],fun d hd=>?_,by simp[skS]⟩
   rcases ZtA.mp hb with z|z
   ·exact h.bd b z
   ·rw[ZtO.mp z];exact(V3 (a:=(ZI k,p)) (.inl rfl) st 1).bd
   ·rcases ZtA.mp hd with z|z
    ·exact h.wd d z
    ·rw[ZtO.mp z];exact .inl rfl
  ·rw[if_neg w0]
   by_cases w1:w=1
   ·rw[if_pos w1]
    rw[Uj (by omega) (by omega)] at e
    have st:=J5.mp e
    refine⟨fun b hb=>?_,by simp[skT],by simp[skT];omega,by simp[skT];omega,by simp[skT],fun d hd=>?_,by simp[skT]⟩
    rcases ZtA.mp hb with z|z
    ·exact h.bd b z
    ·rw[ZtO.mp z];exact(V3 (a:=(ZI k,p)) (.inr rfl) st 1).bd
    ·rcases ZtA.mp hd with z|z
     ·exact h.wd d z
     ·rw[ZtO.mp z];exact .inr rfl
   ·rw[if_neg w1]
    by_cases w2:w=2
    ·rw[if_pos w2]
     have hd:k.ds.length≠0:=fun z=>by unfold Vx at e;rw[if_pos w2,if_pos z] at e;cases e
     refine⟨fun b hb=>h.bd b (Zuo _ hb),fun u hu=>?_,by simp[skU];omega,by simp[skU];omega,by simp[skU];omega,fun d hd=>h.wd d (Zuo _ hd),fun u hu=>?_⟩
     ·rcases ZtA.mp hu with z|z
      ·exact h.ub u z
      ·rw[ZtO.mp z];exact h.last
     ·rcases ZtA.mp hu with z|z
      ·exact h.wu u z
      ·rw[ZtO.mp z]
       refine h.wd _ ?_
       rw[Zt5,Zt6 (by omega)]
       exact Zuf _
    ·rw[if_neg w2]
     have hu:k.us.length≠0:=fun z=>by unfold Vx at e;rw[if_neg w2,if_pos (by omega),if_pos z] at e;cases e
     refine⟨fun b hb=>?_,fun u hu=>h.ub u (Zuo _ hu),by simp[skR];omega,by simp[skR];omega,by simp[skR];omega,fun d hd=>?_,fun u hu=>h.wu u (Zuo _ hu)⟩
     ·rcases ZtA.mp hb with z|z
      ·exact h.bd b z
      ·rw[ZtO.mp z]
       refine h.ub _ ?_
       rw[Zt5,Zt6 (by omega)]
       exact Zuf _
     ·rcases ZtA.mp hd with z|z
      ·exact h.wd d z
      ·rw[ZtO.mp z]
       refine h.wu _ ?_
       rw[Zt5,Zt6 (by omega)]
       exact Zuf _
theorem ZkB:PyData.canLay0 (.str "sow")=true:=by rw[PyData.canLay0];decide +kernel
theorem Zja:PyData.canLay0 (.str "back")=true:=by rw[PyData.canLay0];decide +kernel
theorem BkG.plan {n:Nat}{k:Bk} (h:BkG n k):Dat 2 (.lst ((plO k.ds).map ZcN)):=Zgm fun x hx=>by
 obtain⟨d,hd,rfl⟩:=Zub.mp hx
 obtain⟨e,he,rfl⟩:=Zub.mp hd
 refine Zgl fun y hy=>?_
 simp only[ZtE,Zux,or_false] at hy
 rcases hy with rfl|rfl
 ·rcases h.wd e he with z|z
  ·rw[show (ZiN e).1 = "sow" from z];exact ZcQ ZkB
  ·rw[show (ZiN e).1 = "back" from z];exact ZcQ Zja
 ·exact ZcR _
set_option hygiene false
local macro_rules | `(tactic| walk_at "pu")=>`(tactic| try simp -implicitDefEqProofs only[ZcH,ZcI,List.set_cons_zero,ZuE,ZuJ,ZuL,ZtY,List.replicate_zero,Zui,Rr.bind_ok,Rr.bind_exc,Rr.bind_bad,Rr.thenS_ok,Rr.thenS_exc,Rr.thenS_bad,RS.seq_next,RS.seq_ret,RS.seq_exc,RS.out_next,RS.out_ret,RS.out_exc,
 Zfw,Zfm,Zie,Zif,Zil,Zim,ZfV,ZfS,ZfT,Ziy,Zg4,Zg5,Zik,Zij,Zii,Zfo,Zih,Zig,ZdG,ZdH,ZdF,Zfs,Zd2,ZbM,ZbL,ZtK,Zuq,Bool.not_true,Bool.not_false,Bool.false_eq_true,if_true,if_false,Nat.reduceAdd,Nat.reduceSub,id,ZtI,Zu0,Int.reduceToNat,Za1,VW,Zk1,Zip,Zio,ZdJ,Zd8,Nat.reduceLeDiff,ZtD,Int.reduceLT,Int.reduceLE,Int.reduceEq,decide_true,decide_false])
set_option hygiene true
seal PE PT PA PS PSs DE DT DAA DAF DS
noncomputable abbrev Zp:List Str:=["boards", "deeds", "undone"]
noncomputable def top (i:Nat):Stmt:=PySem.Challenge.pw_sowring_k58_deeds_of_a_book.main.body.getD i (.Pass ⟨0,0,0,0⟩)
noncomputable abbrev ZoU:Stmt:=top 26
theorem ZsX:Zs ["script", "k"] ["script", "k"] (Zd ZoU):=⟨rfl,rfl,rfl,by decide +kernel,rfl,by decide +kernel,by decide +kernel⟩
theorem Zte:ZD "_law_at" ZoU ["script", "k"]:=fun _ _ _ _ _ _ us hl=>by obtain⟨_,_,rfl⟩:=us2 hl;rfl
noncomputable abbrev Zom:Stmt:=top 27
theorem ZoR:Zs ["script", "many", "numbers", "k", "at"] ["script", "many"] (Zd Zom):=⟨rfl,rfl,rfl,by decide +kernel,rfl,by decide +kernel,by decide +kernel⟩
theorem Zsk:ZD "_law_folded" Zom ["script", "many"]:=fun _ _ _ _ _ _ us hl=>by obtain⟨_,_,rfl⟩:=us2 hl;rfl
noncomputable abbrev Zoy:Stmt:=top 28
theorem Zo1:Zs ["script", "pits", "way", "board", "number", "held"] ["script", "pits", "way"] (Zd Zoy):=⟨rfl,rfl,rfl,by decide +kernel,rfl,by decide +kernel,by decide +kernel⟩
theorem Zsz:ZD "_law_board" Zoy ["script", "pits", "way"]:=fun _ _ _ _ _ _ us hl=>by obtain⟨_,_,_,rfl⟩:=us3 hl;rfl
noncomputable abbrev ZoI:Stmt:=top 10
theorem ZsJ:Zs ["value"] ["value"] (Zd ZoI):=⟨rfl,rfl,rfl,by decide +kernel,rfl,by decide +kernel,by decide +kernel⟩
theorem ZsS:ZD "is_whole" ZoI ["value"]:=fun _ _ _ _ _ _ us hl=>by obtain⟨_,rfl⟩:=us1 hl;rfl
noncomputable abbrev ZnT:Stmt:=top 11
theorem Zrw:Zs ["value", "least"] ["value", "least"] (Zd ZnT):=⟨rfl,rfl,rfl,by decide +kernel,rfl,by decide +kernel,by decide +kernel⟩
theorem ZpP:ZD "is_whole_from" ZnT ["value", "least"]:=fun _ _ _ _ _ _ us hl=>by obtain⟨_,_,rfl⟩:=us2 hl;rfl
noncomputable abbrev Zn6:Stmt:=top 12
theorem ZoQ:Zs ["values"] ["values"] (Zd Zn6):=⟨rfl,rfl,rfl,by decide +kernel,rfl,by decide +kernel,by decide +kernel⟩
theorem ZpU:ZD "is_list_from_nought" Zn6 ["values"]:=fun _ _ _ _ _ _ us hl=>by obtain⟨_,rfl⟩:=us1 hl;rfl
noncomputable abbrev Zox:Stmt:=top 9
theorem Zsp:Zs [] [] (Zd Zox):=⟨rfl,rfl,rfl,by decide +kernel,rfl,by decide +kernel,by decide +kernel⟩
theorem Zsy:ZD "most_seeds" Zox []:=fun _ _ _ _ _ _ us hl=>match us,hl with | [],_=>rfl
noncomputable abbrev ZoJ:Stmt:=top 13
theorem ZsK:Zs ["board"] ["board"] (Zd ZoJ):=⟨rfl,rfl,rfl,by decide +kernel,rfl,by decide +kernel,by decide +kernel⟩
theorem ZsT:ZD "is_board" ZoJ ["board"]:=fun _ _ _ _ _ _ us hl=>by obtain⟨_,rfl⟩:=us1 hl;rfl
noncomputable abbrev Zol:Stmt:=top 14
theorem Zse:Zs ["board"] ["board"] (Zd Zol):=⟨rfl,rfl,rfl,by decide +kernel,rfl,by decide +kernel,by decide +kernel⟩
theorem Zq5:ZD "check_board" Zol ["board"]:=fun _ _ _ _ _ _ us hl=>by obtain⟨_,rfl⟩:=us1 hl;rfl
noncomputable abbrev Zn4:Stmt:=ZY (top 24) 0
theorem Zq1:Zs ["self", "board"] ["self", "board"] (Zd Zn4):=⟨rfl,rfl,rfl,by decide +kernel,rfl,by decide +kernel,by decide +kernel⟩
theorem Zq3:∀(kV doc pm:Value) (an:Option Addr) (cdv ct:Value) (us:List Value),us.length=(["self", "board"]:List Str).length->bindArgs (PySem.W.fnOf "__init__" "RingBook.__init__" (Zo Zn4) (Zn Zn4) (Zd Zn4) .none kV doc pm an cdv ct) ⟨us,[]⟩=pure ((["self", "board"]:List Str).zip us):=fun _ _ _ _ _ _ us hl=>by obtain⟨_,_,rfl⟩:=us2 hl;rfl
noncomputable abbrev ZnC:Stmt:=ZY (top 24) 6
theorem ZqV:Zs ["self"] ["self"] (Zd ZnC):=⟨rfl,rfl,rfl,by decide +kernel,rfl,by decide +kernel,by decide +kernel⟩
theorem Zro:∀(kV doc pm:Value) (an:Option Addr) (cdv ct:Value) (us:List Value),us.length=(["self"]:List Str).length->bindArgs (PySem.W.fnOf "board" "RingBook.board" (Zo ZnC) (Zn ZnC) (Zd ZnC) .none kV doc pm an cdv ct) ⟨us,[]⟩=pure ((["self"]:List Str).zip us):=fun _ _ _ _ _ _ us hl=>by obtain⟨_,rfl⟩:=us1 hl;rfl
noncomputable abbrev ZnI:Stmt:=ZY (top 24) 7
theorem ZpK:Zs ["self"] ["self"] (Zd ZnI):=⟨rfl,rfl,rfl,by decide +kernel,rfl,by decide +kernel,by decide +kernel⟩
theorem Zr9:∀(kV doc pm:Value) (an:Option Addr) (cdv ct:Value) (us:List Value),us.length=(["self"]:List Str).length->bindArgs (PySem.W.fnOf "plan" "RingBook.plan" (Zo ZnI) (Zn ZnI) (Zd ZnI) .none kV doc pm an cdv ct) ⟨us,[]⟩=pure ((["self"]:List Str).zip us):=fun _ _ _ _ _ _ us hl=>by obtain⟨_,rfl⟩:=us1 hl;rfl
noncomputable abbrev Zn3:Stmt:=ZY (top 24) 9
theorem ZnE:Zs ["self", "places", "pairs", "place", "found", "key"] ["self"] (Zd Zn3):=⟨rfl,rfl,rfl,by decide +kernel,rfl,by decide +kernel,by decide +kernel⟩
theorem ZpV:∀(kV doc pm:Value) (an:Option Addr) (cdv ct:Value) (us:List Value),us.length=(["self"]:List Str).length->bindArgs (PySem.W.fnOf "came_again" "RingBook.came_again" (Zo Zn3) (Zn Zn3) (Zd Zn3) .none kV doc pm an cdv ct) ⟨us,[]⟩=pure ((["self"]:List Str).zip us):=fun _ _ _ _ _ _ us hl=>by obtain⟨_,rfl⟩:=us1 hl;rfl
noncomputable abbrev Zn2:Stmt:=ZY (top 24) 8
theorem ZoO:Zs ["self"] ["self"] (Zd Zn2):=⟨rfl,rfl,rfl,by decide +kernel,rfl,by decide +kernel,by decide +kernel⟩
theorem ZpF:∀(kV doc pm:Value) (an:Option Addr) (cdv ct:Value) (us:List Value),us.length=(["self"]:List Str).length->bindArgs (PySem.W.fnOf "sown_in_all" "RingBook.sown_in_all" (Zo Zn2) (Zn Zn2) (Zd Zn2) .none kV doc pm an cdv ct) ⟨us,[]⟩=pure ((["self"]:List Str).zip us):=fun _ _ _ _ _ _ us hl=>by obtain⟨_,rfl⟩:=us1 hl;rfl
noncomputable abbrev Zoz:Stmt:=top 32
theorem ZoN:Zs ["boards", "found", "later", "earlier"] ["boards"] (Zd Zoz):=⟨rfl,rfl,rfl,by decide +kernel,rfl,by decide +kernel,by decide +kernel⟩
theorem Zs1:ZD "_law_again" Zoz ["boards"]:=fun _ _ _ _ _ _ us hl=>by obtain⟨_,rfl⟩:=us1 hl;rfl
noncomputable abbrev Zoc:Stmt:=top 33
theorem ZnN:Zs ["book", "boards", "deeds", "cell", "k", "way", "board", "plan", "pairs", "seeds"] ["book", "boards", "deeds", "cell"] (Zd Zoc):=⟨rfl,rfl,rfl,by decide +kernel,rfl,by decide +kernel,by decide +kernel⟩
theorem ZrW:ZD "_law_as_kept" Zoc ["book", "boards", "deeds", "cell"]:=fun _ _ _ _ _ _ us hl=>by obtain⟨_,_,_,_,rfl⟩:=us4 hl;rfl
noncomputable abbrev Zpo:Stmt:=top 15
theorem Zti:Zs ["board", "pit"] ["board", "pit"] (Zd Zpo):=⟨rfl,rfl,rfl,by decide +kernel,rfl,by decide +kernel,by decide +kernel⟩
theorem Ztq:ZD "is_pit" Zpo ["board", "pit"]:=fun _ _ _ _ _ _ us hl=>by obtain⟨_,_,rfl⟩:=us2 hl;rfl
noncomputable abbrev Zo6:Stmt:=top 16
theorem Zs4:Zs ["board", "pit"] ["board", "pit"] (Zd Zo6):=⟨rfl,rfl,rfl,by decide +kernel,rfl,by decide +kernel,by decide +kernel⟩
theorem ZsC:ZD "check_pit" Zo6 ["board", "pit"]:=fun _ _ _ _ _ _ us hl=>by obtain⟨_,_,rfl⟩:=us2 hl;rfl
noncomputable abbrev ZnP:Stmt:=top 17
theorem ZqT:Zs ["board", "pit"] ["board", "pit"] (Zd ZnP):=⟨rfl,rfl,rfl,by decide +kernel,rfl,by decide +kernel,by decide +kernel⟩
theorem Zp3:ZD "check_standing" ZnP ["board", "pit"]:=fun _ _ _ _ _ _ us hl=>by obtain⟨_,_,rfl⟩:=us2 hl;rfl
noncomputable abbrev ZoT:Stmt:=top 21
theorem ZoH:Zs ["board", "pit", "pits", "rounds", "over", "other", "last", "step"] ["board", "pit"] (Zd ZoT):=⟨rfl,rfl,rfl,by decide +kernel,rfl,by decide +kernel,by decide +kernel⟩
theorem Ztd:ZD "sow_pit" ZoT ["board", "pit"]:=fun _ _ _ _ _ _ us hl=>by obtain⟨_,_,rfl⟩:=us2 hl;rfl
noncomputable abbrev Zrv:Stmt:=top 19
theorem Ztw:Zs ["board", "pit"] ["board", "pit"] (Zd Zrv):=⟨rfl,rfl,rfl,by decide +kernel,rfl,by decide +kernel,by decide +kernel⟩
theorem ZsR:ZD "sown" Zrv ["board", "pit"]:=fun _ _ _ _ _ _ us hl=>by obtain⟨_,_,rfl⟩:=us2 hl;rfl
noncomputable abbrev Zob:Stmt:=top 22
theorem ZnS:Zs ["board", "pit", "pits", "rounds", "other", "taken", "place"] ["board", "pit"] (Zd Zob):=⟨rfl,rfl,rfl,by decide +kernel,rfl,by decide +kernel,by decide +kernel⟩
theorem ZrV:ZD "take_back_at" Zob ["board", "pit"]:=fun _ _ _ _ _ _ us hl=>by obtain⟨_,_,rfl⟩:=us2 hl;rfl
noncomputable abbrev Zow:Stmt:=top 20
theorem Zso:Zs ["board", "pit"] ["board", "pit"] (Zd Zow):=⟨rfl,rfl,rfl,by decide +kernel,rfl,by decide +kernel,by decide +kernel⟩
theorem ZpE:ZD "taken_back" Zow ["board", "pit"]:=fun _ _ _ _ _ _ us hl=>by obtain⟨_,_,rfl⟩:=us2 hl;rfl
noncomputable abbrev ZoK:Stmt:=top 31
theorem Zo5:Zs ["boards", "deeds", "gone", "way", "pit", "deed", "board", "made", "last"] ["boards", "deeds", "gone", "way", "pit"] (Zd ZoK):=⟨rfl,rfl,rfl,by decide +kernel,rfl,by decide +kernel,by decide +kernel⟩
theorem ZsU:ZD "_law_due" ZoK ["boards", "deeds", "gone", "way", "pit"]:=fun _ _ _ _ _ _ us hl=>by obtain⟨_,_,_,_,_,rfl⟩:=us5 hl;rfl
noncomputable abbrev ZnH:Stmt:=ZY (top 24) 5
theorem ZpJ:Zs ["self", "again"] ["self"] (Zd ZnH):=⟨rfl,rfl,rfl,by decide +kernel,rfl,by decide +kernel,by decide +kernel⟩
theorem Zr8:∀(kV doc pm:Value) (an:Option Addr) (cdv ct:Value) (us:List Value),us.length=(["self"]:List Str).length->bindArgs (PySem.W.fnOf "redo" "RingBook.redo" (Zo ZnH) (Zn ZnH) (Zd ZnH) .none kV doc pm an cdv ct) ⟨us,[]⟩=pure ((["self"]:List Str).zip us):=fun _ _ _ _ _ _ us hl=>by obtain⟨_,rfl⟩:=us1 hl;rfl
noncomputable abbrev ZnB:Stmt:=ZY (top 24) 3
theorem ZqU:Zs ["self", "deed", "board"] ["self", "deed", "board"] (Zd ZnB):=⟨rfl,rfl,rfl,by decide +kernel,rfl,by decide +kernel,by decide +kernel⟩
theorem Zp4:∀(kV doc pm:Value) (an:Option Addr) (cdv ct:Value) (us:List Value),us.length=(["self", "deed", "board"]:List Str).length->bindArgs (PySem.W.fnOf "enter" "RingBook.enter" (Zo ZnB) (Zn ZnB) (Zd ZnB) .none kV doc pm an cdv ct) ⟨us,[]⟩=pure ((["self", "deed", "board"]:List Str).zip us):=fun _ _ _ _ _ _ us hl=>by obtain⟨_,_,_,rfl⟩:=us3 hl;rfl
noncomputable abbrev ZnM:Stmt:=ZY (top 24) 1
theorem ZpX:Zs ["self", "pit", "behind"] ["self", "pit"] (Zd ZnM):=⟨rfl,rfl,rfl,by decide +kernel,rfl,by decide +kernel,by decide +kernel⟩
theorem ZrX:∀(kV doc pm:Value) (an:Option Addr) (cdv ct:Value) (us:List Value),us.length=(["self", "pit"]:List Str).length->bindArgs (PySem.W.fnOf "sow" "RingBook.sow" (Zo ZnM) (Zn ZnM) (Zd ZnM) .none kV doc pm an cdv ct) ⟨us,[]⟩=pure ((["self", "pit"]:List Str).zip us):=fun _ _ _ _ _ _ us hl=>by obtain⟨_,_,rfl⟩:=us2 hl;rfl
noncomputable abbrev ZnJ:Stmt:=ZY (top 24) 2
theorem ZpL:Zs ["self", "pit", "behind"] ["self", "pit"] (Zd ZnJ):=⟨rfl,rfl,rfl,by decide +kernel,rfl,by decide +kernel,by decide +kernel⟩
theorem ZrA:∀(kV doc pm:Value) (an:Option Addr) (cdv ct:Value) (us:List Value),us.length=(["self", "pit"]:List Str).length->bindArgs (PySem.W.fnOf "back" "RingBook.back" (Zo ZnJ) (Zn ZnJ) (Zd ZnJ) .none kV doc pm an cdv ct) ⟨us,[]⟩=pure ((["self", "pit"]:List Str).zip us):=fun _ _ _ _ _ _ us hl=>by obtain⟨_,_,rfl⟩:=us2 hl;rfl
noncomputable abbrev ZnG:Stmt:=ZY (top 24) 4
theorem Zrx:Zs ["self"] ["self"] (Zd ZnG):=⟨rfl,rfl,rfl,by decide +kernel,rfl,by decide +kernel,by decide +kernel⟩
theorem Zr7:∀(kV doc pm:Value) (an:Option Addr) (cdv ct:Value) (us:List Value),us.length=(["self"]:List Str).length->bindArgs (PySem.W.fnOf "undo" "RingBook.undo" (Zo ZnG) (Zn ZnG) (Zd ZnG) .none kV doc pm an cdv ct) ⟨us,[]⟩=pure ((["self"]:List Str).zip us):=fun _ _ _ _ _ _ us hl=>by obtain⟨_,rfl⟩:=us1 hl;rfl
noncomputable abbrev Zon:Stmt:=top 29
theorem ZqI:Zs ["book", "way", "pit"] ["book", "way", "pit"] (Zd Zon):=⟨rfl,rfl,rfl,by decide +kernel,rfl,by decide +kernel,by decide +kernel⟩
theorem Zs0:ZD "_law_asked" Zon ["book", "way", "pit"]:=fun _ _ _ _ _ _ us hl=>by obtain⟨_,_,_,rfl⟩:=us3 hl;rfl
noncomputable abbrev Zn8:Stmt:=ZY (top 24) 5
theorem ZqK:Zs ["self", "again"] ["self"] (Zd Zn8):=⟨rfl,rfl,rfl,by decide +kernel,rfl,by decide +kernel,by decide +kernel⟩
theorem ZqR:∀(kV doc pm:Value) (an:Option Addr) (cdv ct:Value) (us:List Value),us.length=(["self"]:List Str).length->bindArgs (PySem.W.fnOf "redo" "RingBook.redo" (Zo Zn8) (Zn Zn8) (Zd Zn8) .none kV doc pm an cdv ct) ⟨us,[]⟩=pure ((["self"]:List Str).zip us):=fun _ _ _ _ _ _ us hl=>by obtain⟨_,rfl⟩:=us1 hl;rfl
noncomputable abbrev ZnA:Stmt:=ZY (top 24) 1
theorem Zpx:Zs ["self", "pit", "behind"] ["self", "pit"] (Zd ZnA):=⟨rfl,rfl,rfl,by decide +kernel,rfl,by decide +kernel,by decide +kernel⟩
theorem Zrn:∀(kV doc pm:Value) (an:Option Addr) (cdv ct:Value) (us:List Value),us.length=(["self", "pit"]:List Str).length->bindArgs (PySem.W.fnOf "sow" "RingBook.sow" (Zo ZnA) (Zn ZnA) (Zd ZnA) .none kV doc pm an cdv ct) ⟨us,[]⟩=pure ((["self", "pit"]:List Str).zip us):=fun _ _ _ _ _ _ us hl=>by obtain⟨_,_,rfl⟩:=us2 hl;rfl
noncomputable abbrev Zn9:Stmt:=ZY (top 24) 2
theorem Zpn:Zs ["self", "pit", "behind"] ["self", "pit"] (Zd Zn9):=⟨rfl,rfl,rfl,by decide +kernel,rfl,by decide +kernel,by decide +kernel⟩
theorem ZqS:∀(kV doc pm:Value) (an:Option Addr) (cdv ct:Value) (us:List Value),us.length=(["self", "pit"]:List Str).length->bindArgs (PySem.W.fnOf "back" "RingBook.back" (Zo Zn9) (Zn Zn9) (Zd Zn9) .none kV doc pm an cdv ct) ⟨us,[]⟩=pure ((["self", "pit"]:List Str).zip us):=fun _ _ _ _ _ _ us hl=>by obtain⟨_,_,rfl⟩:=us2 hl;rfl
noncomputable abbrev Zn7:Stmt:=ZY (top 24) 4
theorem ZqJ:Zs ["self"] ["self"] (Zd Zn7):=⟨rfl,rfl,rfl,by decide +kernel,rfl,by decide +kernel,by decide +kernel⟩
theorem ZqQ:∀(kV doc pm:Value) (an:Option Addr) (cdv ct:Value) (us:List Value),us.length=(["self"]:List Str).length->bindArgs (PySem.W.fnOf "undo" "RingBook.undo" (Zo Zn7) (Zn Zn7) (Zd Zn7) .none kV doc pm an cdv ct) ⟨us,[]⟩=pure ((["self"]:List Str).zip us):=fun _ _ _ _ _ _ us hl=>by obtain⟨_,rfl⟩:=us1 hl;rfl
noncomputable abbrev Zo7:Stmt:=top 30
theorem Zov:Zs ["book", "way", "pit", "caught", "told", "e", "kinds", "word"] ["book", "way", "pit"] (Zd Zo7):=⟨rfl,rfl,rfl,by decide +kernel,rfl,by decide +kernel,by decide +kernel⟩
theorem ZsD:ZD "_law_told" Zo7 ["book", "way", "pit"]:=fun _ _ _ _ _ _ us hl=>by obtain⟨_,_,_,rfl⟩:=us3 hl;rfl
noncomputable abbrev Zs5:Stmt:=top 34
theorem ZoS:Zs ["script", "head", "pits", "first", "handed", "book", "boards", "deeds", "gone", "cell", "way", "pit", "far", "due", "told"] ["script"] (Zd Zs5):=⟨rfl,rfl,rfl,by decide +kernel,rfl,by decide +kernel,by decide +kernel⟩
theorem Zt3:ZD "law" Zs5 ["script"]:=fun _ _ _ _ _ _ us hl=>by obtain⟨_,rfl⟩:=us1 hl;rfl
noncomputable abbrev XN:List Str:=["SowError", "BadBoard", "BadPit", "NoSeeds", "NoDeed"]
noncomputable abbrev ZcZ:List (Str×Str×Bool):=[("SowError", "SowError",true),("BadBoard", "SowError",true),("BadPit", "SowError",true),("NoSeeds", "SowError",true),("NoDeed", "SowError",true)]
noncomputable abbrev Zda:List (Str×Str×Bool):=[("SowError", "BadBoard",false),("BadBoard", "BadBoard",true),("BadPit", "BadBoard",false),("NoSeeds", "BadBoard",false),("NoDeed", "BadBoard",false)]
noncomputable abbrev Zg8:List (Str×Str×Bool):=[("SowError", "BadPit",false),("BadBoard", "BadPit",false),("BadPit", "BadPit",true),("NoSeeds", "BadPit",false),("NoDeed", "BadPit",false)]
noncomputable abbrev Ze7:List (Str×Str×Bool):=[("SowError", "NoSeeds",false),("BadBoard", "NoSeeds",false),("BadPit", "NoSeeds",false),("NoSeeds", "NoSeeds",true),("NoDeed", "NoSeeds",false)]
noncomputable abbrev Zg7:List (Str×Str×Bool):=[("SowError", "NoDeed",false),("BadBoard", "NoDeed",false),("BadPit", "NoDeed",false),("NoSeeds", "NoDeed",false),("NoDeed", "NoDeed",true)]
noncomputable abbrev XS:List (Str×Str×Bool):=ZcZ++Zda++Zg8++Ze7++Zg7
noncomputable abbrev XR:List Str:=["SowError", "BadBoard", "BadPit", "NoSeeds", "NoDeed"]
noncomputable abbrev Ue:List (Str×Bool):=[("SowError",true),("BadBoard",true),("BadPit",true),("NoSeeds",true),("NoDeed",true)]
noncomputable abbrev U8:List (Str×Bool):=[("SowError",false),("BadBoard",false),("BadPit",true),("NoSeeds",false),("NoDeed",false)]
noncomputable abbrev VM:List (Str×Bool):=[("SowError",false),("BadBoard",false),("BadPit",false),("NoSeeds",true),("NoDeed",false)]
noncomputable abbrev U7:List (Str×Bool):=[("SowError",false),("BadBoard",false),("BadPit",false),("NoSeeds",false),("NoDeed",true)]
noncomputable abbrev Zbv:List (Str×Bool):=[("SowError",true),("BadBoard",true),("BadPit",true),("NoSeeds",true),("NoDeed",true)]
noncomputable abbrev Jw:Stmt:=ZY (top 1) 0
theorem ZbA:Zs ["self"] ["self"] (Zd Jw):=⟨rfl,rfl,rfl,by decide +kernel,rfl,by decide +kernel,by decide +kernel⟩
noncomputable abbrev Jx:Stmt:=ZY (top 2) 0
theorem ZbB:Zs ["self"] ["self"] (Zd Jx):=⟨rfl,rfl,rfl,by decide +kernel,rfl,by decide +kernel,by decide +kernel⟩
noncomputable abbrev Va:Stmt:=ZY (top 3) 0
theorem Zek:Zs ["self"] ["self"] (Zd Va):=⟨rfl,rfl,rfl,by decide +kernel,rfl,by decide +kernel,by decide +kernel⟩
noncomputable abbrev J9:Stmt:=ZY (top 4) 0
theorem Zc1:Zs ["self"] ["self"] (Zd J9):=⟨rfl,rfl,rfl,by decide +kernel,rfl,by decide +kernel,by decide +kernel⟩
noncomputable abbrev JZ:Stmt:=ZY (top 5) 0
theorem Zej:Zs ["self"] ["self"] (Zd JZ):=⟨rfl,rfl,rfl,by decide +kernel,rfl,by decide +kernel,by decide +kernel⟩
structure Txt (K:PySem.W.Frag) (mg:Str->Option Value):Prop where
 Ztp:Dfn K mg "_law_at" ZoU
 Zsx:Dfn K mg "_law_folded" Zom
 Zs9:Dfn K mg "_law_board" Zoy
 Zta:Dfn K mg "is_whole" ZoI
 Zqo:Dfn K mg "is_whole_from" ZnT
 Zqp:Dfn K mg "is_list_from_nought" Zn6
 Zs8:Dfn K mg "most_seeds" Zox
 Ztb:Dfn K mg "is_board" ZoJ
 ZqO:Dfn K mg "check_board" Zol
 ZsB:Dfn K mg "_law_again" Zoz
 Zsh:Dfn K mg "_law_as_kept" Zoc
 Ztu:Dfn K mg "is_pit" Zpo
 ZsP:Dfn K mg "check_pit" Zo6
 ZpN:Dfn K mg "check_standing" ZnP
 Zto:Dfn K mg "sow_pit" ZoT
 Ztn:Dfn K mg "sown" Zrv
 Zsg:Dfn K mg "take_back_at" Zob
 Zqn:Dfn K mg "taken_back" Zow
 Ztc:Dfn K mg "_law_due" ZoK
 ZsA:Dfn K mg "_law_asked" Zon
 ZsQ:Dfn K mg "_law_told" Zo7
 Zt4:Dfn K mg "law" Zs5
 c_FEWEST_PITS:∃t,mg "FEWEST_PITS"=some (.int 2 t)
 c_MOST_PITS:∃t,mg "MOST_PITS"=some (.int 24 t)
 z_ValueError:mg "ValueError"=none
 z_all:mg "all"=none
 z_bool:mg "bool"=none
 z_enumerate:mg "enumerate"=none
 z_int:mg "int"=none
 z_isinstance:mg "isinstance"=none
 z_len:mg "len"=none
 z_list:mg "list"=none
 z_min:mg "min"=none
 z_range:mg "range"=none
 z_sorted:mg "sorted"=none
 z_sum:mg "sum"=none
 z_tuple:mg "tuple"=none
 x_tab:ZgB K XN XS=true
 x_exc:Zi4 K XR=true
 x_mg:∀n C,VP K n C->mg n=some (.ref C)
 m_SowError:Zao K "SowError" "called" "SowError.called" Jw
 m_BadBoard:Zao K "BadBoard" "called" "BadBoard.called" Jx
 m_BadPit:Zao K "BadPit" "called" "BadPit.called" Va
 m_NoSeeds:Zao K "NoSeeds" "called" "NoSeeds.called" J9
 m_NoDeed:Zao K "NoDeed" "called" "NoDeed.called" JZ
 ZqD:Zao K "RingBook" "__init__" "RingBook.__init__" Zn4
 Zr3:Zao K "RingBook" "board" "RingBook.board" ZnC
 ZrP:Zao K "RingBook" "plan" "RingBook.plan" ZnI
 Zqq:Zao K "RingBook" "came_again" "RingBook.came_again" Zn3
 ZpS:Zao K "RingBook" "sown_in_all" "RingBook.sown_in_all" Zn2
 ZrO:Zao K "RingBook" "redo" "RingBook.redo" ZnH
 ZpO:Zao K "RingBook" "enter" "RingBook.enter" ZnB
 Zsi:Zao K "RingBook" "sow" "RingBook.sow" ZnM
 ZrQ:Zao K "RingBook" "back" "RingBook.back" ZnJ
 ZrN:Zao K "RingBook" "undo" "RingBook.undo" ZnG
 Zri:Zao K "RingBook" "redo" "RingBook.redo" Zn8
 Zr2:Zao K "RingBook" "sow" "RingBook.sow" ZnA
 Zrj:Zao K "RingBook" "back" "RingBook.back" Zn9
 Zrh:Zao K "RingBook" "undo" "RingBook.undo" Zn7
 o_RingBook:UW K "RingBook" Zp=true
section
variable {P:Program}{w:World}{K:W.Frag}{mg:Str->Option Value}{base:Heap}
theorem Zc7 (T:Txt K mg):MOk P w K mg base 1 "called" "SowError":=by
 obtain⟨C,f,fd,h1,h2,h3,F⟩:=T.m_SowError
 obtain⟨C2,c1,_,c2,_⟩:=JH T.x_tab (n := "SowError") (by decide)
 obtain rfl:=c1.inj h1
 refine⟨C2,f,fd,h1,c2,h2,h3,F.kp,F.binds (fun _ _ _ _ _ _ us hl=>match us,hl with | [_],_=>rfl), ?_⟩
 exact F.okP ZbA rfl rfl (fun cdv A outer s H E hr=>⟨_,_,⟨[],[],[],.P⟩,rfl,Zk (Z1 Jg),ZG Jh,fun xs=>.inr rfl⟩)
theorem Zc8 (T:Txt K mg):MOk P w K mg base 1 "called" "BadBoard":=by
 obtain⟨C,f,fd,h1,h2,h3,F⟩:=T.m_BadBoard
 obtain⟨C2,c1,_,c2,_⟩:=JH T.x_tab (n := "BadBoard") (by decide)
 obtain rfl:=c1.inj h1
 refine⟨C2,f,fd,h1,c2,h2,h3,F.kp,F.binds (fun _ _ _ _ _ _ us hl=>match us,hl with | [_],_=>rfl), ?_⟩
 exact F.okP ZbB rfl rfl (fun cdv A outer s H E hr=>⟨_,_,⟨[],[],[],.P⟩,rfl,Zk (Z1 Jg),ZG Jh,fun xs=>.inr rfl⟩)
theorem Zf6 (T:Txt K mg):MOk P w K mg base 1 "called" "BadPit":=by
 obtain⟨C,f,fd,h1,h2,h3,F⟩:=T.m_BadPit
 obtain⟨C2,c1,_,c2,_⟩:=JH T.x_tab (n := "BadPit") (by decide)
 obtain rfl:=c1.inj h1
 refine⟨C2,f,fd,h1,c2,h2,h3,F.kp,F.binds (fun _ _ _ _ _ _ us hl=>match us,hl with | [_],_=>rfl), ?_⟩
 exact F.okP Zek rfl rfl (fun cdv A outer s H E hr=>⟨_,_,⟨[],[],[],.P⟩,rfl,Zk (Z1 Jg),ZG Jh,fun xs=>.inr rfl⟩)
theorem Zeq (T:Txt K mg):MOk P w K mg base 1 "called" "NoSeeds":=by
 obtain⟨C,f,fd,h1,h2,h3,F⟩:=T.m_NoSeeds
 obtain⟨C2,c1,_,c2,_⟩:=JH T.x_tab (n := "NoSeeds") (by decide)
 obtain rfl:=c1.inj h1
 refine⟨C2,f,fd,h1,c2,h2,h3,F.kp,F.binds (fun _ _ _ _ _ _ us hl=>match us,hl with | [_],_=>rfl), ?_⟩
 exact F.okP Zc1 rfl rfl (fun cdv A outer s H E hr=>⟨_,_,⟨[],[],[],.P⟩,rfl,Zk (Z1 Jg),ZG Jh,fun xs=>.inr rfl⟩)
theorem Zf5 (T:Txt K mg):MOk P w K mg base 1 "called" "NoDeed":=by
 obtain⟨C,f,fd,h1,h2,h3,F⟩:=T.m_NoDeed
 obtain⟨C2,c1,_,c2,_⟩:=JH T.x_tab (n := "NoDeed") (by decide)
 obtain rfl:=c1.inj h1
 refine⟨C2,f,fd,h1,c2,h2,h3,F.kp,F.binds (fun _ _ _ _ _ _ us hl=>match us,hl with | [_],_=>rfl), ?_⟩
 exact F.okP Zej rfl rfl (fun cdv A outer s H E hr=>⟨_,_,⟨[],[],[],.P⟩,rfl,Zk (Z1 Jg),ZG Jh,fun xs=>.inr rfl⟩)
theorem Zk8 (T:Txt K mg):∀n∈XN,MOk P w K mg base 1 "called" n:=fun n hn=>by
 simp only[XN,ZtE,Zux,or_false] at hn
 rcases hn with rfl|rfl|rfl|rfl|rfl
 ·exact Zc7 T
 ·exact Zc8 T
 ·exact Zf6 T
 ·exact Zeq T
 ·exact Zf5 T
theorem Us:ZbN Ue (.exc "BadPit")=.ok (.bl true):=Jl (by decide)
theorem VZ:ZbN Ue (.exc "NoSeeds")=.ok (.bl true):=Jl (by decide)
theorem Ur:ZbN Ue (.exc "NoDeed")=.ok (.bl true):=Jl (by decide)
theorem Qd:ZbN U8 (.exc "BadPit")=.ok (.bl true):=Jl (by decide)
theorem UH:ZbN U8 (.exc "NoSeeds")=.ok (.bl false):=Jl (by decide)
theorem Qc:ZbN U8 (.exc "NoDeed")=.ok (.bl false):=Jl (by decide)
theorem UF:ZbN VM (.exc "BadPit")=.ok (.bl false):=Jl (by decide)
theorem Ut:ZbN VM (.exc "NoSeeds")=.ok (.bl true):=Jl (by decide)
theorem UE:ZbN VM (.exc "NoDeed")=.ok (.bl false):=Jl (by decide)
theorem Qb:ZbN U7 (.exc "BadPit")=.ok (.bl false):=Jl (by decide)
theorem UG:ZbN U7 (.exc "NoSeeds")=.ok (.bl false):=Jl (by decide)
theorem Qa:ZbN U7 (.exc "NoDeed")=.ok (.bl true):=Jl (by decide)
theorem ZfD:V1 XN (.exc "BadPit")=.ok (.str "BadPit"):=VX (by decide)
theorem Zev:V1 XN (.exc "NoSeeds")=.ok (.str "NoSeeds"):=VX (by decide)
theorem ZfC:V1 XN (.exc "NoDeed")=.ok (.str "NoDeed"):=VX (by decide)
theorem ZbS:PyData.canLay0 (.str "BadPit")=true:=by rw[PyData.canLay0];decide +kernel
theorem ZbR:PyData.canLay0 (.str "NoDeed")=true:=by rw[PyData.canLay0];decide +kernel
theorem Za4:PyData.canLay0 (.str "NoSeeds")=true:=by rw[PyData.canLay0];decide +kernel
theorem Qf {g:Bool->Bool}:Zbw g (.str "BadPit") (.str "BadPit")=.ok (.bl (g true)):=Zc6 ZbS ZbS
theorem Qe {g:Bool->Bool}:Zbw g (.str "NoDeed") (.str "NoDeed")=.ok (.bl (g true)):=Zc6 ZbR ZbR
theorem Uw {g:Bool->Bool}:Zbw g (.str "NoSeeds") (.str "NoSeeds")=.ok (.bl (g true)):=Zc6 Za4 Za4
set_option hygiene false
local macro_rules | `(tactic| walk_at "pd")=>`(tactic| try simp -implicitDefEqProofs (disch:=first|omega|(simp only[Zt7,Zud,Zul,List.length_replicate,ZtK,Zuq,Zu4,List.length_drop,List.length_range,Vj];omega)|decide) only[ZcH,ZcI,List.set_cons_zero,ZuE,ZuJ,ZuL,Zfb,Zfa,Zui,Rr.bind_ok,Rr.bind_exc,Rr.bind_bad,Rr.thenS_ok,Rr.thenS_exc,Rr.thenS_bad,RS.seq_next,RS.seq_ret,RS.seq_exc,RS.out_next,RS.out_ret,RS.out_exc,
 Zfw,Zfm,Zie,Zif,Zil,Zim,ZfV,ZfS,ZfT,ZfR,Zh3,Zh4,Ziy,Zg4,Zg5,Zik,Zij,Zii,Zhf,Zhe,Zfo,Zih,Zig,ZdG,ZdH,ZdF,Zfs,Zd2,ZbM,ZbL,ZtK,Zuq,Bool.not_true,Bool.not_false,Bool.false_eq_true,if_true,if_false,Nat.reduceAdd,Nat.reduceSub,id,ZtI,Zu0,Int.reduceToNat,Za1,VW,Zk1,Zip,Zio,Zkx,Zhg,ZmD,ZdJ,Zd8,Nat.reduceLeDiff,ZtD,Int.reduceLT,Int.reduceLE,Int.reduceEq,decide_true,decide_false,
 ZP,Vc,ZbP,Zd1,Zd0,ZcC,Zeo,QL,Zll,Zhk,Zhj,Zhi,beq_self_eq_true,Bool.and_true,Bool.true_and,Bool.and_false,Bool.false_and,Us,VZ,Ur,Qd,UH,Qc,UF,Ut,UE,Qb,UG,Qa,ZfD,Zev,ZfC,Qf,Qe,Uw])
set_option hygiene true
noncomputable def ZoL:Pm:=⟨List Int×Int,fun a=>[.lst (a.1.map PV.int),.int a.2],fun a=>0<=a.2,fun a=>.ok (.int (a.1.getD a.2.toNat 0))⟩
theorem ZsZ (T:Txt K mg) {f:Addr}{fd:FuncData} (F:Fun K "_law_at" "_law_at" ZoU f fd):Jd P w K mg base CX0 1 f fd ["script", "k"] (spF K 2 .P W0 ZoL.fn):=by
 refine F.okP ZsX rfl rfl (fun cdv A outer s H E hr=>?_)
 have hu:=hr.units
 refine⟨_,_,⟨[],[],[],.P⟩,rfl,(Ze (ZV (Zx Zhl (pv 1) (Zv (ZQ (K:=K)) rfl T.z_len JR (Za (pv 0) Zf)) (Z9 _)) (Zk (Z1 (ZO (Zu (K:=K)) (pv 0) (pv 1) (fun _ _=>rfl)))) Z6)
   (Zk (Z1 Zl))),
   (Zm (Γm:=[.S,.S]) (ZZ (Zw (DE.toA (ZhH (Zc (i:=1) (m:=.S) rfl (by decide)) (DE.toA (JO (Zb (Zc (i:=0) (m:=.S) rfl (by decide)) Zi))))))
   (ZG (DE.grd (ZB (te:=tC .non) (Zc (i:=0) (m:=.S) rfl (by decide)) (Zc (i:=1) (m:=.S) rfl (by decide)))))
   Z7)
   (ZG Zj)), ?_⟩
 refine Pm.ref ZoL (g:=fun xs=>_) ?_
 rintro⟨ns,k⟩ (hk:0<=k)
 simp only[ZoL]
 walk_at "pu"
 by_cases h:k<ns.length
 ·rw[if_pos (decide_eq_true h),ZP hk h]
  walk_at "pu"
 ·rw[if_neg (by simpa using h)]
  walk_at "pu"
  rw[Zt5,ZtF (by omega)];rfl
theorem Zqs {ns:List Int}{k:Int} (h:0<=k):ZoL.fn [.lst (ns.map PV.int),.int k]=.ok (.int (ns.getD k.toNat 0)):=Pm.fn_eq ZoL (ns,k) h fun(a:List Int×Int) e=>by (simp only[ZoL,List.cons.injEq,PV.lst.injEq,PV.int.injEq,PV.str.injEq,PV.bl.injEq,PV.tup.injEq,VG,and_true] at e ⊢;first|(simp only[e];done)|(subst e;rfl)|(rw[e]))
noncomputable def Zoe:Pm:=⟨List Int×Int,fun a=>[.lst (a.1.map PV.int),.int a.2],fun a=>a.1.length<=63/\1<=a.2/\a.2<=24,fun a=>.ok (.lst ((Vq a.1 a.2).map PV.int))⟩
theorem Zsf (T:Txt K mg) {f:Addr}{fd:FuncData} (F:Fun K "_law_folded" "_law_folded" Zom f fd):Jd P w K mg base CX0 1 f fd ["script", "many"] (spF K 2 .F W0 Zoe.fn):=by
 refine F.okP ZoR rfl rfl (fun cdv A outer s H E hr=>?_)
 have hu:=hr.units
 refine⟨_,_,⟨[],[],[],.F⟩,rfl,(Ze (Zy (i:=2) ZoR.nd rfl (by first|exact Or.inl rfl|exact Or.inr rfl) (ZF Zk2 (Jt (Za Zl Zf)) (pv 1)))
   (Ze (QB PassesOwn.never rfl (Zfh rfl T.z_range (Za Zl (Za (Zv (ZQ (K:=K)) rfl T.z_len JR (Za (pv 0) Zf)) Zf))) (Jq (i:=3) ZoR.nd rfl (by first|exact Or.inl rfl|exact Or.inr rfl)) (Ze (Zy (i:=4) ZoR.nd rfl (by first|exact Or.inl rfl|exact Or.inr rfl) (ZF Ju (ZF UP (pv 3) Zl) (pv 1)))
   (Zk (UN (ZF Ju (ZF Uq (ZF Zfy (ZO (Zu (K:=K)) (pv 2) (pv 4) (fun _ _=>rfl)) Zl) (ZO (Zu (K:=K)) (pv 0) (pv 3) (fun _ _=>rfl))) (ZF Zfx Zl Zl)) (ZbI (pv 2) (pv 4) Vi)))))
   (Zk (Z1 (pv 2))))),
   (Zm (Γm:=[.S,.S,.O,.U,.U]) (Ji (i:=2) (Zjw (Zb (DE.toA Zj) Zi) (Zc (i:=1) (m:=.S) rfl (by decide))) (by decide))
   (Zm (Γm:=[.S,.S,.O,.U,.U]) (Zae (Γl:=[.S,.S,.O,.U,.U]) (Zjs (Zb (DE.toA Zj) (Zb (DE.toA (JO (Zb (Zc (i:=0) (m:=.S) rfl (by decide)) Zi))) Zi))) rfl (Ziw (i:=3) (by decide))
   (DS.out (Y:=⟨[.S,.S,.O,.P,.P],[.S,.S,.O,.U,.U],[.S,.S,.O,.U,.U],.F⟩) (Y':=⟨[.S,.S,.O,.U,.U],[.S,.S,.O,.U,.U],[.S,.S,.O,.U,.U],.F⟩) (Zm (Γm:=[.S,.S,.O,.P,.P]) (Z3 (i:=4) (Jv (DE.toA (UV (DE.toA (Zg (i:=3) rfl)) (DE.toA Zj))) (Zc (i:=1) (m:=.S) rfl (by decide))) (by decide))
   (V5 (i:=2) rfl (Jv (DE.toA (U5 (DE.toA (Zix (ZB (te:=tC .non) (Zc (i:=2) (m:=.O) rfl (by decide)) (DE.toA (Zg (i:=4) rfl))) (DE.toA Zj))) (ZB (te:=tC .non) (Zc (i:=0) (m:=.S) rfl (by decide)) (DE.toA (Zg (i:=3) rfl))))) (DE.toA (Zgf (DE.toA Zj) (DE.toA Zj)))) (DE.toA (Zg (i:=4) rfl)))) rfl rfl rfl rfl))
   (JU (Zbj (i:=2) rfl)))), ?_⟩
 refine Pm.ref Zoe (g:=fun xs=>_) ?_
 rintro⟨ns,m⟩ ⟨hn,hm1,hm2⟩
 simp only at hn hm1 hm2
 simp only[Zoe]
 walk_at "pu"
 have e0:Zkw [PV.int 0] (.int m)=.ok (.lst ((Ud ns m 0).map PV.int)):=by
  have:=Zfn (ns:=[0]) (k:=m) (by simp;omega) (by omega) (by omega)
  simp only[ZtI,Zu0] at this
  rw[this,List.flatten_replicate_singleton];rfl
 rw[e0]
 walk_at "pu"
 rw[Zd0 (by omega) (by omega)]
 walk_at "pu"
 generalize hb:(fun(x:PV) (ρ:List PV)=>_)=body
 obtain⟨ρ',h1,h2⟩:=Qw (b:=body) (xs:=Zel 1 ((ns.length:Int)-1).toNat) (ρ:=[.lst (ns.map PV.int),.int m,.lst ((Ud ns m 0).map PV.int),.non,.non]) (fun i ρ=>∃v3 v4,ρ=[.lst (ns.map PV.int),.int m,.lst ((Ud ns m i).map PV.int),v3,v4]) ⟨_,_,rfl⟩ (by
  rintro i x ρ hx ⟨v3,v4,rfl⟩
  obtain⟨hi,rfl⟩:=Qo hx
  subst hb
  have a0:=ZtV (i:Int) (show m≠0 by omega)
  have a1:=ZtR (i:Int) (show 0<m by omega)
  have e1:(1:Int)+i-1=i:=by omega
  have hl:=JM ns m i
  walk_at "pu"
  rw[VW (by omega)]
  walk_at "pu"
  rw[e1,ZP a0 (by omega),ZP (by omega) (by omega)]
  walk_at "pu"
  have hb:=Vl ns m i ((Ud ns m i).getD ((i:Int)%m).toNat 0) (JD (by omega))
  rw[Zfp (Zgr 60 2 (by omega) (by decide))]
  walk_at "pu"
  rw[VW (by decide)]
  walk_at "pu"
  rw[Vc a0 (by omega)]
  walk_at "pu"
  rw[show (1+(i:Int)).toNat=i+1 by omega,<- Ze1]
  exact Vk ⟨_,_,rfl⟩)
 obtain⟨v3,v4,rfl⟩:=h2
 rw[h1]
 walk_at "pu"
 rw[Vj]
 unfold Vq
 rw[show ((ns.length:Int)-1).toNat=ns.length-1 by omega]
theorem ZoP {ns:List Int}{m:Int} (h:ns.length<=63/\1<=m/\m<=24):Zoe.fn [.lst (ns.map PV.int),.int m]=.ok (.lst ((Vq ns m).map PV.int)):=
 Pm.fn_eq Zoe (ns,m) h fun⟨ns',k'⟩ e=>by
  simp only[Zoe,List.cons.injEq,PV.lst.injEq,PV.int.injEq,and_true] at e ⊢
  rw[Jb e.1,e.2]
noncomputable def Zop:Pm:=⟨List Int×Int×Int,fun a=>[.lst (a.1.map PV.int),.int a.2.1,.int a.2.2],fun a=>a.1.length<=63/\2<=a.2.1/\a.2.1<=24,fun a=>.ok (.lst ((VD a.1 a.2.1 a.2.2).map PV.int))⟩
theorem Zst (T:Txt K mg) {f:Addr}{fd:FuncData} (F:Fun K "_law_board" "_law_board" Zoy f fd):Jd P w K mg base CX0 2 f fd ["script", "pits", "way"] (spF K 3 .F W0 Zop.fn):=by
 have Zs3:=Zcy (P:=P) (w:=w) (base:=base) T.Zsx Zsk (fun F=>Zsf T F)
 refine F.okP Zo1 rfl rfl (fun cdv A outer s H E hr=>?_)
 have hu:=hr.units
 refine⟨_,_,⟨[],[],[],.F⟩,rfl,(Ze (Zy (i:=3) Zo1.nd rfl (by first|exact Or.inl rfl|exact Or.inr rfl) (Jt Zf))
   (Ze (QB PassesOwn.never rfl (J6 (K:=K) (ZS Zs3 (hr.mono (by decide)) rfl (Za (pv 0) (Za (pv 1) Zf)))) (Jq (i:=4) Zo1.nd rfl (by first|exact Or.inl rfl|exact Or.inr rfl)) (Ze (Zy (i:=5) Zo1.nd rfl (by first|exact Or.inl rfl|exact Or.inr rfl) (ZF Ju (ZF Jf (pv 4) Zl) Zl))
   (Ze (ZV (Zx (Ja (K:=K) hu) (pv 2) Zl (Z9 _)) (Zk (Zy (i:=5) Zo1.nd rfl (by first|exact Or.inl rfl|exact Or.inr rfl) (ZF Ju (ZF Jf (pv 4) Zl) Zl))) Z6)
   (Ze (ZV (Zx (Ja (K:=K) hu) (pv 2) Zl (Z9 _)) (Zk (Zy (i:=5) Zo1.nd rfl (by first|exact Or.inl rfl|exact Or.inr rfl) (ZF Jf (pv 4) Zl))) Z6)
   (Ze (ZV (Zx (Ja (K:=K) hu) (pv 2) Zl (Z9 _)) (Zk (Zy (i:=5) Zo1.nd rfl (by first|exact Or.inl rfl|exact Or.inr rfl) (ZO (Zu (K:=K)) (Jt (Za Zl (Za Zl (Za (ZF Jf (pv 4) Zl) (Za (pv 1) Zf))))) (ZF Ju (ZF Jf (pv 4) Zl) Zl) (fun _ _=>rfl)))) Z6)
   (Zk (ZN (Vr PySem.F.plainAttrs_list PySem.F.slot_list_append PySem.F.type_list_append ZL (pv 3) (Za (pv 5) Zf)))))))))
   (Zk (Z1 (pv 3))))),
   (Zm (Γm:=[.S,.S,.S,.O,.U,.U]) (Ji (i:=3) (Jj Je) (by decide))
   (Zm (Γm:=[.S,.S,.S,.O,.U,.U]) (Zae (Γl:=[.S,.S,.S,.O,.U,.U]) (Vm (DE.FZ (ZjM (Zh (Zh Zr)) (Zb (Zc (i:=0) (m:=.S) rfl (by decide)) (Zb (Zc (i:=1) (m:=.S) rfl (by decide)) Zi))))) rfl (Ziw (i:=4) (by decide))
   (DS.out (Y:=⟨[.S,.S,.S,.O,.P,.P],[.S,.S,.S,.O,.U,.U],[.S,.S,.S,.O,.U,.U],.F⟩) (Y':=⟨[.S,.S,.S,.O,.U,.U],[.S,.S,.S,.O,.U,.U],[.S,.S,.S,.O,.U,.U],.F⟩) (Zm (Γm:=[.S,.S,.S,.O,.P,.P]) (Z3 (i:=5) (Jv (DE.toA (JP (DE.toA (Zg (i:=4) rfl)) (DE.toA Zj))) (DE.toA Zj)) (by decide))
   (Zm (Γm:=[.S,.S,.S,.O,.P,.P]) (ZZ (Zw (DE.toA (ZM (g:=id) (Zc (i:=2) (m:=.S) rfl (by decide)) (DE.toA Zj))))
   (Z3 (i:=5) (Jv (DE.toA (JP (DE.toA (Zg (i:=4) rfl)) (DE.toA Zj))) (DE.toA Zj)) (by decide))
   Z7)
   (Zm (Γm:=[.S,.S,.S,.O,.P,.P]) (ZZ (Zw (DE.toA (ZM (g:=id) (Zc (i:=2) (m:=.S) rfl (by decide)) (DE.toA Zj))))
   (Z3 (i:=5) (JP (DE.toA (Zg (i:=4) rfl)) (DE.toA Zj)) (by decide))
   Z7)
   (Zm (Γm:=[.S,.S,.S,.O,.P,.P]) (ZZ (Zw (DE.toA (ZM (g:=id) (Zc (i:=2) (m:=.S) rfl (by decide)) (DE.toA Zj))))
   (Z3 (i:=5) (DE.grd (ZB (te:=tC .non) (DE.toA (Jj (Z4 (DE.PF Zj) (Z4 (DE.PF Zj) (Z4 (DE.PF (JP (DE.toA (Zg (i:=4) rfl)) (DE.toA Zj))) (Z4 (DE.PF (DE.grd (Zc (i:=1) (m:=.S) rfl (by decide)))) Je)))))) (DE.toA (Jv (DE.toA (JP (DE.toA (Zg (i:=4) rfl)) (DE.toA Zj))) (DE.toA Zj))))) (by decide))
   Z7)
   (Zag (i:=3) rfl rfl (DE.PF (Zg (i:=5) rfl))))))) rfl rfl rfl rfl))
   (JU (Zbj (i:=3) rfl)))), ?_⟩
 refine Pm.ref Zop (g:=fun xs=>_) ?_
 rintro⟨ns,m,way⟩ ⟨hn,hm1,hm2⟩
 simp only at hn hm1 hm2
 simp only[Zop]
 walk_at "pu"
 rw[ZoP ⟨hn,by omega,hm2⟩]
 walk_at "pu"
 have hfl:(Vq ns m).length=m.toNat:=JM ns m _
 generalize hb:(fun(x:PV) (ρ:List PV)=>_)=body
 obtain⟨ρ',h1,h2⟩:=Qw (b:=body) (xs:=(Vq ns m).map PV.int) (ρ:=[.lst (ns.map PV.int),.int m,.int way,.lst [],.non,.non])
  (fun i ρ=>∃v4 v5,ρ=[.lst (ns.map PV.int),.int m,.int way,.lst ((((Vq ns m).take i).map (Qg m way)).map PV.int),v4,v5]) ⟨_,_,rfl⟩ (by
  rintro i x ρ hx ⟨v4,v5,rfl⟩
  obtain⟨z,rfl,hz,hi⟩:=Zhy hx
  obtain⟨z0,z1⟩:=Vl ns m _ z (Zug hz)
  have tk:(Vq ns m).take (i+1)=(Vq ns m).take i++[z]:=by
   rw[List.take_succ,hz];rfl
  have app:∀v,v=Qg m way z->pApp (.lst ((((Vq ns m).take i).map (Qg m way)).map PV.int)) (.int v)=.ok (.lst ((((Vq ns m).take (i+1)).map (Qg m way)).map PV.int)):=fun v hv=>by
   rw[ZbP (by simp;omega),hv,tk]
   simp
  subst hb
  by_cases w3:way=3
  ·subst w3
   have e:pIx (.lst [.int 0,.int 1,.int (z/24),.int m]) (.int (z/7%4))=.ok (.int ([0,1,z/24,m].getD (z/7%4).toNat 0)):=ZP (ns:=[0,1,z/24,m]) (by omega) (by simp only[ZtK,Zuq];omega)
   walk_at "pu"
   rw[e]
   walk_at "pu"
   rw[app _ (by unfold Qg;rw[if_pos rfl])]
   walk_at "pu"
   exact Vk ⟨_,_,rfl⟩
  ·by_cases w2:way=2
   ·subst w2
    walk_at "pu"
    rw[app _ (by unfold Qg;rw[if_neg (by decide),if_pos rfl])]
    walk_at "pu"
    exact Vk ⟨_,_,rfl⟩
   ·by_cases w1:way=1
    ·subst w1
     walk_at "pu"
     rw[app _ (by unfold Qg;rw[if_neg (by decide),if_neg (by decide),if_pos rfl])]
     walk_at "pu"
     exact Vk ⟨_,_,rfl⟩
    ·walk_at "pu"
     rw[decide_eq_false w1]
     walk_at "pu"
     rw[decide_eq_false w2]
     walk_at "pu"
     rw[decide_eq_false w3]
     walk_at "pu"
     rw[app _ (by unfold Qg;rw[if_neg w3,if_neg w2,if_neg w1])]
     walk_at "pu"
     exact Vk ⟨_,_,rfl⟩)
 obtain⟨v4,v5,rfl⟩:=h2
 rw[h1]
 walk_at "pu"
 rw[Zt7,List.take_of_length_le (ZtD _)]
 rfl
theorem ZoW {ns:List Int}{m way:Int} (h:ns.length<=63/\2<=m/\m<=24):Zop.fn [.lst (ns.map PV.int),.int m,.int way]=.ok (.lst ((VD ns m way).map PV.int)):=
 Pm.fn_eq Zop (ns,m,way) h fun⟨ns',k',w'⟩ e=>by
  simp only[Zop,List.cons.injEq,PV.lst.injEq,PV.int.injEq,and_true] at e ⊢
  obtain⟨e1,e2,e3⟩:=e
  rw[Jb e1,e2,e3]
noncomputable def ZoG:Pm:=⟨Int,fun i=>[.int i],fun _=>True,fun _=>.ok (.bl true)⟩
theorem ZsM (T:Txt K mg) {f:Addr}{fd:FuncData} (F:Fun K "is_whole" "is_whole" ZoI f fd):Jd P w K mg base CX0 1 f fd ["value"] (spF K 1 .P W0 ZoG.fn):=by
 refine F.okP ZsJ rfl rfl (fun cdv A outer s H E hr=>?_)
 have hu:=hr.units
 refine⟨_,_,⟨[],[],[],.P⟩,rfl,(Zk (Z1 (Zdz (Zv (Js (K:=K) (n := "int") rfl) rfl T.z_isinstance Z8 (Za (pv 0) (Za (JS (v:=.ty "int") rfl T.z_int Zg0 rfl) Zf))) (Zdw (Zku (Zv (Js (K:=K) (n := "bool") rfl) rfl T.z_isinstance Z8 (Za (pv 0) (Za (JS (v:=.ty "bool") rfl T.z_bool ZcW rfl) Zf)))))))),
   (ZG (ZdW (DE.toA (U4 (Zc (i:=0) (m:=.S) rfl (by decide)))) (Zld (DE.toA (U4 (Zc (i:=0) (m:=.S) rfl (by decide))))))), ?_⟩
 refine Pm.ref ZoG (g:=fun xs=>_) ?_
 intro (i:Int) _
 simp only[ZoG]
 walk_at "pd"
theorem Zp0 {i:Int}:ZoG.fn [.int i]=.ok (.bl true):=Pm.fn_eq ZoG i trivial fun _ _=>rfl
noncomputable def ZnQ:Pm:=⟨Int×Int,fun a=>[.int a.1,.int a.2],fun _=>True,fun a=>.ok (.bl (decide (a.2<=a.1)))⟩
theorem ZpM (T:Txt K mg) {f:Addr}{fd:FuncData} (F:Fun K "is_whole_from" "is_whole_from" ZnT f fd):Jd P w K mg base CX0 2 f fd ["value", "least"] (spF K 2 .P W0 ZnQ.fn):=by
 have Ztf:=Zcy (P:=P) (w:=w) (base:=base) T.Zta ZsS (fun F=>ZsM T F)
 refine F.okP Zrw rfl rfl (fun cdv A outer s H E hr=>?_)
 have hu:=hr.units
 refine⟨_,_,⟨[],[],[],.P⟩,rfl,(Zk (Z1 (Zdz (ZS Ztf (hr.mono (by decide)) rfl (Za (pv 0) Zf)) (Zdw (ZaU Zhm (pv 0) (pv 1) (Z9 _)))))),
   (ZG (ZdW (DE.toA (ZhK (Zh Zr) (Zb (Zc (i:=0) (m:=.S) rfl (by decide)) Zi))) (ZhI (Zc (i:=0) (m:=.S) rfl (by decide)) (Zc (i:=1) (m:=.S) rfl (by decide))))), ?_⟩
 refine Pm.ref ZnQ (g:=fun xs=>_) ?_
 rintro⟨i,j⟩ _
 simp only[ZnQ]
 walk_at "pd"
 rw[Zp0]
 walk_at "pd"
theorem Zou {i j:Int}:ZnQ.fn [.int i,.int j]=.ok (.bl (decide (j<=i))):=Pm.fn_eq ZnQ (i,j) trivial fun(a:Int×Int) e=>by (simp only[ZnQ,List.cons.injEq,PV.lst.injEq,PV.int.injEq,PV.str.injEq,PV.bl.injEq,PV.tup.injEq,VG,and_true] at e ⊢;first|(simp only[e];done)|(subst e;rfl)|(rw[e]))
noncomputable def Zn5:Pm:=⟨List Int,fun ns=>[.lst (ns.map PV.int)],fun ns=>ns.length<=1000000,fun ns=>.ok (.bl (decide (∀x∈ns,0<=x)))⟩
theorem ZpQ (T:Txt K mg) {f:Addr}{fd:FuncData} (F:Fun K "is_list_from_nought" "is_list_from_nought" Zn6 f fd):Jd P w K mg base CX0 3 f fd ["values"] (spF K 1 .P W0 Zn5.fn):=by
 have Zpm:=Zcy (P:=P) (w:=w) (base:=base) T.Zqo ZpP (fun F=>ZpM T F)
 refine F.okP ZoQ rfl rfl (fun cdv A outer s H E hr=>?_)
 have hu:=hr.units
 refine⟨_,_,⟨[],[],[],.P⟩,rfl,(Zk (Z1 (Zdz (Zv (Js (K:=K) (n := "list") rfl) rfl T.z_isinstance Z8 (Za (pv 0) (Za (JS (v:=.ty "list") rfl T.z_list JX rfl) Zf))) (Zdw (Zv (Zgx (K:=K) rfl) rfl T.z_all Zlz (Za (QE (J6 (K:=K) (pv 0)) (fun _ _ _ _=>(ZS Zpm (hr.mono (by decide)) rfl (Za (pv 1) (Za Zl Zf)))) ZoQ.nd rfl) Zf)))))),
   (ZG (ZdW (DE.toA (U4 (Zc (i:=0) (m:=.S) rfl (by decide)))) (Zli (Zb (DE.toA (Vn (DI.c (Vm (V6 (i:=0) rfl))) (DE.PF (ZhK (Zh (Zh Zr)) (Zb (Zc (i:=1) (m:=.S) rfl (by decide)) (Zb (DE.toA Zj) Zi)))))) Zi)))), ?_⟩
 refine Pm.ref Zn5 (g:=fun xs=>_) ?_
 intro (ns:List Int) (hn:ns.length<=1000000)
 simp only[Zn5]
 walk_at "pd"
 rw[ZiZ (g:=fun z=>decide (0<=z)) (fun z _=>Zou)]
 walk_at "pd"
 rw[Zj8]
theorem ZnU {ns:List Int} (h:ns.length<=1000000):Zn5.fn [.lst (ns.map PV.int)]=.ok (.bl (decide (∀x∈ns,0<=x))):=Pm.fn_eq Zn5 ns h fun(a:List Int) e=>by (simp only[Zn5,List.cons.injEq,PV.lst.injEq,PV.int.injEq,PV.str.injEq,PV.bl.injEq,PV.tup.injEq,VG,and_true] at e ⊢;first|(simp only[e];done)|(subst e;rfl)|(rw[e]))
noncomputable def Zo2:Pm:=⟨Unit,fun _=>[],fun _=>True,fun _=>.ok (.int (10^60))⟩
theorem Zss (T:Txt K mg) {f:Addr}{fd:FuncData} (F:Fun K "most_seeds" "most_seeds" Zox f fd):Jd P w K mg base CX0 1 f fd [] (spF K 0 .P W0 Zo2.fn):=by
 refine F.okP Zsp rfl rfl (fun cdv A outer s H E hr=>?_)
 have hu:=hr.units
 refine⟨_,_,⟨[],[],[],.P⟩,rfl,(Zk (Z1 (ZF Zfx Zl Zl))),
   (ZG (Zgf (DE.toA Zj) (DE.toA Zj))), ?_⟩
 refine Pm.ref Zo2 (g:=fun xs=>_) ?_
 rintro _ _
 simp only[Zo2]
 walk_at "pd"
theorem ZoV:Zo2.fn []=.ok (.int (10^60)):=Pm.fn_eq Zo2 () trivial fun _ _=>rfl
noncomputable def Zot:Pm:=⟨List Int,fun ns=>[.lst (ns.map PV.int)],fun ns=>ns.length<=1000,fun ns=>.ok (.bl (J3 ns))⟩
theorem ZsN (T:Txt K mg) {f:Addr}{fd:FuncData} (F:Fun K "is_board" "is_board" ZoJ f fd):Jd P w K mg base CX0 4 f fd ["board"] (spF K 1 .P W0 Zot.fn):=by
 have Zqz:=Zcy (P:=P) (w:=w) (base:=base) T.Zqp ZpU (fun F=>ZpQ T F)
 have ZsF:=Zcy (P:=P) (w:=w) (base:=base) T.Zs8 Zsy (fun F=>Zss T F)
 refine F.okP ZsK rfl rfl (fun cdv A outer s H E hr=>?_)
 have hu:=hr.units
 refine⟨_,_,⟨[],[],[],.P⟩,rfl,(Ze (ZV (Ul (Vy (ZS Zqz (hr.mono (by decide)) rfl (Za (pv 0) Zf)))) (Zk (Z1 Zap)) Z6)
   (Ze (ZV (PW.pt (QA (Zx Zhl (Zv (ZQ (K:=K)) rfl T.z_len JR (Za (pv 0) Zf)) (Zdy T.c_FEWEST_PITS rfl) (Z9 _)) (Uk (Zx Zk4 (Zv (ZQ (K:=K)) rfl T.z_len JR (Za (pv 0) Zf)) (Zdy T.c_MOST_PITS rfl) (Z9 _))))) (Zk (Z1 Zap)) Z6)
   (Zk (Z1 (ZaU Zmg (Zv (Zak (K:=K) rfl) rfl T.z_sum Zg3 (Za (pv 0) Zf)) (Zfj ZsF (hr.mono (by decide)) rfl) (Z9 _)))))),
   (Zm (Γm:=[.S]) (ZZ (U0 (ZeC (DE.toA (ZhK (Zh Zr) (Zb (Zc (i:=0) (m:=.S) rfl (by decide)) Zi)))))
   (ZG Zau)
   Z7)
   (Zm (Γm:=[.S]) (ZZ (Zab (Zw (DE.toA (ZhH (DE.toA (JO (Zb (Zc (i:=0) (m:=.S) rfl (by decide)) Zi))) (DE.toA Zj)))) (Zw (DE.toA (Zlg (DE.toA (JO (Zb (Zc (i:=0) (m:=.S) rfl (by decide)) Zi))) (DE.toA Zj)))))
   (ZG Zau)
   Z7)
   (ZG (Zmr (DE.toA (Zge (Zb (Zc (i:=0) (m:=.S) rfl (by decide)) Zi))) (DE.toA (ZhK Zr Zi)))))), ?_⟩
 refine Pm.ref Zot (g:=fun xs=>_) ?_
 intro (ns:List Int) (hn:ns.length<=1000)
 simp only[Zot]
 walk_at "pd"
 rw[ZnU (by omega)]
 walk_at "pd"
 by_cases h3:∀x∈ns,0<=x
 ·rw[decide_eq_true h3]
  walk_at "pd"
  by_cases h1:(ns.length:Int)<2
  ·rw[decide_eq_true h1]
   walk_at "pd"
   rw[show J3 ns=false from decide_eq_false (by omega)]
  rw[decide_eq_false h1]
  walk_at "pd"
  by_cases h2:(24:Int)<ns.length
  ·rw[decide_eq_true h2]
   walk_at "pd"
   rw[show J3 ns=false from decide_eq_false (by omega)]
  rw[decide_eq_false h2]
  walk_at "pd"
  rw[ZoV]
  walk_at "pd"
  by_cases h4:ns.sum<=10^60
  ·rw[decide_eq_true h4,Jo.mpr ⟨by omega,by omega,h3,h4⟩]
  ·rw[decide_eq_false h4,show J3 ns=false from decide_eq_false (fun z=>h4 z.2.2.2)]
 ·rw[decide_eq_false h3]
  walk_at "pd"
  rw[show J3 ns=false from decide_eq_false (fun z=>h3 z.2.2.1)]
theorem Zp1 {ns:List Int} (h:ns.length<=1000):Zot.fn [.lst (ns.map PV.int)]=.ok (.bl (J3 ns)):=Pm.fn_eq Zot ns h fun(a:List Int) e=>by (simp only[Zot,List.cons.injEq,PV.lst.injEq,PV.int.injEq,PV.str.injEq,PV.bl.injEq,PV.tup.injEq,VG,and_true] at e ⊢;first|(simp only[e];done)|(subst e;rfl)|(rw[e]))
theorem Zc5:Zot.calm:=fun a q h=>by (simp only[Zot] at h;cases h)
noncomputable def Zod:Pm:=⟨List Int,fun ns=>[.lst (ns.map PV.int)],fun ns=>ns.length<=1000,fun ns=>orX (if J3 ns=true then none else some "BadBoard") .non⟩
theorem Zq4 (T:Txt K mg) {f:Addr}{fd:FuncData} (F:Fun K "check_board" "check_board" Zol f fd):Jd P w K mg base (CX1 P w) 5 f fd ["board"] (spF K 1 .P (W1 K) Zod.fn):=by
 have Ztg:=Zcy (P:=P) (w:=w) (base:=base) T.Ztb ZsT (fun F=>ZsN T F)
 obtain⟨C_BadBoard,hC_BadBoard,hQ_BadBoard⟩:=VA T.x_exc (n := "BadBoard") (by decide)
 refine F.okX Zse rfl rfl (fun cdv A outer s H E hr=>?_)
 have hu:=hr.units
 refine⟨_,_,⟨[.S],[],[],.P⟩,rfl,(Zk (ZV (Ul (Vy (ZS Ztg (hr.mono (by decide)) rfl (Za (pv 0) Zf)))) (Zk (Uo QN hQ_BadBoard rfl (T.x_mg _ _ hC_BadBoard) rfl (Za Jg Zf))) Z6)),
   (ZZ (U0 (ZeC (DE.toA (Znd (Zh Zr) (Pm.calm_fn Zc5) (Zb (Zc (i:=0) (m:=.S) rfl (by decide)) Zi)))))
   (U2 hC_BadBoard (Zh Zr) (by decide) (Zb (DE.toA Jh) Zi))
   Z7), ?_⟩
 refine Pm.ref Zod (g:=fun xs=>_) ?_
 intro (ns:List Int) (hn:ns.length<=1000)
 simp only[Zod]
 walk_at "pu"
 rw[Zp1 hn]
 walk_at "pu"
 by_cases h:J3 ns=true
 ·rw[h];walk_at "pu";rfl
 ·rw[Bool.not_eq_true] at h
  rw[h];walk_at "pu";rfl
theorem ZoD {ns:List Int} (h:ns.length<=1000):Zod.fn [.lst (ns.map PV.int)]=orX (if J3 ns=true then none else some "BadBoard") .non:=Pm.fn_eq Zod ns h fun a e=>by
 simp only[Zod,List.cons.injEq,PV.lst.injEq,and_true] at e ⊢
 rw[Jb e]
noncomputable def ZnO:Pm:=⟨List Int,fun ns=>[.box none (.ob "RingBook" []) [],.lst (ns.map PV.int)],fun ns=>J3 ns=true/\ns.length<=1000,fun ns=>.ok (.tup [.non,bkP none ⟨[ns],[],[]⟩])⟩
theorem Zq2 (T:Txt K mg) {f:Addr}{fd:FuncData} (F:Fun K "__init__" "RingBook.__init__" Zn4 f fd):Jd P w K mg base CX0 6 f fd ["self", "board"] (spM K 1 0 ZnO.fnM):=by
 have ZpI:=UZ (P:=P) (w:=w) (base:=base) T.ZqO Zq5 (fun F=>Zq4 T F)
 refine F.okM (n:=1) (j:=0) Zq1 rfl rfl (by decide) (fun cdv A outer s H E hr=>?_)
 have hu:=hr.units
 refine⟨_,_,⟨[.O,.S],[],[],.N⟩,rfl,rfl,(Ze (ZN (Jk ZpI (hr.mono (by decide)) rfl QH (Za (pv 1) Zf)))
   (Ze (ZaR (pv 0) (Jt (Za (Vz (J1 (JA (K:=K)) rfl T.z_list JX (Za (pv 1) Zf))) Zf)))
   (Ze (ZaR (pv 0) (Jt Zf))
   (Zk (ZaR (pv 0) (Jt Zf)))))),
   (Zm (Γm:=[.O,.S]) (Zaf (DE.toA (Znr (Zh Zr) (Zb (Zc (i:=1) (m:=.S) rfl (by decide)) Zi))))
   (Zm (Γm:=[.O,.S]) (U1 (i:=0) (fs:=Zp) (n := "RingBook") (fl := "boards") (Z2 T.o_RingBook) (by decide) rfl (Jj (Z4 (DE.PF (V8 (VL (Zb (Zc (i:=1) (m:=.S) rfl (by decide)) Zi)))) Je)))
   (Zm (Γm:=[.O,.S]) (U1 (i:=0) (fs:=Zp) (n := "RingBook") (fl := "deeds") (Z2 T.o_RingBook) (by decide) rfl (Jj Je))
   (U1 (i:=0) (fs:=Zp) (n := "RingBook") (fl := "undone") (Z2 T.o_RingBook) (by decide) rfl (Jj Je))))), ?_⟩
 refine Pm.refM2 ZnO ?_
 rintro(ns:List Int) ⟨h0,h1⟩ a b' xs e
 cases e
 simp only[ZnO]
 simp only[ins,ZgE]
 walk_at "pd"
 rw[ZoD h1,if_pos h0]
 walk_at "pd"
 rw[ZdL,UU]
 walk_at "pd"
 rw[Zmz]
 walk_at "pd"
 rw[Zmy]
 walk_at "pd"
 rw[Zmx]
 walk_at "pd"
 rfl
theorem ZqE {ns:List Int} (h0:J3 ns=true) (h1:ns.length<=1000):Zk9 "RingBook" ZnO.fnM [.lst (ns.map PV.int)]=.ok (bkP none ⟨[ns],[],[]⟩):=
 ZiX (Pm.fn_eq ZnO ns ⟨h0,h1⟩ fun(b:List Int) e=>by
  simp only[ZnO,List.cons.injEq,PV.lst.injEq,and_true,true_and] at e ⊢
  rw[Jb e])
noncomputable def Zog:Pm:=⟨Bk,fun k=>[bkP none k],fun k=>k.bs.length≠0/\(ZI k).length<=1000,fun k=>.ok (.lst ((ZI k).map PV.int))⟩
theorem Zrd (T:Txt K mg) {f:Addr}{fd:FuncData} (F:Fun K "board" "RingBook.board" ZnC f fd):Jd P w K mg base CX0 1 f fd ["self"] (spF K 1 .F W0 Zog.fn):=by
 refine F.okP ZqV rfl rfl (fun cdv A outer s H E hr=>?_)
 have hu:=hr.units
 refine⟨_,_,⟨[],[],[],.F⟩,rfl,(Zk (Z1 (J1 (JA (K:=K)) rfl T.z_list JX (Za (ZO (Zu (K:=K)) (ZR (pv 0)) (QD Vv Zl) (fun _ _=>rfl)) Zf)))),
   (JU (VL (Zb (J2 (ZB (te:=tC .non) (JW (fs:=Zp) (n := "RingBook") (Z2 T.o_RingBook) (by decide) (Zc (i:=0) (m:=.S) rfl (by decide))) (DE.toA (V7 (DE.toA Zj))))) Zi))), ?_⟩
 refine Pm.ref Zog (g:=fun xs=>_) ?_
 rintro(k:Bk) ⟨h0,h1⟩
 simp only[Zog]
 walk_at "pd"
 rw[ZgG]
 walk_at "pd"
 rw[UO (d:=[]) h0]
 walk_at "pd"
 rw[ZU,show k.bs.getD (k.bs.length-1) []=ZI k from rfl]
 walk_at "pd"
theorem Zr6 {k:Bk} (h0:k.bs.length≠0) (h1:(ZI k).length<=1000):Zog.fn [bkP none k]=.ok (.lst ((ZI k).map PV.int)):=
 Pm.fn_eq Zog k ⟨h0,h1⟩ fun(k':Bk) e=>by
  simp only[Zog,List.cons.injEq,and_true] at e ⊢
  rw[Jm e]
noncomputable def Zoj:Pm:=⟨Bk,fun k=>[bkP none k],fun k=>k.ds.length<=1000,fun k=>.ok (.lst ((plO k.ds).map ZcN))⟩
theorem Zr0 (T:Txt K mg) {f:Addr}{fd:FuncData} (F:Fun K "plan" "RingBook.plan" ZnI f fd):Jd P w K mg base CX0 1 f fd ["self"] (spF K 1 .F W0 Zoj.fn):=by
 refine F.okP ZpK rfl rfl (fun cdv A outer s H E hr=>?_)
 have hu:=hr.units
 refine⟨_,_,⟨[],[],[],.F⟩,rfl,(Zk (Z1 (QE (J6 (K:=K) (ZR (pv 0))) (fun _ _ _ _=>(JJ (Za (ZO (Zu (K:=K)) (pv 1) Zl (fun _ _=>rfl)) (Za (ZO (Zu (K:=K)) (pv 1) Zl (fun _ _=>rfl)) Zf)))) ZpK.nd rfl))),
   (JU (Vn (DI.c (Vm (ZcP (fs:=Zp) (n := "RingBook") (Z2 T.o_RingBook) (by decide) (V6 (i:=0) rfl)))) (DE.PF (DE.grd (JV (Zb (ZB (te:=tC .non) (Zc (i:=1) (m:=.S) rfl (by decide)) (DE.toA Zj)) (Zb (ZB (te:=tC .non) (Zc (i:=1) (m:=.S) rfl (by decide)) (DE.toA Zj)) Zi))))))), ?_⟩
 refine Pm.ref Zoj (g:=fun xs=>_) ?_
 rintro(k:Bk) (h:k.ds.length<=1000)
 simp only[Zoj]
 walk_at "pd"
 rw[Zj4]
 walk_at "pd"
 rw[show Zbc _ (k.ds.map dd3)=.ok (k.ds.map fun d=>ZcN (ZiN d)) from Ziq fun d _=>by simp only[dd3];walk_at "pd";rfl]
 walk_at "pd"
 rw[ZuN];rfl
theorem ZrT {k:Bk} (h:k.ds.length<=1000):Zoj.fn [bkP none k]=.ok (.lst ((plO k.ds).map ZcN)):=
 Pm.fn_eq Zoj k h fun(k':Bk) e=>by
  simp only[Zoj,List.cons.injEq,and_true] at e ⊢
  rw[Jm e]
noncomputable def ZnF:Pm:=⟨Bk,fun k=>[bkP none k],fun k=>k.bs.length<=64/\∀b∈k.bs,b.length<=1000,fun k=>.ok (.lst ((ZgO (Vt k.bs k.bs.length)).map Vw))⟩
theorem ZpR (T:Txt K mg) {f:Addr}{fd:FuncData} (F:Fun K "came_again" "RingBook.came_again" Zn3 f fd):Jd P w K mg base CX0 1 f fd ["self"] (spF K 1 .F W0 ZnF.fn):=by
 refine F.okP ZnE rfl rfl (fun cdv A outer s H E hr=>?_)
 have hu:=hr.units
 refine⟨_,_,⟨[],[],[],.F⟩,rfl,(Ze (Zy (i:=1) ZnE.nd rfl (by first|exact Or.inl rfl|exact Or.inr rfl) ZgY)
   (Ze (Zy (i:=2) ZnE.nd rfl (by first|exact Or.inl rfl|exact Or.inr rfl) (Jt Zf))
   (Ze (QB PassesOwn.never rfl (ZgV (K:=K) rfl T.z_enumerate (Za (ZR (pv 0)) Zf)) (Zdv rfl (JI (Jq (i:=3) ZnE.nd rfl (by first|exact Or.inl rfl|exact Or.inr rfl)) (JI (Jq (i:=4) ZnE.nd rfl (by first|exact Or.inl rfl|exact Or.inr rfl)) ZaS))) (Ze (Zy (i:=5) ZnE.nd rfl (by first|exact Or.inl rfl|exact Or.inr rfl) (J1 (ZcU (K:=K)) rfl T.z_tuple Zgz (Za (pv 4) Zf)))
   (Ze (ZV (Zko (Zkv (hu1 hu) (pv 5) (pv 1))) (Zk (ZN (Vr PySem.F.plainAttrs_list PySem.F.slot_list_append PySem.F.type_list_append ZL (pv 2) (Za (JJ (Za (ZiL (hu1 hu) (pv 1) (pv 5) (fun _ _=>rfl)) (Za (pv 3) Zf))) Zf)))) Z6)
   (Zk (ZiF (hu1 hu) (pv 1) (pv 5) (pv 3) rfl)))))
   (Zk (Z1 (Zv (UX (K:=K)) rfl T.z_sorted Zcv (Za (pv 2) Zf))))))),
   (Zm (Γm:=[.S,.O,.U,.U,.U,.U]) (Ji (i:=1) ZhJ (by decide))
   (Zm (Γm:=[.S,.O,.O,.U,.U,.U]) (Ji (i:=2) (Jj Je) (by decide))
   (Zm (Γm:=[.S,.O,.O,.U,.U,.U]) (Zae (Γl:=[.S,.O,.O,.U,.U,.U]) (Zjt (ZhL (ZcP (fs:=Zp) (n := "RingBook") (Z2 T.o_RingBook) (by decide) (V6 (i:=0) rfl)) Zj1)) rfl (Zla (n:=2) (ZdT (Ziw (i:=3) (by decide)) (ZdT (Ziw (i:=4) (by decide)) Zju)))
   (DS.out (Y:=⟨[.S,.O,.O,.P,.P,.P],[.S,.O,.O,.U,.U,.U],[.S,.O,.O,.U,.U,.U],.F⟩) (Y':=⟨[.S,.O,.O,.U,.U,.U],[.S,.O,.O,.U,.U,.U],[.S,.O,.O,.U,.U,.U],.F⟩) (Zm (Γm:=[.S,.O,.O,.P,.P,.P]) (Z3 (i:=5) (DE.grd (ZhE (Zb (J2 (DE.toA (Zg (i:=4) rfl))) Zi))) (by decide))
   (Zm (Γm:=[.S,.O,.O,.P,.P,.P]) (ZZ (ZeC (DE.toA (Zlh (DE.toA (Zg (i:=5) rfl)) (Zc (i:=1) (m:=.O) rfl (by decide)))))
   (Zag (i:=2) rfl rfl (DE.PF (DE.grd (JV (Zb (Zj0 (Zc (i:=1) (m:=.O) rfl (by decide)) (DE.toA (Zg (i:=5) rfl))) (Zb (DE.toA (Zg (i:=3) rfl)) Zi))))))
   Z7)
   (Zh9 (i:=1) rfl (DE.PF (Zg (i:=3) rfl)) (DE.toA (Zg (i:=5) rfl))))) rfl rfl rfl rfl))
   (JU (Zcj (Zb (Zc (i:=2) (m:=.O) rfl (by decide)) Zi)))))), ?_⟩
 refine Pm.ref ZnF (g:=fun xs=>_) ?_
 rintro(k:Bk) ⟨h0,h1⟩
 simp only[ZnF]
 walk_at "pd"
 rw[ZgG]
 walk_at "pd"
 generalize hw:Ze0 _ _ _=W
 obtain⟨ρ',rfl,ks,xs,v1,v2,v3,rfl,g1,g2,g3⟩:=Uz hw (fun i ρ=>∃ks xs v1 v2 v3,ρ=[bkP none k,.box none (.dt ks) xs,.lst ((Vt k.bs i).map Vw),v1,v2,v3]/\ks.length=xs.length/\xs.length<=i/\∀b,atK ks xs (tI b)=(Ub k.bs b i).map fun(j:Nat)=>PV.int (j:Int)) ⟨[],[],_,_,_,rfl,rfl,ZtD _,fun b=>rfl⟩ (by
  rintro i x ρ hx ⟨ks,xs,v1,v2,v3,rfl,g1,g2,g3⟩
  obtain⟨hi,rfl⟩:=ZkW (d:=[]) hx
  generalize hb:k.bs.getD i []=b
  have hbl:b.length<=1000:=by
   refine h1 b (hb▸?_)
   rw[Zt5,Zt6 hi]
   exact Zuf ..
  have hlen:=Qy (bs:=k.bs) (n:=i)
  have last:(∀b',atK (UC ks (tI b)) (putXs ks xs (tI b) (.int i)) (tI b')=(Ub k.bs b' (i+1)).map fun(j:Nat)=>PV.int (j:Int)):=fun b'=>by
   rw[Zj6 g1,Ub,hb]
   by_cases e:b'=b
   ·rw[if_pos (by rw[e]),if_pos e.symm];rfl
   ·rw[if_neg fun z=>e (ZjZ z),if_neg (Ne.symm e)];exact g3 b'
  have hput:Zfv (.box none (.dt ks) xs) (Vw b) (.int i)=.ok (.box none (.dt (UC ks (tI b))) (putXs ks xs (tI b) (.int i))):=ZiS rfl (by omega)
  have hpl:=Zkn (k:=tI b) (y:=PV.int i) g1
  walk_at "pd"
  rw[UU]
  walk_at "pd"
  rw[ZU,show Zfl [PV.lst (b.map PV.int)]=.ok (Vw b) from rfl]
  walk_at "pd"
  rw[show grd (Vw b)=.ok (Vw b) from ZfU]
  walk_at "pd"
  rw[Zkz,g3 b]
  cases hl:Ub k.bs b i with
  |none =>
   simp only[Option.map_none,Option.isSome_none,id]
   walk_at "pd"
   rw[hput]
   walk_at "pd"
   rw[show Vt k.bs (i+1)=Vt k.bs i by rw[Vt,hb,hl];simp[ZeB]]
   exact Vk ⟨_,_,_,_,_,rfl,ZaQ g1,by omega,last⟩
  |some j =>
   have hg:=g3 b
   rw[hl] at hg
   simp only[Option.map_some,Option.isSome_some,id]
   walk_at "pd"
   rw[ZiT hg]
   walk_at "pd"
   rw[Qr (by rw[Zt7];omega)]
   walk_at "pd"
   rw[hput]
   walk_at "pd"
   rw[show Vt k.bs (i+1)=Vt k.bs i++[[(j:Int),(i:Int)]] by rw[Vt,hb,hl];simp[ZeB],ZtU]
   exact Vk ⟨_,_,_,_,_,rfl,ZaQ g1,by omega,last⟩)
 walk_at "pd"
 rw[show (Zbh (k.bs.map fzI)).length=k.bs.length by unfold Zbh;simp]
 have hlen:(Vt k.bs k.bs.length).length<64:=by
  cases e:k.bs.length with
  |zero=>simp[Vt]
  |succ n=>have:=Zaj (bs:=k.bs) (n:=n);omega
 rw[Za0 ⟨Zgt,by omega⟩,Zin Zcg (by rw[(Q6 _).length_eq];omega)]
 walk_at "pd"
theorem Zqt {k:Bk} (h:k.bs.length<=64/\∀b∈k.bs,b.length<=1000):ZnF.fn [bkP none k]=.ok (.lst ((ZgO (Vt k.bs k.bs.length)).map Vw)):=
 Pm.fn_eq ZnF k h fun(k':Bk) e=>by
  simp only[ZnF,List.cons.injEq,and_true] at e ⊢
  rw[Jm e]
noncomputable def ZnD:Pm:=⟨Bk,fun k=>[bkP none k],fun k=>k.ds.length<=1000,fun k=>.ok (.int (k.ds.map fun d=>d.2.2).sum)⟩
theorem ZpB (T:Txt K mg) {f:Addr}{fd:FuncData} (F:Fun K "sown_in_all" "RingBook.sown_in_all" Zn2 f fd):Jd P w K mg base CX0 1 f fd ["self"] (spF K 1 .P W0 ZnD.fn):=by
 refine F.okP ZoO rfl rfl (fun cdv A outer s H E hr=>?_)
 have hu:=hr.units
 refine⟨_,_,⟨[],[],[],.P⟩,rfl,(Zk (Z1 (Zv (Zak (K:=K) rfl) rfl T.z_sum Zg3 (Za (QE (J6 (K:=K) (ZR (pv 0))) (fun _ _ _ _=>(ZO (Zu (K:=K)) (pv 1) Zl (fun _ _=>rfl))) ZoO.nd rfl) Zf)))),
   (ZG (Zge (Zb (DE.toA (Vn (DI.c (Vm (ZcP (fs:=Zp) (n := "RingBook") (Z2 T.o_RingBook) (by decide) (V6 (i:=0) rfl)))) (DE.PF (DE.grd (ZB (te:=tC .non) (Zc (i:=1) (m:=.S) rfl (by decide)) (DE.toA Zj)))))) Zi))), ?_⟩
 refine Pm.ref ZnD (g:=fun xs=>_) ?_
 rintro(k:Bk) (h:k.ds.length<=1000)
 simp only[ZnD]
 walk_at "pd"
 rw[Zj4]
 walk_at "pd"
 rw[show Zbc _ (k.ds.map dd3)=.ok ((k.ds.map fun d=>d.2.2).map PV.int) from ZkA fun d _=>by simp only[dd3];walk_at "pd"]
 walk_at "pd"
theorem ZpT {k:Bk} (h:k.ds.length<=1000):ZnD.fn [bkP none k]=.ok (.int (k.ds.map fun d=>d.2.2).sum):=
 Pm.fn_eq ZnD k h fun(k':Bk) e=>by
  simp only[ZnD,List.cons.injEq,and_true] at e ⊢
  rw[Jm e]
theorem ZdC {bs:List (List Int)}{b:List Int}:∀{n:Nat},Ub bs b n=none->∀m,m<n->bs.getD m []≠b
 |0,_,m,hm=>by omega
 |n+1,h,m,hm=>by
  unfold Ub at h
  split at h
  ·cases h
  ·rename_i e
   by_cases q:m=n
   ·rw[q];exact e
   ·exact ZdC h m (by omega)
noncomputable def Zoq:Pm:=⟨List (List Int),fun bs=>[.lst (bs.map fzI)],fun bs=>bs.length<=64,fun bs=>.ok (.lst ((ZgO (Vt bs bs.length)).map Vw))⟩
theorem Zsv (T:Txt K mg) {f:Addr}{fd:FuncData} (F:Fun K "_law_again" "_law_again" Zoz f fd):Jd P w K mg base CX0 1 f fd ["boards"] (spF K 1 .F W0 Zoq.fn):=by
 refine F.okP ZoN rfl rfl (fun cdv A outer s H E hr=>?_)
 have hu:=hr.units
 refine⟨_,_,⟨[],[],[],.F⟩,rfl,(Ze (Zy (i:=1) ZoN.nd rfl (by first|exact Or.inl rfl|exact Or.inr rfl) (Jt Zf))
   (Ze (QB PassesOwn.never rfl (QC rfl T.z_range (Za (Zv (ZQ (K:=K)) rfl T.z_len JR (Za (pv 0) Zf)) Zf)) (Jq (i:=2) ZoN.nd rfl (by first|exact Or.inl rfl|exact Or.inr rfl)) (Ze (Zy (i:=3) ZoN.nd rfl (by first|exact Or.inl rfl|exact Or.inr rfl) (ZF UP (pv 2) Zl))
   (Ze (Zds PassesOwn.never (PW.pt (Zkm (Zx Zhm (pv 3) Zl (Z9 _)) (ZiE (Zx (UQ (K:=K) hu) (ZO (Zu (K:=K)) (pv 0) (pv 3) (fun _ _=>rfl)) (ZO (Zu (K:=K)) (pv 0) (pv 2) (fun _ _=>rfl)) (Z9 _))))) (Zk (Zy (i:=3) ZoN.nd rfl (by first|exact Or.inl rfl|exact Or.inr rfl) (ZF UP (pv 3) Zl))))
   (Zk (ZV (Zx Zhm (pv 3) Zl (Z9 _)) (Zk (ZN (Vr PySem.F.plainAttrs_list PySem.F.slot_list_append PySem.F.type_list_append ZL (pv 1) (Za (JJ (Za (pv 3) (Za (pv 2) Zf))) Zf)))) Z6)))))
   (Zk (Z1 (Zv (UX (K:=K)) rfl T.z_sorted Zcv (Za (pv 1) Zf)))))),
   (Zm (Γm:=[.S,.O,.U,.U]) (Ji (i:=1) (Jj Je) (by decide))
   (Zm (Γm:=[.S,.O,.U,.U]) (Zae (Γl:=[.S,.O,.U,.U]) (ZcM (Zb (DE.toA (JO (Zb (Zc (i:=0) (m:=.S) rfl (by decide)) Zi))) Zi)) rfl (Ziw (i:=2) (by decide))
   (DS.out (Y:=⟨[.S,.O,.P,.P],[.S,.O,.U,.U],[.S,.O,.U,.U],.F⟩) (Y':=⟨[.S,.O,.U,.U],[.S,.O,.U,.U],[.S,.O,.U,.U],.F⟩) (Zm (Γm:=[.S,.O,.P,.P]) (Z3 (i:=3) (UV (DE.toA (Zg (i:=2) rfl)) (DE.toA Zj)) (by decide))
   (Zm (Γm:=[.S,.O,.P,.P]) (ZdO (Γ:=[.S,.O,.P,.P]) (ZkY (Zw (DE.toA (ZhI (DE.toA (Zg (i:=3) rfl)) (DE.toA Zj)))) (Zw (DE.toA (ZM (g:=(!·)) (J2 (ZB (te:=tC .non) (Zc (i:=0) (m:=.S) rfl (by decide)) (DE.toA (Zg (i:=3) rfl)))) (J2 (ZB (te:=tC .non) (Zc (i:=0) (m:=.S) rfl (by decide)) (DE.toA (Zg (i:=2) rfl))))))))
   (Z3 (i:=3) (UV (DE.toA (Zg (i:=3) rfl)) (DE.toA Zj)) (by decide)))
   (ZZ (Zw (DE.toA (ZhI (DE.toA (Zg (i:=3) rfl)) (DE.toA Zj))))
   (Zag (i:=1) rfl rfl (DE.PF (DE.grd (JV (Zb (DE.toA (Zg (i:=3) rfl)) (Zb (DE.toA (Zg (i:=2) rfl)) Zi))))))
   Z7))) rfl rfl rfl rfl))
   (JU (Zcj (Zb (Zc (i:=1) (m:=.O) rfl (by decide)) Zi))))), ?_⟩
 refine Pm.ref Zoq (g:=fun xs=>_) ?_
 rintro(bs:List (List Int)) (h:bs.length<=64)
 simp only[Zoq]
 walk_at "pd"
 rw[JK,Zt7]
 walk_at "pd"
 generalize hw:Ze0 _ _ _=W
 obtain⟨ρ',rfl,v1,v2,rfl⟩:=Uz hw (fun i ρ=>∃v1 v2,ρ=[.lst (bs.map fzI),.lst ((Vt bs i).map Vw),v1,v2]) ⟨_,_,rfl⟩ (by
  rintro i x ρ hx ⟨v1,v2,rfl⟩
  obtain⟨hi,rfl⟩:=Qo hx
  rw[Zur] at hi
  rw[Int.zero_add]
  have hL:=Qy (bs:=bs) (n:=i)
  walk_at "pd"
  generalize hW:Uf _ _ _=W2
  have go:∀m:Nat,m<i->bs.getD (i-1-m) []≠bs.getD i []->(fun ρ:List PV=>((pGe (gv 3 ρ) (PV.int 0)).bind asB).bind fun b=>if b=true then (((pIx (gv 0 ρ) (gv 3 ρ)).bind fun x=>Rr.ok (thw x)).bind fun x=>((pIx (gv 0 ρ) (gv 2 ρ)).bind fun x=>Rr.ok (thw x)).bind fun y=>Zbw (fun x=>!x) x y).bind asB else Rr.ok false) [.lst (bs.map fzI),.lst ((Vt bs i).map Vw),.int i,.int ((i:Int)-1-m)]=.ok true:=fun m hm hne=>by
   have e:((i:Int)-1-m)=((i-1-m:Nat):Int):=by omega
   walk_at "pd"
   rw[decide_eq_true (by omega)]
   walk_at "pd"
   rw[e,Zhd (d:=[]) (by omega) (by omega),Zhd (d:=[]) (by omega) (by omega)]
   walk_at "pd"
   rw[ZU,ZU,Zur,Zur]
   walk_at "pd"
   rw[decide_eq_false hne];rfl
  cases hl:Ub bs (bs.getD i []) i with
  |some j =>
   obtain⟨j1,j2,j3⟩:=VE.mp hl
   obtain⟨ρ',rfl,rfl⟩:=Q1 hW (i-1-j) (fun m ρ=>ρ=[.lst (bs.map fzI),.lst ((Vt bs i).map Vw),.int i,.int ((i:Int)-1-m)]) (by simp) (by
    rintro m ρ hm rfl
    refine⟨go m (by omega) (j3 _ (by omega) (by omega)), ?_⟩
    walk_at "pd"
    exact Vk (by rw[show (i:Int)-1-m-1=(i:Int)-1-((m+1:Nat):Int) by omega])) (by
    rintro ρ rfl
    have e:((i:Int)-1-((i-1-j:Nat):Int))=(j:Int):=by omega
    rw[e]
    walk_at "pd"
    rw[decide_eq_true (by omega)]
    walk_at "pd"
    rw[Zhd (d:=[]) (by omega) (by omega),Zhd (d:=[]) (by omega) (by omega)]
    walk_at "pd"
    rw[ZU,ZU,Zur,Zur]
    walk_at "pd"
    rw[decide_eq_true j2];rfl)
   have e:((i:Int)-1-((i-1-j:Nat):Int))=(j:Int):=by omega
   rw[e]
   walk_at "pd"
   rw[decide_eq_true (by omega)]
   walk_at "pd"
   rw[Qr (by rw[Zt7];omega)]
   walk_at "pd"
   rw[show Vt bs (i+1)=Vt bs i++[[(j:Int),(i:Int)]] by rw[Vt,hl];simp[ZeB],ZtU]
   exact Vk ⟨_,_,rfl⟩
  |none =>
   have hno:=ZdC hl
   obtain⟨ρ',rfl,rfl⟩:=Q1 hW i (fun m ρ=>ρ=[.lst (bs.map fzI),.lst ((Vt bs i).map Vw),.int i,.int ((i:Int)-1-m)]) (by simp) (by
    rintro m ρ hm rfl
    refine⟨go m hm (hno _ (by omega)), ?_⟩
    walk_at "pd"
    exact Vk (by rw[show (i:Int)-1-m-1=(i:Int)-1-((m+1:Nat):Int) by omega])) (by
    rintro ρ rfl
    walk_at "pd"
    rw[decide_eq_false (by omega)]
    walk_at "pd")
   walk_at "pd"
   rw[decide_eq_false (by omega)]
   walk_at "pd"
   rw[show Vt bs (i+1)=Vt bs i by rw[Vt,hl];simp[ZeB]]
   exact Vk ⟨_,_,rfl⟩)
 walk_at "pd"
 rw[Vj,Zur]
 have hlen:(Vt bs bs.length).length<64:=by
  cases e:bs.length with
  |zero=>simp[Vt]
  |succ n=>have:=Zaj (bs:=bs) (n:=n);omega
 rw[Za0 ⟨Zgt,hlen⟩,Zin Zcg (by rw[(Q6 _).length_eq];omega)]
 walk_at "pd"
theorem ZoY {bs:List (List Int)} (h:bs.length<=64):Zoq.fn [.lst (bs.map fzI)]=.ok (.lst ((ZgO (Vt bs bs.length)).map Vw)):=
 Pm.fn_eq Zoq bs h fun(b:List (List Int)) e=>by
  simp only[Zoq,List.cons.injEq,PV.lst.injEq,and_true] at e ⊢
  rw[JL (fun _ _=>QW) e]
noncomputable def Zoh:Pm:=⟨Bk×Int,fun a=>[bkP none a.1,.lst (a.1.bs.map fzI),.lst (a.1.ds.map dd3),.int a.2],fun a=>BkG 63 a.1,fun _=>.ok (.bl true)⟩
theorem ZrJ (T:Txt K mg) {f:Addr}{fd:FuncData} (F:Fun K "_law_as_kept" "_law_as_kept" Zoc f fd):Jd P w K mg base CX0 2 f fd ["book", "boards", "deeds", "cell"] (spF K 4 .P W0 Zoh.fn):=by
 have ZrC:=VR (P:=P) (w:=w) (mg:=mg) (base:=base) T.o_RingBook T.Zr3 Zro (fun F=>Zrd T F)
 have Zsc:=VR (P:=P) (w:=w) (mg:=mg) (base:=base) T.o_RingBook T.ZrP Zr9 (fun F=>Zr0 T F)
 have Zq0:=VR (P:=P) (w:=w) (mg:=mg) (base:=base) T.o_RingBook T.Zqq ZpV (fun F=>ZpR T F)
 have ZpW:=VR (P:=P) (w:=w) (mg:=mg) (base:=base) T.o_RingBook T.ZpS ZpF (fun F=>ZpB T F)
 have ZsI:=Zcy (P:=P) (w:=w) (base:=base) T.ZsB Zs1 (fun F=>Zsv T F)
 refine F.okP ZnN rfl rfl (fun cdv A outer s H E hr=>?_)
 have hu:=hr.units
 refine⟨_,_,⟨[],[],[],.P⟩,rfl,(Ze (QB PassesOwn.never rfl (QC rfl T.z_range (Za Zl Zf)) (Jq (i:=4) ZnN.nd rfl (by first|exact Or.inl rfl|exact Or.inr rfl)) (Ze (Zy (i:=5) ZnN.nd rfl (by first|exact Or.inl rfl|exact Or.inr rfl) (ZF Ju (ZF Uq (pv 3) (pv 4)) Zl))
   (Zk (ZV (Zx (Ja (K:=K) hu) (pv 5) Zl (Z9 _)) (Ze (Zy (i:=6) ZnN.nd rfl (by first|exact Or.inl rfl|exact Or.inr rfl) (Vb ZrC (hr.mono (by decide)) (pv 0)))
   (Ze (ZV (PW.pt (QA (Ul (Vy (Zv (Js (K:=K) (n := "list") rfl) rfl T.z_isinstance Z8 (Za (pv 6) (Za (JS (v:=.ty "list") rfl T.z_list JX rfl) Zf))))) (Uk (Zx (UQ (K:=K) hu) (pv 6) (ZO (Zu (K:=K)) (pv 1) (QD Vv Zl) (fun _ _=>rfl)) (Z9 _))))) (Zk (Z1 Zap)) Z6)
   (Zk (UN (ZF Uq (ZO (Zu (K:=K)) (pv 6) Zl (fun _ _=>rfl)) Zl) (ZbI (pv 6) Zl Vi))))) (Zk (ZV (Zx (Ja (K:=K) hu) (pv 5) Zl (Z9 _)) (Ze (Zy (i:=7) ZnN.nd rfl (by first|exact Or.inl rfl|exact Or.inr rfl) (Vb Zsc (hr.mono (by decide)) (pv 0)))
   (Ze (ZV (PW.pt (QA (Ul (Vy (Zv (Js (K:=K) (n := "list") rfl) rfl T.z_isinstance Z8 (Za (pv 7) (Za (JS (v:=.ty "list") rfl T.z_list JX rfl) Zf))))) (Uk (Zx (UQ (K:=K) hu) (pv 7) (QE (J6 (K:=K) (pv 2)) (fun _ _ _ _=>(JJ (Za (ZO (Zu (K:=K)) (pv 10) Zl (fun _ _=>rfl)) (Za (ZO (Zu (K:=K)) (pv 10) Zl (fun _ _=>rfl)) Zf)))) ZnN.nd rfl) (Z9 _))))) (Zk (Z1 Zap)) Z6)
   (Zk (ZN (Vr PySem.F.plainAttrs_list PySem.F.slot_list_append PySem.F.type_list_append ZL (pv 7) (Za (JJ (Za Jg (Za Zl Zf))) Zf)))))) (Zk (ZV (Zx (Ja (K:=K) hu) (pv 5) Zl (Z9 _)) (Ze (Zy (i:=8) ZnN.nd rfl (by first|exact Or.inl rfl|exact Or.inr rfl) (Vb Zq0 (hr.mono (by decide)) (pv 0)))
   (Ze (ZV (PW.pt (QA (Ul (Vy (Zv (Js (K:=K) (n := "list") rfl) rfl T.z_isinstance Z8 (Za (pv 8) (Za (JS (v:=.ty "list") rfl T.z_list JX rfl) Zf))))) (Uk (Zx (UQ (K:=K) hu) (pv 8) (ZS ZsI (hr.mono (by decide)) rfl (Za (pv 1) Zf)) (Z9 _))))) (Zk (Z1 Zap)) Z6)
   (Zk (ZN (Vr PySem.F.plainAttrs_list PySem.F.slot_list_append PySem.F.type_list_append ZL (pv 8) (Za (JJ (Za Zl (Za Zl Zf))) Zf)))))) (Ze (Zy (i:=9) ZnN.nd rfl (by first|exact Or.inl rfl|exact Or.inr rfl) (Vb ZpW (hr.mono (by decide)) (pv 0)))
   (Zk (ZV (PW.pt (QA (Ul (Vy (Zv (Js (K:=K) (n := "int") rfl) rfl T.z_isinstance Z8 (Za (pv 9) (Za (JS (v:=.ty "int") rfl T.z_int Zg0 rfl) Zf))))) (QA (Vy (Zv (Js (K:=K) (n := "bool") rfl) rfl T.z_isinstance Z8 (Za (pv 9) (Za (JS (v:=.ty "bool") rfl T.z_bool ZcW rfl) Zf)))) (Uk (Zx (UQ (K:=K) hu) (pv 9) (Zv (Zak (K:=K) rfl) rfl T.z_sum Zg3 (Za (QE (J6 (K:=K) (pv 2)) (fun _ _ _ _=>(ZO (Zu (K:=K)) (pv 10) Zl (fun _ _=>rfl))) ZnN.nd rfl) Zf)) (Z9 _)))))) (Zk (Z1 Zap)) Z6)))))))))))
   (Zk (Z1 Zap))),
   (Zm (Γm:=[.S,.S,.S,.S,.U,.U,.U,.U,.U,.U]) (Zae (Γl:=[.S,.S,.S,.S,.U,.U,.U,.U,.U,.U]) (ZcM (Zb (DE.toA Zj) Zi)) rfl (Ziw (i:=4) (by decide))
   (DS.out (Y:=⟨[.S,.S,.S,.S,.P,.P,.U,.U,.U,.U],[.S,.S,.S,.S,.U,.U,.U,.U,.U,.U],[.S,.S,.S,.S,.U,.U,.U,.U,.U,.U],.P⟩) (Y':=⟨[.S,.S,.S,.S,.U,.U,.U,.U,.U,.U],[.S,.S,.S,.S,.U,.U,.U,.U,.U,.U],[.S,.S,.S,.S,.U,.U,.U,.U,.U,.U],.P⟩) (Zm (Γm:=[.S,.S,.S,.S,.P,.P,.U,.U,.U,.U]) (Z3 (i:=5) (Jv (DE.toA (U5 (Zc (i:=3) (m:=.S) rfl (by decide)) (DE.toA (Zg (i:=4) rfl)))) (DE.toA Zj)) (by decide))
   (ZZ (Zw (DE.toA (ZM (g:=id) (DE.toA (Zg (i:=5) rfl)) (DE.toA Zj))))
   (DS.out (Y:=⟨[.S,.S,.S,.S,.P,.P,.O,.U,.U,.U],[.S,.S,.S,.S,.U,.U,.U,.U,.U,.U],[.S,.S,.S,.S,.U,.U,.U,.U,.U,.U],.P⟩) (Y':=⟨[.S,.S,.S,.S,.P,.P,.U,.U,.U,.U],[.S,.S,.S,.S,.U,.U,.U,.U,.U,.U],[.S,.S,.S,.S,.U,.U,.U,.U,.U,.U],.P⟩) (Zm (Γm:=[.S,.S,.S,.S,.P,.P,.O,.U,.U,.U]) (Ji (i:=6) (DE.meth (i:=0) (md:=.S) (n := "RingBook") (m := "board") rfl (by decide) (ZjM (Zh Zr) (Zb (Zc (i:=0) (m:=.S) rfl (by decide)) Zi))) (by decide))
   (Zm (Γm:=[.S,.S,.S,.S,.P,.P,.O,.U,.U,.U]) (ZZ (Zab (U0 (ZeC (DE.toA (U4 (Zc (i:=6) (m:=.O) rfl (by decide)))))) (Zw (DE.toA (ZM (g:=(!·)) (Zc (i:=6) (m:=.O) rfl (by decide)) (J2 (ZB (te:=tC .non) (Zc (i:=1) (m:=.S) rfl (by decide)) (DE.toA (V7 (DE.toA Zj)))))))))
   (ZG Zau)
   Z7)
   (V5 (i:=6) rfl (U5 (ZB (te:=tC .non) (Zc (i:=6) (m:=.O) rfl (by decide)) (DE.toA Zj)) (DE.toA Zj)) (DE.toA Zj)))) rfl rfl rfl rfl)
   (ZZ (Zw (DE.toA (ZM (g:=id) (DE.toA (Zg (i:=5) rfl)) (DE.toA Zj))))
   (DS.out (Y:=⟨[.S,.S,.S,.S,.P,.P,.U,.O,.U,.U],[.S,.S,.S,.S,.U,.U,.U,.U,.U,.U],[.S,.S,.S,.S,.U,.U,.U,.U,.U,.U],.P⟩) (Y':=⟨[.S,.S,.S,.S,.P,.P,.U,.U,.U,.U],[.S,.S,.S,.S,.U,.U,.U,.U,.U,.U],[.S,.S,.S,.S,.U,.U,.U,.U,.U,.U],.P⟩) (Zm (Γm:=[.S,.S,.S,.S,.P,.P,.U,.O,.U,.U]) (Ji (i:=7) (DE.meth (i:=0) (md:=.S) (n := "RingBook") (m := "plan") rfl (by decide) (ZjM (Zh Zr) (Zb (Zc (i:=0) (m:=.S) rfl (by decide)) Zi))) (by decide))
   (Zm (Γm:=[.S,.S,.S,.S,.P,.P,.U,.O,.U,.U]) (ZZ (Zab (U0 (ZeC (DE.toA (U4 (Zc (i:=7) (m:=.O) rfl (by decide)))))) (Zw (DE.toA (ZM (g:=(!·)) (Zc (i:=7) (m:=.O) rfl (by decide)) (DE.toA (Vn (DI.c (Vm (V6 (i:=2) rfl))) (DE.PF (DE.grd (JV (Zb (ZB (te:=tC .non) (Zc (i:=10) (m:=.S) rfl (by decide)) (DE.toA Zj)) (Zb (ZB (te:=tC .non) (Zc (i:=10) (m:=.S) rfl (by decide)) (DE.toA Zj)) Zi)))))))))))
   (ZG Zau)
   Z7)
   (Zag (i:=7) rfl rfl (DE.PF (DE.grd (JV (Zb (DE.toA Jh) (Zb (DE.toA Zj) Zi)))))))) rfl rfl rfl rfl)
   (ZZ (Zw (DE.toA (ZM (g:=id) (DE.toA (Zg (i:=5) rfl)) (DE.toA Zj))))
   (DS.out (Y:=⟨[.S,.S,.S,.S,.P,.P,.U,.U,.O,.U],[.S,.S,.S,.S,.U,.U,.U,.U,.U,.U],[.S,.S,.S,.S,.U,.U,.U,.U,.U,.U],.P⟩) (Y':=⟨[.S,.S,.S,.S,.P,.P,.U,.U,.U,.U],[.S,.S,.S,.S,.U,.U,.U,.U,.U,.U],[.S,.S,.S,.S,.U,.U,.U,.U,.U,.U],.P⟩) (Zm (Γm:=[.S,.S,.S,.S,.P,.P,.U,.U,.O,.U]) (Ji (i:=8) (DE.meth (i:=0) (md:=.S) (n := "RingBook") (m := "came_again") rfl (by decide) (ZjM (Zh Zr) (Zb (Zc (i:=0) (m:=.S) rfl (by decide)) Zi))) (by decide))
   (Zm (Γm:=[.S,.S,.S,.S,.P,.P,.U,.U,.O,.U]) (ZZ (Zab (U0 (ZeC (DE.toA (U4 (Zc (i:=8) (m:=.O) rfl (by decide)))))) (Zw (DE.toA (ZM (g:=(!·)) (Zc (i:=8) (m:=.O) rfl (by decide)) (DE.toA (ZjM (Zh Zr) (Zb (Zc (i:=1) (m:=.S) rfl (by decide)) Zi)))))))
   (ZG Zau)
   Z7)
   (Zag (i:=8) rfl rfl (DE.PF (DE.grd (JV (Zb (DE.toA Zj) (Zb (DE.toA Zj) Zi)))))))) rfl rfl rfl rfl)
   (DS.out (Y:=⟨[.S,.S,.S,.S,.P,.P,.U,.U,.U,.P],[.S,.S,.S,.S,.U,.U,.U,.U,.U,.U],[.S,.S,.S,.S,.U,.U,.U,.U,.U,.U],.P⟩) (Y':=⟨[.S,.S,.S,.S,.P,.P,.U,.U,.U,.U],[.S,.S,.S,.S,.U,.U,.U,.U,.U,.U],[.S,.S,.S,.S,.U,.U,.U,.U,.U,.U],.P⟩) (Zm (Γm:=[.S,.S,.S,.S,.P,.P,.U,.U,.U,.P]) (Z3 (i:=9) (DE.meth (i:=0) (md:=.S) (n := "RingBook") (m := "sown_in_all") rfl (by decide) (ZhK (Zh Zr) (Zb (Zc (i:=0) (m:=.S) rfl (by decide)) Zi))) (by decide))
   (ZZ (Zab (U0 (ZeC (DE.toA (U4 (DE.toA (Zg (i:=9) rfl)))))) (Zab (ZeC (DE.toA (U4 (DE.toA (Zg (i:=9) rfl))))) (Zw (DE.toA (ZM (g:=(!·)) (DE.toA (Zg (i:=9) rfl)) (DE.toA (Zge (Zb (DE.toA (Vn (DI.c (Vm (V6 (i:=2) rfl))) (DE.PF (DE.grd (ZB (te:=tC .non) (Zc (i:=10) (m:=.S) rfl (by decide)) (DE.toA Zj)))))) Zi))))))))
   (ZG Zau)
   Z7)) rfl rfl rfl rfl))))) rfl rfl rfl rfl))
   (ZG Zau)), ?_⟩
 refine Pm.ref Zoh (g:=fun xs=>_) ?_
 rintro⟨k,c⟩ (h0:BkG 63 k)
 simp only[Zoh]
 have g1:=h0.bl
 have g2:=h0.dl
 have lb:=h0.last
 have l1:=lb.hi
 have l2:=lb.lo
 have hbl:∀b∈k.bs,b.length<=1000:=fun b hb=>by have:=(h0.bd b hb).hi;omega
 walk_at "pd"
 generalize hw:Ze0 _ _ _=W
 obtain⟨ρ',rfl,v4,v5,v6,v7,v8,v9,rfl⟩:=Uz hw (fun i ρ=>∃v4 v5 v6 v7 v8 v9,ρ=[bkP none k,.lst (k.bs.map fzI),.lst (k.ds.map dd3),.int c,v4,v5,v6,v7,v8,v9]) ⟨_,_,_,_,_,_,rfl⟩ (by
  rintro i x ρ hx ⟨v4,v5,v6,v7,v8,v9,rfl⟩
  obtain⟨hi,rfl⟩:=Qo hx
  rw[Int.zero_add]
  walk_at "pd"
  have m0:=ZtV (c+i) (show (4:Int)≠0 by decide)
  have m1:=ZtR (c+i) (show (0:Int)<4 by decide)
  generalize (c+(i:Int))%4=w at *
  by_cases w0:w=0
  ·subst w0
   walk_at "pd"
   rw[Zm4]
   walk_at "pd"
   rw[Zr6 (by omega) (by omega)]
   walk_at "pd"
   rw[UO (d:=[]) (by omega),show k.bs.getD (k.bs.length-1) []=ZI k from rfl]
   walk_at "pd"
   rw[ZU]
   walk_at "pd"
   exact Vk ⟨_,_,_,_,_,_,rfl⟩
  by_cases w1:w=1
  ·subst w1
   walk_at "pd"
   rw[Zm3]
   walk_at "pd"
   rw[ZrT (by omega)]
   walk_at "pd"
   rw[show Zbc _ (k.ds.map dd3)=.ok (k.ds.map fun d=>ZcN (ZiN d)) from Ziq fun d _=>by simp only[dd3];walk_at "pd";rfl]
   walk_at "pd"
   rw[show (k.ds.map fun d=>ZcN (ZiN d))=(plO k.ds).map ZcN by unfold plO;rw[ZuN];rfl,V0 h0.plan]
   walk_at "pd"
   rw[Qr (by rw[Zt7];unfold plO;rw[Zt7];omega)]
   walk_at "pd"
   exact Vk ⟨_,_,_,_,_,_,rfl⟩
  by_cases w2:w=2
  ·subst w2
   walk_at "pd"
   rw[Zm6]
   walk_at "pd"
   rw[Zqt ⟨by omega,hbl⟩]
   walk_at "pd"
   rw[ZoY (by omega)]
   walk_at "pd"
   rw[V0 (ZhM _)]
   walk_at "pd"
   rw[Qr (by rw[Zt7,(Q6 _).length_eq];have:=Qy (bs:=k.bs) (n:=k.bs.length);omega)]
   walk_at "pd"
   exact Vk ⟨_,_,_,_,_,_,rfl⟩
  obtain rfl:w=3:=by omega
  walk_at "pd"
  rw[Zm5]
  walk_at "pd"
  rw[ZpT (by omega)]
  walk_at "pd"
  rw[show Zbc _ (k.ds.map dd3)=.ok ((k.ds.map fun d=>d.2.2).map PV.int) from ZkA fun d _=>by simp only[dd3];walk_at "pd"]
  walk_at "pd"
  exact Vk ⟨_,_,_,_,_,_,rfl⟩)
 walk_at "pd"
theorem Zo4 {k:Bk}{c:Int} (h:BkG 63 k):Zoh.fn [bkP none k,.lst (k.bs.map fzI),.lst (k.ds.map dd3),.int c]=.ok (.bl true):=Pm.fn_eq Zoh (k,c) h fun _ _=>rfl
noncomputable def ZoE:Pm:=⟨List Int×Int,fun a=>[.lst (a.1.map PV.int),.int a.2],fun _=>True,fun a=>.ok (.bl (decide (0<=a.2/\a.2<a.1.length)))⟩
theorem Ztl (T:Txt K mg) {f:Addr}{fd:FuncData} (F:Fun K "is_pit" "is_pit" Zpo f fd):Jd P w K mg base CX0 3 f fd ["board", "pit"] (spF K 2 .P W0 ZoE.fn):=by
 have Zpm:=Zcy (P:=P) (w:=w) (base:=base) T.Zqo ZpP (fun F=>ZpM T F)
 refine F.okP Zti rfl rfl (fun cdv A outer s H E hr=>?_)
 have hu:=hr.units
 refine⟨_,_,⟨[],[],[],.P⟩,rfl,(Zk (Z1 (Zdz (ZS Zpm (hr.mono (by decide)) rfl (Za (pv 1) (Za Zl Zf))) (Zdw (ZaU Zhl (pv 1) (Zv (ZQ (K:=K)) rfl T.z_len JR (Za (pv 0) Zf)) (Z9 _)))))),
   (ZG (ZdW (DE.toA (ZhK (Zh (Zh Zr)) (Zb (Zc (i:=1) (m:=.S) rfl (by decide)) (Zb (DE.toA Zj) Zi)))) (ZhH (Zc (i:=1) (m:=.S) rfl (by decide)) (DE.toA (JO (Zb (Zc (i:=0) (m:=.S) rfl (by decide)) Zi)))))), ?_⟩
 refine Pm.ref ZoE (g:=fun xs=>_) ?_
 rintro⟨ns,p⟩ -
 simp only[ZoE]
 walk_at "pd"
 rw[Zou]
 walk_at "pd"
 by_cases h0:0<=p
 ·rw[decide_eq_true h0]
  walk_at "pd"
  by_cases h1:p<ns.length
  ·rw[decide_eq_true h1,show decide (0<=p/\p<(ns.length:Int))=true from decide_eq_true ⟨h0,h1⟩]
  ·rw[decide_eq_false h1,show decide (0<=p/\p<(ns.length:Int))=false from decide_eq_false (fun z=>h1 z.2)]
 ·rw[decide_eq_false h0,show decide (0<=p/\p<(ns.length:Int))=false from decide_eq_false (fun z=>h0 z.1)]
  walk_at "pd"
theorem ZqP {ns:List Int}{p:Int}:ZoE.fn [.lst (ns.map PV.int),.int p]=.ok (.bl (decide (0<=p/\p<ns.length))):=Pm.fn_eq ZoE (ns,p) trivial fun(a:List Int×Int) e=>by (simp only[ZoE,List.cons.injEq,PV.lst.injEq,PV.int.injEq,PV.str.injEq,PV.bl.injEq,PV.tup.injEq,VG,and_true] at e ⊢;first|(simp only[e];done)|(subst e;rfl)|(rw[e]))
theorem Zfk:ZoE.calm:=fun a q h=>by (simp only[ZoE] at h;cases h)
noncomputable def Zo0:Pm:=⟨List Int×Int,fun a=>[.lst (a.1.map PV.int),.int a.2],fun a=>True,fun a=>orX (Zks a.1 a.2) .non⟩
theorem Zs6 (T:Txt K mg) {f:Addr}{fd:FuncData} (F:Fun K "check_pit" "check_pit" Zo6 f fd):Jd P w K mg base (CX1 P w) 4 f fd ["board", "pit"] (spF K 2 .P (W1 K) Zo0.fn):=by
 have Ztv:=Zcy (P:=P) (w:=w) (base:=base) T.Ztu Ztq (fun F=>Ztl T F)
 obtain⟨C_BadPit,hC_BadPit,hQ_BadPit⟩:=VA T.x_exc (n := "BadPit") (by decide)
 refine F.okX Zs4 rfl rfl (fun cdv A outer s H E hr=>?_)
 have hu:=hr.units
 refine⟨_,_,⟨[.S,.S],[],[],.P⟩,rfl,(Zk (ZV (Ul (Vy (ZS Ztv (hr.mono (by decide)) rfl (Za (pv 0) (Za (pv 1) Zf))))) (Zk (Uo QN hQ_BadPit rfl (T.x_mg _ _ hC_BadPit) rfl (Za Jg Zf))) Z6)),
   (ZZ (U0 (ZeC (DE.toA (Znd (Zh (Zh Zr)) (Pm.calm_fn Zfk) (Zb (Zc (i:=0) (m:=.S) rfl (by decide)) (Zb (Zc (i:=1) (m:=.S) rfl (by decide)) Zi))))))
   (U2 hC_BadPit (Zh Zr) (by decide) (Zb (DE.toA Jh) Zi))
   Z7), ?_⟩
 refine Pm.ref Zo0 (g:=fun xs=>_) ?_
 rintro⟨ns,p⟩ -
 simp only[Zo0]
 walk_at "pd"
 rw[ZqP]
 walk_at "pd"
 by_cases h:0<=p/\p<ns.length
 ·rw[decide_eq_true h,show Zks ns p=none from if_pos h];walk_at "pd" <;> rfl
 ·rw[decide_eq_false h,show Zks ns p=(some "BadPit":Option Str) from if_neg h];walk_at "pd" <;> rfl
theorem Zpj {ns:List Int}{p:Int}:Zo0.fn [.lst (ns.map PV.int),.int p]=orX (Zks ns p) .non:=Pm.fn_eq Zo0 (ns,p) trivial fun(a:List Int×Int) e=>by (simp only[Zo0,List.cons.injEq,PV.lst.injEq,PV.int.injEq,PV.str.injEq,PV.bl.injEq,PV.tup.injEq,VG,and_true] at e ⊢;first|(simp only[e];done)|(subst e;rfl)|(rw[e]))
noncomputable def ZnL:Pm:=⟨List Int×Int,fun a=>[.lst (a.1.map PV.int),.int a.2],fun a=>a.1.length<=1000,fun a=>orX (stX a.1 a.2) .non⟩
theorem Zpy (T:Txt K mg) {f:Addr}{fd:FuncData} (F:Fun K "check_standing" "check_standing" ZnP f fd):Jd P w K mg base (CX1 P w) 6 f fd ["board", "pit"] (spF K 2 .P (W1 K) ZnL.fn):=by
 have ZpI:=UZ (P:=P) (w:=w) (base:=base) T.ZqO Zq5 (fun F=>Zq4 T F)
 have ZsV:=UZ (P:=P) (w:=w) (base:=base) T.ZsP ZsC (fun F=>Zs6 T F)
 obtain⟨C_NoSeeds,hC_NoSeeds,hQ_NoSeeds⟩:=VA T.x_exc (n := "NoSeeds") (by decide)
 refine F.okX ZqT rfl rfl (fun cdv A outer s H E hr=>?_)
 have hu:=hr.units
 refine⟨_,_,⟨[.S,.S],[],[],.P⟩,rfl,(Ze (ZN (Jk ZpI (hr.mono (by decide)) rfl JT (Za (pv 0) Zf)))
   (Ze (ZN (Jk ZsV (hr.mono (by decide)) rfl JT (Za (pv 0) (Za (pv 1) Zf))))
   (Zk (ZV (Zx (Ja (K:=K) hu) (ZO (Zu (K:=K)) (pv 0) (pv 1) (fun _ _=>rfl)) Zl (Z9 _)) (Zk (Uo QN hQ_NoSeeds rfl (T.x_mg _ _ hC_NoSeeds) rfl (Za Jg Zf))) Z6)))),
   (Zm (Γm:=[.S,.S]) (Zaf (DE.toA (ZkX (Zh Zr) (Zb (Zc (i:=0) (m:=.S) rfl (by decide)) Zi))))
   (Zm (Γm:=[.S,.S]) (Zaf (DE.toA (ZkX (Zh (Zh Zr)) (Zb (Zc (i:=0) (m:=.S) rfl (by decide)) (Zb (Zc (i:=1) (m:=.S) rfl (by decide)) Zi)))))
   (ZZ (Zw (DE.toA (ZM (g:=id) (ZB (te:=tC .non) (Zc (i:=0) (m:=.S) rfl (by decide)) (Zc (i:=1) (m:=.S) rfl (by decide))) (DE.toA Zj))))
   (U2 hC_NoSeeds (Zh Zr) (by decide) (Zb (DE.toA Jh) Zi))
   Z7))), ?_⟩
 refine Pm.ref ZnL (g:=fun xs=>_) ?_
 rintro⟨ns,p⟩ (hn:ns.length<=1000)
 simp only[ZnL]
 walk_at "pu"
 rw[ZoD hn,stX]
 by_cases h:J3 ns=true
 ·rw[if_pos h,if_pos h]
  simp only[orX]
  walk_at "pu"
  rw[Zpj,Zks]
  by_cases h1:0<=p/\p<ns.length
  ·rw[if_pos h1,if_pos h1]
   simp only[orX]
   walk_at "pu"
   rw[ZP h1.1 h1.2]
   walk_at "pu"
   by_cases h2:ns.getD p.toNat 0=0
   ·rw[decide_eq_true h2,if_pos h2];walk_at "pu"
   ·rw[decide_eq_false h2,if_neg h2];walk_at "pu"
  ·rw[if_neg h1,if_neg h1]
   simp only[orX]
   walk_at "pu"
 ·rw[if_neg h,if_neg h]
  simp only[orX]
  walk_at "pu"
theorem Zok {ns:List Int}{p:Int} (h:ns.length<=1000):ZnL.fn [.lst (ns.map PV.int),.int p]=orX (stX ns p) .non:=Pm.fn_eq ZnL (ns,p) h fun⟨ns',k'⟩ e=>by
 simp only[ZnL,List.cons.injEq,PV.lst.injEq,PV.int.injEq,and_true] at e ⊢
 rw[Jb e.1,e.2]
noncomputable def Zo3:Pm:=⟨List Int×Int,fun a=>[.lst (a.1.map PV.int),.int a.2],fun a=>0<=a.2/\a.2<a.1.length/\a.1.length<=1000,fun a=>.ok (UY (Zb7 a))⟩
theorem ZsY (T:Txt K mg) {f:Addr}{fd:FuncData} (F:Fun K "sow_pit" "sow_pit" ZoT f fd):Jd P w K mg base CX0 1 f fd ["board", "pit"] (spF K 2 .F W0 Zo3.fn):=by
 refine F.okP ZoH rfl rfl (fun cdv A outer s H E hr=>?_)
 have hu:=hr.units
 refine⟨_,_,⟨[],[],[],.F⟩,rfl,(Ze (Zy (i:=2) ZoH.nd rfl (by first|exact Or.inl rfl|exact Or.inr rfl) (Zv (ZQ (K:=K)) rfl T.z_len JR (Za (pv 0) Zf)))
   (Ze (Zy (i:=3) ZoH.nd rfl (by first|exact Or.inl rfl|exact Or.inr rfl) (ZF Jf (ZO (Zu (K:=K)) (pv 0) (pv 1) (fun _ _=>rfl)) (pv 2)))
   (Ze (Zy (i:=4) ZoH.nd rfl (by first|exact Or.inl rfl|exact Or.inr rfl) (ZF Ju (ZO (Zu (K:=K)) (pv 0) (pv 1) (fun _ _=>rfl)) (pv 2)))
   (Ze (Zaz (i:=5) ZoH.nd rfl (J6 (K:=K) (pv 0)) (fun _ _ _ _=>(ZF Uq (pv 8) (pv 3))) rfl)
   (Ze (UN (pv 3) (ZbI (pv 5) (pv 1) Vi))
   (Ze (Zy (i:=6) ZoH.nd rfl (by first|exact Or.inl rfl|exact Or.inr rfl) (pv 1))
   (Ze (QB PassesOwn.never rfl (QC rfl T.z_range (Za (pv 4) Zf)) (Jq (i:=7) ZoH.nd rfl (by first|exact Or.inl rfl|exact Or.inr rfl)) (Ze (Zy (i:=6) ZoH.nd rfl (by first|exact Or.inl rfl|exact Or.inr rfl) (ZF Ju (ZF Uq (pv 6) Zl) (pv 2)))
   (Zk (Zff (pv 5) (pv 6) (Zcd (K:=K)) Zl Zit Vi))))
   (Zk (Z1 (JJ (Za (pv 5) (Za (pv 6) Zf)))))))))))),
   (Zm (Γm:=[.S,.S,.P,.U,.U,.U,.U,.U]) (Z3 (i:=2) (JO (Zb (Zc (i:=0) (m:=.S) rfl (by decide)) Zi)) (by decide))
   (Zm (Γm:=[.S,.S,.P,.P,.U,.U,.U,.U]) (Z3 (i:=3) (JP (ZB (te:=tC .non) (Zc (i:=0) (m:=.S) rfl (by decide)) (Zc (i:=1) (m:=.S) rfl (by decide))) (DE.toA (Zg (i:=2) rfl))) (by decide))
   (Zm (Γm:=[.S,.S,.P,.P,.P,.U,.U,.U]) (Z3 (i:=4) (Jv (ZB (te:=tC .non) (Zc (i:=0) (m:=.S) rfl (by decide)) (Zc (i:=1) (m:=.S) rfl (by decide))) (DE.toA (Zg (i:=2) rfl))) (by decide))
   (Zm (Γm:=[.S,.S,.P,.P,.P,.O,.U,.U]) (ZaC (i:=5) (Vn (DI.c (Vm (V6 (i:=0) rfl))) (DE.PF (U5 (Zc (i:=8) (m:=.S) rfl (by decide)) (DE.toA (Zg (i:=3) rfl))))) (by decide))
   (Zm (Γm:=[.S,.S,.P,.P,.P,.O,.U,.U]) (V5 (i:=5) rfl (Zg (i:=3) rfl) (Zc (i:=1) (m:=.S) rfl (by decide)))
   (Zm (Γm:=[.S,.S,.P,.P,.P,.O,.P,.U]) (Z3 (i:=6) (DE.grd (Zc (i:=1) (m:=.S) rfl (by decide))) (by decide))
   (Zm (Γm:=[.S,.S,.P,.P,.P,.O,.P,.U]) (Zae (Γl:=[.S,.S,.P,.P,.P,.O,.P,.U]) (ZcM (Zb (DE.toA (Zg (i:=4) rfl)) Zi)) rfl (Ziw (i:=7) (by decide))
   (DS.out (Y:=⟨[.S,.S,.P,.P,.P,.O,.P,.P],[.S,.S,.P,.P,.P,.O,.P,.U],[.S,.S,.P,.P,.P,.O,.P,.U],.F⟩) (Y':=⟨[.S,.S,.P,.P,.P,.O,.P,.U],[.S,.S,.P,.P,.P,.O,.P,.U],[.S,.S,.P,.P,.P,.O,.P,.U],.F⟩) (Zm (Γm:=[.S,.S,.P,.P,.P,.O,.P,.P]) (Z3 (i:=6) (Jv (DE.toA (U5 (DE.toA (Zg (i:=6) rfl)) (DE.toA Zj))) (DE.toA (Zg (i:=2) rfl))) (by decide))
   (ZdQ (i:=5) rfl rfl (DE.toA (Zg (i:=6) rfl)) (DE.toA Zj))) rfl rfl rfl rfl))
   (JU (Zgd (Z4 (Zbj (i:=5) rfl) (Z4 (DE.PF (Zg (i:=6) rfl)) Je))))))))))), ?_⟩
 refine Pm.ref Zo3 (g:=fun xs=>_) ?_
 rintro⟨ns,p⟩ ⟨h0,h1,h2⟩
 simp only at h0 h1 h2
 simp only[Zo3]
 walk_at "pu"
 rw[ZP h0 h1]
 walk_at "pu"
 rw[Zfu (Zgs 3 (by omega) (by omega))]
 walk_at "pu"
 rw[ZP h0 h1]
 walk_at "pu"
 rw[VW (show (0:Int)<ns.length by omega)]
 walk_at "pu"
 rw[ZcC (by simp;omega)]
 walk_at "pu"
 have hc:Zbc (fun x=>Zmf x (.int (ns.getD p.toNat 0/ns.length))) (ns.map PV.int)=.ok ((ns.map fun z=>z+ns.getD p.toNat 0/ns.length).map PV.int):=by
  rw[ZcB (g:=fun x=>match x with|.int z=>PV.int (z+ns.getD p.toNat 0/ns.length)|_=>.non)]
  ·simp[Function.comp_def]
  ·intro x hx
   obtain⟨z,_,rfl⟩:=Zub.mp hx
   rfl
 rw[hc]
 walk_at "pu"
 rw[Vc h0 (by simp;omega),Zdj h0 h1]
 walk_at "pu"
 have o0:=ZtV (ns.getD p.toNat 0) (show (ns.length:Int)≠0 by omega)
 have o1:=ZtR (ns.getD p.toNat 0) (show (0:Int)<ns.length by omega)
 rw[Zd1 (by omega)]
 walk_at "pu"
 generalize hs:ns.getD p.toNat 0/ns.length=rounds
 generalize ho:ns.getD p.toNat 0%ns.length=over at o0 o1
 generalize hb:(fun(x:PV) (ρ:List PV)=>_)=body
 obtain⟨ρ',e1,e2⟩:=Qw (b:=body) (xs:=Zel 0 over.toNat) (ρ:=[.lst (ns.map PV.int),.int p,.int ns.length,.int rounds,.int over,.lst ((tab ns.length (Zb8 ns p 0)).map PV.int),.int p,.non])
  (fun i ρ=>∃v,ρ=[.lst (ns.map PV.int),.int p,.int ns.length,.int rounds,.int over,.lst ((tab ns.length (Zb8 ns p i)).map PV.int),.int ((p+i)%ns.length),v]) ⟨_,by rw[Zu5,Int.add_zero,ZtZ h0 h1]⟩ (by
  rintro i x ρ hx ⟨v,rfl⟩
  obtain⟨hi,rfl⟩:=Qo hx
  subst hb
  have m1:=UD h0 h1 (show (0:Int)<=i by omega) (by omega)
  have m2:=UD h0 h1 (show (0:Int)<=(i:Int)+1 by omega) (by omega)
  have e:((p+(i:Int))%ns.length+1)%ns.length=(p+((i:Int)+1))%ns.length:=by
   rw[m1,m2]
   split
   ·rw[show p+(i:Int)+1=p+((i:Int)+1) by omega,m2]
   ·rw[ZtZ (by omega) (by omega)];split<;>omega
  have b:0<=(p+((i:Int)+1))%ns.length/\(p+((i:Int)+1))%ns.length<ns.length:=by rw[m2];split<;>omega
  walk_at "pu"
  rw[VW (by omega)]
  walk_at "pu"
  rw[e,ZP b.1 (by rw[ZK];exact b.2)]
  walk_at "pu"
  rw[VT (by omega)]
  have hst:=Zdk h0 h1 (i:=i) (by omega)
  have hset:=Vc (ns:=tab ns.length (Zb8 ns p i)) (k:=(p+((i:Int)+1))%ns.length) (y:=Zb8 ns p i ((p+((i:Int)+1))%ns.length).toNat+1) b.1 (by rw[ZK];exact b.2)
  rw[hst] at hset
  rw[hset]
  walk_at "pu"
  exact Vk ⟨_,by rw[show ((i+1:Nat):Int)=(i:Int)+1 by omega]⟩)
 obtain⟨v,rfl⟩:=e2
 rw[e1]
 walk_at "pu"
 rw[Vj,Zum o0]
 show Rr.ok (PV.tup _)=Rr.ok (PV.tup _)
 unfold Zb7 ZgC ZeT
 rw[ho]
theorem Zqr {ns:List Int}{p:Int} (h:0<=p/\p<ns.length/\ns.length<=1000):Zo3.fn [.lst (ns.map PV.int),.int p]=.ok (UY (Zb7 (ns,p))):=
 Pm.fn_eq Zo3 (ns,p) h fun⟨ns',k'⟩ e=>by
  simp only[Zo3,List.cons.injEq,PV.lst.injEq,PV.int.injEq,and_true] at e ⊢
  rw[Jb e.1,e.2]
theorem Zem:Zo3.calm:=fun a q h=>by (simp only[Zo3] at h;cases h)
noncomputable def Zp5:Pm:=⟨List Int×Int,fun a=>[.lst (a.1.map PV.int),.int a.2],fun a=>a.1.length<=1000,fun a=>orX (stX a.1 a.2) (UY (Zb7 a))⟩
theorem ZsL (T:Txt K mg) {f:Addr}{fd:FuncData} (F:Fun K "sown" "sown" Zrv f fd):Jd P w K mg base (CX1 P w) 7 f fd ["board", "pit"] (spF K 2 .F (W1 K) Zp5.fn):=by
 have Zpe:=UZ (P:=P) (w:=w) (base:=base) T.ZpN Zp3 (fun F=>Zpy T F)
 have Zts:=Zcy (P:=P) (w:=w) (base:=base) T.Zto Ztd (fun F=>ZsY T F)
 refine F.okX Ztw rfl rfl (fun cdv A outer s H E hr=>?_)
 have hu:=hr.units
 refine⟨_,_,⟨[],[],[],.F⟩,rfl,(Ze (ZN (Jk Zpe (hr.mono (by decide)) rfl JT (Za (pv 0) (Za (pv 1) Zf))))
   (Zk (Z1 (ZS Zts (hr.mono (by decide)) rfl (Za (pv 0) (Za (pv 1) Zf)))))),
   (Zm (Γm:=[.S,.S]) (Zaf (DE.toA (ZkX (Zh (Zh Zr)) (Zb (Zc (i:=0) (m:=.S) rfl (by decide)) (Zb (Zc (i:=1) (m:=.S) rfl (by decide)) Zi)))))
   (JU (Zne (Zh (Zh Zr)) (Pm.calm_fn Zem) (Zb (Zc (i:=0) (m:=.S) rfl (by decide)) (Zb (Zc (i:=1) (m:=.S) rfl (by decide)) Zi))))), ?_⟩
 refine Pm.ref Zp5 (g:=fun xs=>_) ?_
 rintro⟨ns,p⟩ (hn:ns.length<=1000)
 simp only[Zp5]
 walk_at "pu"
 rw[Zok hn]
 cases h:stX ns p with
 |some n=>simp only[orX];walk_at "pu"
 |none =>
  simp only[orX]
  walk_at "pu"
  rw[Zqr (J5.mp h).sowOk]
  rfl
theorem Zsn {ns:List Int}{p:Int} (h:ns.length<=1000):Zp5.fn [.lst (ns.map PV.int),.int p]=orX (stX ns p) (UY (Zb7 (ns,p))):=
 Pm.fn_eq Zp5 (ns,p) h fun⟨ns',k'⟩ e=>by
  simp only[Zp5,List.cons.injEq,PV.lst.injEq,PV.int.injEq,and_true] at e ⊢
  rw[Jb e.1,e.2]
theorem Zcp {ns:List Int}{p:Int} (h:Vs ns p):Zp5.fn [.lst (ns.map PV.int),.int p]=.ok (UY (Zb7 (ns,p))):=by
 rw[Zsn (by have:=h.bd.hi;omega),J5.mpr h];rfl
noncomputable def ZnK:Pm:=⟨List Int×Int,fun a=>[.lst (a.1.map PV.int),.int a.2],fun a=>0<=a.2/\a.2<a.1.length/\a.1.length<=1000/\∀x∈a.1,0<=x/\x<=10^60,fun a=>.ok (UY (tbS a))⟩
theorem ZrI (T:Txt K mg) {f:Addr}{fd:FuncData} (F:Fun K "take_back_at" "take_back_at" Zob f fd):Jd P w K mg base CX0 1 f fd ["board", "pit"] (spF K 2 .F W0 ZnK.fn):=by
 refine F.okP ZnS rfl rfl (fun cdv A outer s H E hr=>?_)
 have hu:=hr.units
 refine⟨_,_,⟨[],[],[],.F⟩,rfl,(Ze (Zy (i:=2) ZnS.nd rfl (by first|exact Or.inl rfl|exact Or.inr rfl) (Zv (ZQ (K:=K)) rfl T.z_len JR (Za (pv 0) Zf)))
   (Ze (Zy (i:=3) ZnS.nd rfl (by first|exact Or.inl rfl|exact Or.inr rfl) (Zv (Ze6 (K:=K) rfl) rfl T.z_min Zly (Za (pv 0) Zf)))
   (Ze (Zaz (i:=4) ZnS.nd rfl (J6 (K:=K) (pv 0)) (fun _ _ _ _=>(ZF UP (pv 7) (pv 3))) rfl)
   (Ze (Zy (i:=5) ZnS.nd rfl (by first|exact Or.inl rfl|exact Or.inr rfl) (ZF Zfy (pv 3) (pv 2)))
   (Ze (Zy (i:=6) ZnS.nd rfl (by first|exact Or.inl rfl|exact Or.inr rfl) (pv 1))
   (Ze (Zds PassesOwn.never (Zx Zk4 (ZO (Zu (K:=K)) (pv 4) (pv 6) (fun _ _=>rfl)) Zl (Z9 _)) (Ze (Zff (pv 4) (pv 6) (Zcd (K:=K)) Zl ZkN Vi)
   (Ze (Zkr (i:=5) ZnS.nd rfl (by first|exact Or.inl rfl|exact Or.inr rfl) Zl Zit)
   (Zk (Zy (i:=6) ZnS.nd rfl (by first|exact Or.inl rfl|exact Or.inr rfl) (ZF Ju (ZF UP (pv 6) Zl) (pv 2)))))))
   (Ze (UN (pv 5) (ZbI (pv 4) (pv 6) Vi))
   (Zk (Z1 (JJ (Za (pv 4) (Za (pv 6) Zf)))))))))))),
   (Zm (Γm:=[.S,.S,.P,.U,.U,.U,.U]) (Z3 (i:=2) (JO (Zb (Zc (i:=0) (m:=.S) rfl (by decide)) Zi)) (by decide))
   (Zm (Γm:=[.S,.S,.P,.P,.U,.U,.U]) (Z3 (i:=3) (Zle (Zb (Zc (i:=0) (m:=.S) rfl (by decide)) Zi)) (by decide))
   (Zm (Γm:=[.S,.S,.P,.P,.O,.U,.U]) (ZaC (i:=4) (Vn (DI.c (Vm (V6 (i:=0) rfl))) (DE.PF (UV (Zc (i:=7) (m:=.S) rfl (by decide)) (DE.toA (Zg (i:=3) rfl))))) (by decide))
   (Zm (Γm:=[.S,.S,.P,.P,.O,.P,.U]) (Z3 (i:=5) (Zix (DE.toA (Zg (i:=3) rfl)) (DE.toA (Zg (i:=2) rfl))) (by decide))
   (Zm (Γm:=[.S,.S,.P,.P,.O,.P,.P]) (Z3 (i:=6) (DE.grd (Zc (i:=1) (m:=.S) rfl (by decide))) (by decide))
   (Zm (Γm:=[.S,.S,.P,.P,.O,.P,.P]) (ZdO (Γ:=[.S,.S,.P,.P,.O,.P,.P]) (Zw (DE.toA (Zlg (ZB (te:=tC .non) (Zc (i:=4) (m:=.O) rfl (by decide)) (DE.toA (Zg (i:=6) rfl))) (DE.toA Zj))))
   (Zm (Γm:=[.S,.S,.P,.P,.O,.P,.P]) (ZdQ (i:=4) rfl rfl (DE.toA (Zg (i:=6) rfl)) (DE.toA Zj))
   (Zm (Γm:=[.S,.S,.P,.P,.O,.P,.P]) (Zjp (i:=5) rfl (DE.toA Zj))
   (Z3 (i:=6) (Jv (DE.toA (UV (DE.toA (Zg (i:=6) rfl)) (DE.toA Zj))) (DE.toA (Zg (i:=2) rfl))) (by decide)))))
   (Zm (Γm:=[.S,.S,.P,.P,.O,.P,.P]) (V5 (i:=4) rfl (Zg (i:=5) rfl) (DE.toA (Zg (i:=6) rfl)))
   (JU (Zgd (Z4 (Zbj (i:=4) rfl) (Z4 (DE.PF (Zg (i:=6) rfl)) Je))))))))))), ?_⟩
 refine Pm.ref ZnK (g:=fun xs=>_) ?_
 rintro⟨ns,q⟩ ⟨h0,h1,h2,h3⟩
 simp only at h0 h1 h2 h3
 simp only[ZnK]
 have hne:ns≠[]:=by intro e;rw[e] at h1;simp at h1;omega
 have hm:=h3 _ (VB hne)
 obtain⟨j1,j2,j3⟩:=ZaL h0 h1
 walk_at "pu"
 rw[Zfq hne]
 walk_at "pu"
 rw[ZcC (by simp;omega)]
 walk_at "pu"
 have hc:Zbc (fun x=>Zma x (.int (UR ns))) (ns.map PV.int)=.ok ((tab ns.length (tbF ns q 0)).map PV.int):=by
  have e:tab ns.length (tbF ns q 0)=ns.map fun z=>z-UR ns:=by
   refine(Q3 (by simp) fun x hx=>?_).symm
   have b:=ZtV (q-(x:Int)) (show (ns.length:Int)≠0 by omega)
   unfold tbF
   rw[if_neg (by omega)]
   simp[Zt5,Zt6 hx]
  rw[e,ZcB (g:=fun x=>match x with|.int z=>PV.int (z-UR ns)|_=>.non)]
  ·simp[Function.comp_def]
  ·intro x hx
   obtain⟨z,_,rfl⟩:=Zub.mp hx
   rfl
 rw[hc]
 walk_at "pu"
 rw[Zfp (Zgr 60 3 (by omega) (by omega))]
 walk_at "pu"
 generalize hcd:(fun(ρ:List PV)=>((pIx (gv 4 ρ) (gv 6 ρ)).bind _).bind asB)=cond
 generalize hb:(fun(ρ:List PV)=>RS.seq _ _)=body
 have key:=ZeE (c:=cond) (b:=body) (fun ρ=>∃i:Nat,i<=tbJ ns q/\ρ=[.lst (ns.map PV.int),.int q,.int ns.length,.int (UR ns),.lst ((tab ns.length (tbF ns q i)).map PV.int),.int (UR ns*ns.length+i),.int ((q-i)%ns.length)])
  (fun ρ=>match gv 5 ρ with|.int t=>(UR ns*ns.length+ns.length-t).toNat|_=>0)
  (r:=.next [.lst (ns.map PV.int),.int q,.int ns.length,.int (UR ns),.lst ((tab ns.length (tbF ns q (tbJ ns q))).map PV.int),.int (tbT ns q),.int (tbP ns q)]) (by
  rintro ρ ⟨i,hi,rfl⟩
  have m1:=Jr (n:=ns.length) h0 h1 (show (0:Int)<=i by omega) (by omega)
  have b:0<=(q-(i:Int))%ns.length/\(q-(i:Int))%ns.length<ns.length:=by rw[m1];split<;>omega
  have ix:pIx (.lst ((tab ns.length (tbF ns q i)).map PV.int)) (.int ((q-(i:Int))%ns.length))=.ok (.int (tbG ns q i)):=by
   rw[ZP b.1 (by rw[ZK];exact b.2),VT (by omega),ZhV h0 h1 (by omega)]
  by_cases hij:i=tbJ ns q
  ·left
   subst hij
   constructor
   ·subst hcd
    walk_at "pu"
    rw[ix]
    walk_at "pu"
    rw[j3]
    rfl
   ·rfl
  ·right
   have hlt:i<tbJ ns q:=by omega
   constructor
   ·subst hcd
    walk_at "pu"
    rw[ix]
    walk_at "pu"
    rw[decide_eq_true (j2 i hlt)]
   ·left
    have hst:=Zi6 h0 h1 (i:=i) (by omega)
    rw[ZhV h0 h1 (by omega)] at hst
    have hset:=Vc (ns:=tab ns.length (tbF ns q i)) (k:=(q-(i:Int))%ns.length) (y:=tbG ns q i-1) b.1 (by rw[ZK];exact b.2)
    rw[hst] at hset
    have e2:((q-(i:Int))%ns.length-1)%ns.length=(q-((i+1:Nat):Int))%ns.length:=by
     rw[Int.emod_sub_emod];congr 1;omega
    refine⟨[.lst (ns.map PV.int),.int q,.int ns.length,.int (UR ns),.lst ((tab ns.length (tbF ns q (i+1))).map PV.int),.int (UR ns*ns.length+(i+1:Nat)),.int ((q-(i+1:Nat))%ns.length)],.inl ?_,⟨i+1,by omega,rfl⟩, ?_⟩
    ·subst hb
     walk_at "pu"
     rw[ix]
     walk_at "pu"
     rw[hset]
     walk_at "pu"
     walk_at "pu"
     rw[VW (by omega)]
     walk_at "pu"
     rw[e2,show UR ns*(ns.length:Int)+i+1=UR ns*ns.length+(i+1:Nat) by omega]
    ·simp only[ZcI,ZcH]
     omega) _ ⟨0,by omega,by rw[Zu5,Int.add_zero,Int.sub_zero,ZtZ h0 h1]⟩
 rw[key]
 have hb2:=Zb3 (ns:=ns) (q:=q) (by omega)
 walk_at "pu"
 rw[Vc hb2.1 (by rw[ZK];exact hb2.2)]
 walk_at "pu"
 rfl
theorem ZoF {ns:List Int}{q:Int} (h:0<=q/\q<ns.length/\ns.length<=1000/\∀x∈ns,0<=x/\x<=10^60):ZnK.fn [.lst (ns.map PV.int),.int q]=.ok (UY (tbS (ns,q))):=
 Pm.fn_eq ZnK (ns,q) h fun⟨ns',k'⟩ e=>by
  simp only[ZnK,List.cons.injEq,PV.lst.injEq,PV.int.injEq,and_true] at e ⊢
  rw[Jb e.1,e.2]
theorem QG:ZnK.calm:=fun a q h=>by (simp only[ZnK] at h;cases h)
noncomputable def ZnZ:Pm:=⟨List Int×Int,fun a=>[.lst (a.1.map PV.int),.int a.2],fun a=>a.1.length<=1000,fun a=>orX (stX a.1 a.2) (UY (tbS a))⟩
theorem ZpA (T:Txt K mg) {f:Addr}{fd:FuncData} (F:Fun K "taken_back" "taken_back" Zow f fd):Jd P w K mg base (CX1 P w) 7 f fd ["board", "pit"] (spF K 2 .F (W1 K) ZnZ.fn):=by
 have Zpe:=UZ (P:=P) (w:=w) (base:=base) T.ZpN Zp3 (fun F=>Zpy T F)
 have Zsl:=Zcy (P:=P) (w:=w) (base:=base) T.Zsg ZrV (fun F=>ZrI T F)
 refine F.okX Zso rfl rfl (fun cdv A outer s H E hr=>?_)
 have hu:=hr.units
 refine⟨_,_,⟨[],[],[],.F⟩,rfl,(Ze (ZN (Jk Zpe (hr.mono (by decide)) rfl JT (Za (pv 0) (Za (pv 1) Zf))))
   (Zk (Z1 (ZS Zsl (hr.mono (by decide)) rfl (Za (pv 0) (Za (pv 1) Zf)))))),
   (Zm (Γm:=[.S,.S]) (Zaf (DE.toA (ZkX (Zh (Zh Zr)) (Zb (Zc (i:=0) (m:=.S) rfl (by decide)) (Zb (Zc (i:=1) (m:=.S) rfl (by decide)) Zi)))))
   (JU (Zne (Zh (Zh Zr)) (Pm.calm_fn QG) (Zb (Zc (i:=0) (m:=.S) rfl (by decide)) (Zb (Zc (i:=1) (m:=.S) rfl (by decide)) Zi))))), ?_⟩
 refine Pm.ref ZnZ (g:=fun xs=>_) ?_
 rintro⟨ns,p⟩ (hn:ns.length<=1000)
 simp only[ZnZ]
 walk_at "pu"
 rw[Zok hn]
 cases h:stX ns p with
 |some n=>simp only[orX];walk_at "pu"
 |none =>
  simp only[orX]
  walk_at "pu"
  rw[ZoF (J5.mp h).tbOk]
  rfl
theorem ZoM {ns:List Int}{p:Int} (h:ns.length<=1000):ZnZ.fn [.lst (ns.map PV.int),.int p]=orX (stX ns p) (UY (tbS (ns,p))):=
 Pm.fn_eq ZnZ (ns,p) h fun⟨ns',k'⟩ e=>by
  simp only[ZnZ,List.cons.injEq,PV.lst.injEq,PV.int.injEq,and_true] at e ⊢
  rw[Jb e.1,e.2]
theorem V9 {ns:List Int}{p:Int} (h:Vs ns p):ZnZ.fn [.lst (ns.map PV.int),.int p]=.ok (UY (tbS (ns,p))):=by
 rw[ZoM (by have:=h.bd.hi;omega),J5.mpr h];rfl
theorem Zir {p:Option Addr}{q:List PV} (h:PV.flats q=true):isLs (.box p .ls q)=.ok .non:=if_pos h
theorem Zjb {p:Option Addr}{q:List PV}{y:PV} (h:PV.flats q=true) (h2:q.length<1000000):appLs (.box p .ls q) y=.ok (.box p .ls (q++[y])):=if_pos ⟨h,h2⟩
theorem Zmk {α:Type}{p:Option Addr}{q:α->PV} (hq:∀a,(q a).flat=true) {L:List α} (d:α) (h:L.length≠0):popLs (.box p .ls (L.map q))=.ok (q (L.getD (L.length-1) d),.box p .ls (L.dropLast.map q)):=by
 show (popL (L.map q)).bind _=_
 rw[ZlA hq d h];rfl
theorem Zhr {y:PV}{a0 a1 a2:Addr}{z0 z1 z2:List PV} (h0:PV.flats z0=true) (h1:PV.flats z1=true) (h2:PV.flats z2=true):ZlT y (.box (some a0) .ls z0) (.box (some a1) .ls z1) (.box (some a2) .ls z2)=.ret (.tup [y,.box (some a0) .ls z0,.box (some a1) .ls z1,.box (some a2) .ls z2]):=if_pos ⟨h0,h1,h2⟩
noncomputable def Zo8:Pm:=⟨Bk×Int×Int,fun a=>[.lst (a.1.bs.map fzI),.lst (a.1.ds.map dd3),.lst (a.1.us.map UL),.int a.2.1,.int a.2.2],fun a=>BkG 100 a.1/\0<=a.2.1/\a.2.1<=3,fun a=>.ok (.tup [JF a.1 a.2.1 a.2.2,.lst ((nxK a.1 a.2.1 a.2.2).bs.map fzI),.lst ((nxK a.1 a.2.1 a.2.2).ds.map dd3),.lst ((nxK a.1 a.2.1 a.2.2).us.map UL)])⟩
theorem ZsO (T:Txt K mg) {f:Addr}{fd:FuncData} (F:Fun K "_law_due" "_law_due" ZoK f fd):Jd P w K mg base CX0 8 f fd ["boards", "deeds", "gone", "way", "pit"] (ZlR K 2 Zo8.fn):=by
 have ZsE:=UZ (P:=P) (w:=w) (base:=base) T.Ztn ZsR (fun F=>ZsL T F)
 have ZoZ:=UZ (P:=P) (w:=w) (base:=base) T.Zqn ZpE (fun F=>ZpA T F)
 refine F.okM3 (n:=2) Zo5 rfl rfl (fun cdv A outer s H E hr=>?_)
 have hu:=hr.units
 refine⟨_,_,⟨[],[],[],.M⟩,rfl,(Ze (ZV (PW.pt (QA (Zx (Ja (K:=K) hu) (pv 3) Zl (Z9 _)) (Uk (Zx (Ja (K:=K) hu) (pv 3) Zl (Z9 _))))) (Ze (ZV (Zx (Ja (K:=K) hu) (Zv (ZQ (K:=K)) rfl T.z_len JR (Za (ZO (Zu (K:=K)) (Jt (Za (pv 1) (Za (pv 2) Zf))) (ZF UP (pv 3) Zl) (fun _ _=>rfl)) Zf)) Zl (Z9 _)) (Zk (Z1 Jg)) Z6)
   (Ze (ZV (Zx (Ja (K:=K) hu) (pv 3) Zl (Z9 _)) (Zk (ZN (Vr PySem.F.plainAttrs_list PySem.F.slot_list_append PySem.F.type_list_append ZL (pv 2) (Za (JJ (Za (QF PySem.F.plainAttrs_list PySem.F.slot_list_pop PySem.F.type_list_pop Za2 (pv 1)) (Za (QF PySem.F.plainAttrs_list PySem.F.slot_list_pop PySem.F.type_list_pop Za2 (pv 0)) Zf))) Zf)))) (Ze (UN (QF PySem.F.plainAttrs_list PySem.F.slot_list_pop PySem.F.type_list_pop Za2 (pv 2)) (Zdv rfl (JI (Jq (i:=5) Zo5.nd rfl (by first|exact Or.inl rfl|exact Or.inr rfl)) (JI (Jq (i:=6) Zo5.nd rfl (by first|exact Or.inl rfl|exact Or.inr rfl)) ZaS))))
   (Ze (ZN (Vr PySem.F.plainAttrs_list PySem.F.slot_list_append PySem.F.type_list_append ZL (pv 1) (Za (pv 5) Zf)))
   (Zk (ZN (Vr PySem.F.plainAttrs_list PySem.F.slot_list_append PySem.F.type_list_append ZL (pv 0) (Za (pv 6) Zf)))))))
   (Zk (Z1 Zdx)))) Z6)
   (Ze (Zy (i:=6) Zo5.nd rfl (by first|exact Or.inl rfl|exact Or.inr rfl) (ZO (Zu (K:=K)) (pv 0) (QD Vv Zl) (fun _ _=>rfl)))
   (Ze (ZV (PW.pt (QA (Zx Zhl (pv 4) Zl (Z9 _)) (Uk (Zx Zhm (pv 4) (Zv (ZQ (K:=K)) rfl T.z_len JR (Za (pv 6) Zf)) (Z9 _))))) (Zk (Z1 Jg)) Z6)
   (Ze (ZV (Zx (Ja (K:=K) hu) (ZO (Zu (K:=K)) (pv 6) (pv 4) (fun _ _=>rfl)) Zl (Z9 _)) (Zk (Z1 Jg)) Z6)
   (Ze (ZN (QF PySem.F.plainAttrs_list PySem.F.slot_list_clear PySem.F.type_list_clear Zhp (pv 2)))
   (Ze (ZV (Zx (Ja (K:=K) hu) (pv 3) Zl (Z9 _)) (Ze (UN (Vz (Jk ZsE (hr.mono (by decide)) rfl QH (Za (J1 (JA (K:=K)) rfl T.z_list JX (Za (pv 6) Zf)) (Za (pv 4) Zf)))) (Zdv rfl (JI (Jq (i:=7) Zo5.nd rfl (by first|exact Or.inl rfl|exact Or.inr rfl)) (JI (Jq (i:=8) Zo5.nd rfl (by first|exact Or.inl rfl|exact Or.inr rfl)) ZaS))))
   (Zk (ZN (Vr PySem.F.plainAttrs_list PySem.F.slot_list_append PySem.F.type_list_append ZL (pv 1) (Za (JJ (Za Jg (Za (pv 4) (Za (ZO (Zu (K:=K)) (pv 6) (pv 4) (fun _ _=>rfl)) Zf)))) Zf))))) (Ze (UN (Vz (Jk ZoZ (hr.mono (by decide)) rfl QH (Za (J1 (JA (K:=K)) rfl T.z_list JX (Za (pv 6) Zf)) (Za (pv 4) Zf)))) (Zdv rfl (JI (Jq (i:=7) Zo5.nd rfl (by first|exact Or.inl rfl|exact Or.inr rfl)) (JI (Jq (i:=8) Zo5.nd rfl (by first|exact Or.inl rfl|exact Or.inr rfl)) ZaS))))
   (Zk (ZN (Vr PySem.F.plainAttrs_list PySem.F.slot_list_append PySem.F.type_list_append ZL (pv 1) (Za (JJ (Za Jg (Za (pv 4) (Za (ZF UP Zl (ZO (Zu (K:=K)) (pv 7) (pv 8) (fun _ _=>rfl))) Zf)))) Zf))))))
   (Ze (ZN (Vr PySem.F.plainAttrs_list PySem.F.slot_list_append PySem.F.type_list_append ZL (pv 0) (Za (pv 7) Zf)))
   (Zk (Z1 (pv 8)))))))))),
   (Zm (Γm:=[.O,.O,.O,.S,.S,.U,.U,.U,.U]) (ZZ (Zab (Zw (DE.toA (ZM (g:=id) (Zc (i:=3) (m:=.S) rfl (by decide)) (DE.toA Zj)))) (Zw (DE.toA (ZM (g:=id) (Zc (i:=3) (m:=.S) rfl (by decide)) (DE.toA Zj)))))
   (Zm (Γm:=[.O,.O,.O,.S,.S,.U,.U,.U,.U]) (ZZ (Zw (DE.toA (ZM (g:=id) (DE.toA (JO (Zb (ZB (te:=tC .non) (Zjz (Zb (ZcO (Zc (i:=1) (m:=.O) rfl (by decide))) (Zb (ZcO (Zc (i:=2) (m:=.O) rfl (by decide))) Zi))) (DE.toA (UV (Zc (i:=3) (m:=.S) rfl (by decide)) (DE.toA Zj)))) Zi))) (DE.toA Zj))))
   (Zad Jh rfl rfl rfl)
   Z7)
   (Zm (Γm:=[.O,.O,.O,.S,.S,.U,.U,.U,.U]) (ZZ (Zw (DE.toA (ZM (g:=id) (Zc (i:=3) (m:=.S) rfl (by decide)) (DE.toA Zj))))
   (VJ (i:=2) rfl (ZhA (ZcJ (i:=1) rfl) (ZcJ (i:=0) rfl)))
   (DS.out (Y:=⟨[.O,.O,.O,.S,.S,.P,.P,.U,.U],[],[],.M⟩) (Y':=⟨[.O,.O,.O,.S,.S,.U,.U,.U,.U],[],[],.M⟩) (Zm (Γm:=[.O,.O,.O,.S,.S,.P,.P,.U,.U]) (Zjo (l1:=5) (l2:=6) (ZcJ (i:=2) rfl) (by decide) (by decide))
   (Zm (Γm:=[.O,.O,.O,.S,.S,.P,.P,.U,.U]) (VJ (i:=1) rfl (Zci (Zg (i:=5) rfl)))
   (VJ (i:=0) rfl (Zci (Zg (i:=6) rfl))))) rfl rfl rfl rfl))
   (Zad Zgg rfl rfl rfl)))
   Z7)
   (Zm (Γm:=[.O,.O,.O,.S,.S,.U,.P,.U,.U]) (Z3 (i:=6) (DE.grd (ZB (te:=tC .non) (ZcO (Zc (i:=0) (m:=.O) rfl (by decide))) (DE.toA (V7 (DE.toA Zj))))) (by decide))
   (Zm (Γm:=[.O,.O,.O,.S,.S,.U,.P,.U,.U]) (ZZ (Zab (Zw (DE.toA (ZhH (Zc (i:=4) (m:=.S) rfl (by decide)) (DE.toA Zj)))) (Zw (DE.toA (ZhI (Zc (i:=4) (m:=.S) rfl (by decide)) (DE.toA (JO (Zb (J2 (DE.toA (Zg (i:=6) rfl))) Zi)))))))
   (Zad Jh rfl rfl rfl)
   Z7)
   (Zm (Γm:=[.O,.O,.O,.S,.S,.U,.P,.U,.U]) (ZZ (Zw (DE.toA (ZM (g:=id) (ZB (te:=tC .non) (J2 (DE.toA (Zg (i:=6) rfl))) (Zc (i:=4) (m:=.S) rfl (by decide))) (DE.toA Zj))))
   (Zad Jh rfl rfl rfl)
   Z7)
   (Zm (Γm:=[.O,.O,.O,.S,.S,.U,.P,.U,.U]) (Ze3 (i:=2) rfl)
   (Zm (Γm:=[.O,.O,.O,.S,.S,.U,.P,.P,.P]) (ZZ (Zw (DE.toA (ZM (g:=id) (Zc (i:=3) (m:=.S) rfl (by decide)) (DE.toA Zj))))
   (Zm (Γm:=[.O,.O,.O,.S,.S,.U,.P,.P,.P]) (Zga (DE.PF (V8 (ZlH (Zh (Zh Zr)) (Zb (DE.toA (VL (Zb (J2 (DE.toA (Zg (i:=6) rfl))) Zi))) (Zb (Zc (i:=4) (m:=.S) rfl (by decide)) Zi))))) (Zgb (n:=2) (U3 (ZhD (i:=7) (by decide)) (U3 (ZhD (i:=8) (by decide)) ZdS))))
   (VJ (i:=1) rfl (Zci (DE.grd (JV (Zb (DE.toA Jh) (Zb (Zc (i:=4) (m:=.S) rfl (by decide)) (Zb (ZB (te:=tC .non) (J2 (DE.toA (Zg (i:=6) rfl))) (Zc (i:=4) (m:=.S) rfl (by decide))) Zi))))))))
   (Zm (Γm:=[.O,.O,.O,.S,.S,.U,.P,.P,.P]) (Zga (DE.PF (V8 (ZlH (Zh (Zh Zr)) (Zb (DE.toA (VL (Zb (J2 (DE.toA (Zg (i:=6) rfl))) Zi))) (Zb (Zc (i:=4) (m:=.S) rfl (by decide)) Zi))))) (Zgb (n:=2) (U3 (ZhD (i:=7) (by decide)) (U3 (ZhD (i:=8) (by decide)) ZdS))))
   (VJ (i:=1) rfl (Zci (DE.grd (JV (Zb (DE.toA Jh) (Zb (Zc (i:=4) (m:=.S) rfl (by decide)) (Zb (DE.toA (UV (DE.toA Zj) (ZB (te:=tC .non) (J2 (DE.toA (Zg (i:=7) rfl))) (DE.toA (Zg (i:=8) rfl))))) Zi)))))))))
   (Zm (Γm:=[.O,.O,.O,.S,.S,.U,.P,.P,.P]) (VJ (i:=0) rfl (Zci (Zg (i:=7) rfl)))
   (Zad (Zg (i:=8) rfl) rfl rfl rfl)))))))), ?_⟩
 refine Pm.ref3 Zo8 ?_
 rintro⟨k,w,p⟩ ⟨h0,h1⟩ a0 x0 a1 x1 a2 x2 xs e
 simp only at h0 h1
 cases e
 refine⟨_,_,_,_,rfl, ?_⟩
 have fb:=fun l:List (List Int)=>flats_map J0 l
 have fd:=fun l:List Dd=>flats_map JQ l
 have fu:=fun l:List (Dd×List Int)=>flats_map JB l
 have g1:=h0.bl
 have g2:=h0.dl
 have g3:=h0.ul
 have un0:∀(q:Option Addr) (l:List PV),ZmJ (.box q .ls l)=.lst l:=fun _ _=>rfl
 by_cases w2:w=2
 ·subst w2
  walk_at "pd"
  rw[un0,un0,show ∀x y:PV,pIx (.lst [x,y]) (.int (2-2))=.ok x from fun _ _=>rfl]
  walk_at "pd"
  rw[JK,Zt7]
  walk_at "pd"
  by_cases hz:k.ds.length=0
  ·rw[decide_eq_true (by omega)]
   walk_at "pd"
   rw[Zhr (fb _) (fd _) (fu _)]
   unfold JF nxK
   rw[show Vx k 2 p=(some "NoDeed":Option PySem.Str) by unfold Vx;rw[if_pos rfl,if_pos hz]]
   rfl
  ·rw[decide_eq_false (by omega)]
   walk_at "pd"
   rw[Zir (fu _)]
   walk_at "pd"
   rw[Zmk JQ ("",0,0) hz]
   walk_at "pd"
   rw[Zmk J0 [] (by omega)]
   walk_at "pd"
   rw[Zjb (fu _) (by rw[Zt7];omega)]
   walk_at "pd"
   unfold JF nxK
   rw[show Vx k 2 p=none by unfold Vx;rw[if_pos rfl,if_neg hz]]
   have eu:k.us.map UL++[PV.tup [dd3 (k.ds.getD (k.ds.length-1) ("",0,0)),fzI (k.bs.getD (k.bs.length-1) [])]]=(skU k).us.map UL:=by simp only[skU,ZtU];rfl
   rw[eu,Zhr (fb _) (fd _) (fu _)]
   rfl
 by_cases w3:w=3
 ·subst w3
  walk_at "pd"
  rw[un0,un0,show ∀x y:PV,pIx (.lst [x,y]) (.int (3-2))=.ok y from fun _ _=>rfl]
  walk_at "pd"
  rw[JK,Zt7]
  walk_at "pd"
  by_cases hz:k.us.length=0
  ·rw[decide_eq_true (by omega)]
   walk_at "pd"
   rw[Zhr (fb _) (fd _) (fu _)]
   unfold JF nxK
   rw[show Vx k 3 p=(some "NoDeed":Option PySem.Str) by unfold Vx;rw[if_neg (by decide),if_pos rfl,if_pos hz]]
   rfl
  ·rw[decide_eq_false (by omega)]
   walk_at "pd"
   rw[Zmk JB (("",0,0),[]) hz]
   walk_at "pd"
   rw[show ∀u:Dd×List Int,prP (UL u)=.ok (dd3 u.1,fzI u.2) from fun _=>rfl]
   walk_at "pd"
   rw[Zir (fd _)]
   walk_at "pd"
   rw[Zjb (fd _) (by rw[Zt7];omega)]
   walk_at "pd"
   rw[Zir (fb _)]
   walk_at "pd"
   rw[Zjb (fb _) (by rw[Zt7];omega)]
   walk_at "pd"
   unfold JF nxK
   rw[show Vx k 3 p=none by unfold Vx;rw[if_neg (by decide),if_pos rfl,if_neg hz]]
   have e1:k.bs.map fzI++[fzI (k.us.getD (k.us.length-1) (("",0,0),[])).2]=(skR k).bs.map fzI:=by simp only[skR,ZtU];rfl
   have e2:k.ds.map dd3++[dd3 (k.us.getD (k.us.length-1) (("",0,0),[])).1]=(skR k).ds.map dd3:=by simp only[skR,ZtU];rfl
   rw[e1,e2,Zhr (fb _) (fd _) (fu _)]
   rfl
 have hw:w=0\/w=1:=by omega
 have lb:=h0.last
 have lh:=lb.hi
 have eX:Vx k w p=stX (ZI k) p:=Uj w2 w3
 walk_at "pd"
 rw[decide_eq_false w2,decide_eq_false w3]
 walk_at "pd"
 rw[un0,UO (d:=[]) (by omega),show k.bs.getD (k.bs.length-1) []=ZI k from rfl]
 walk_at "pd"
 rw[UU]
 walk_at "pd"
 by_cases q0:p<0
 ·rw[decide_eq_true q0]
  walk_at "pd"
  rw[Zhr (fb _) (fd _) (fu _)]
  unfold JF nxK
  rw[eX,show stX (ZI k) p=(some "BadPit":Option PySem.Str) by unfold stX;rw[if_pos (Jo.mpr lb),if_neg (by omega)]]
  rfl
 rw[decide_eq_false q0]
 walk_at "pd"
 rw[ZU,JK,Zt7]
 walk_at "pd"
 by_cases q1:((ZI k).length:Int)<=p
 ·rw[decide_eq_true q1]
  walk_at "pd"
  rw[Zhr (fb _) (fd _) (fu _)]
  unfold JF nxK
  rw[eX,show stX (ZI k) p=(some "BadPit":Option PySem.Str) by unfold stX;rw[if_pos (Jo.mpr lb),if_neg (by omega)]]
  rfl
 rw[decide_eq_false q1]
 walk_at "pd"
 rw[ZU,ZP (by omega) (by omega)]
 walk_at "pd"
 by_cases q2:(ZI k).getD p.toNat 0=0
 ·rw[decide_eq_true q2]
  walk_at "pd"
  rw[Zhr (fb _) (fd _) (fu _)]
  unfold JF nxK
  rw[eX,show stX (ZI k) p=(some "NoSeeds":Option PySem.Str) by unfold stX;rw[if_pos (Jo.mpr lb),if_pos (by omega),if_pos q2]]
  rfl
 have st:Vs (ZI k) p:=⟨lb,by omega,by omega,by have:=lb.nn' p.toNat;omega⟩
 unfold JF nxK
 rw[eX,J5.mpr st,decide_eq_false q2]
 walk_at "pd"
 rw[Zir (fu _)]
 walk_at "pd"
 rcases hw with rfl|rfl
 ·walk_at "pd"
  rw[ZU]
  walk_at "pd"
  rw[Zcp st]
  walk_at "pd"
  rw[show ∀m,UY m=.tup [.lst (m.1.map PV.int),.int m.2] from fun _=>rfl,Qv,ZdK]
  walk_at "pd"
  rw[UU]
  walk_at "pd"
  rw[Zir (fd _)]
  walk_at "pd"
  rw[ZU,ZP (by omega) (by omega)]
  walk_at "pd"
  rw[Zjb (fd _) (by rw[Zt7];omega)]
  walk_at "pd"
  rw[Zir (fb _)]
  walk_at "pd"
  rw[Zjb (fb _) (by rw[Zt7];omega)]
  walk_at "pd"
  have e1:k.bs.map fzI++[fzI (Zb7 (ZI k,p)).1]=(skS k p).bs.map fzI:=by simp only[skS,ZtU];rfl
  have e2:k.ds.map dd3++[PV.tup [.str "sow",.int p,.int ((ZI k).getD p.toNat 0)]]=(skS k p).ds.map dd3:=by simp only[skS,ZtU];rfl
  rw[e1,e2,show Zj3 (.box (some a2) .ls (k.us.map UL))=.box (some a2) .ls ((skS k p).us.map UL) from rfl,Zhr (fb _) (fd _) (fu _)]
  rfl
 ·have hb:Vs (tbS (ZI k,p)).1 (tbS (ZI k,p)).2:=V3 (a:=(ZI k,p)) (.inr rfl) st 1
  walk_at "pd"
  rw[ZU]
  walk_at "pd"
  rw[V9 st]
  walk_at "pd"
  rw[show ∀m,UY m=.tup [.lst (m.1.map PV.int),.int m.2] from fun _=>rfl,Qv,ZdK]
  walk_at "pd"
  rw[UU]
  walk_at "pd"
  rw[Zir (fd _)]
  walk_at "pd"
  rw[ZU,ZP hb.lo hb.hi]
  walk_at "pd"
  rw[Int.zero_sub]
  walk_at "pd"
  rw[Zjb (fd _) (by rw[Zt7];omega)]
  walk_at "pd"
  rw[Zir (fb _)]
  walk_at "pd"
  rw[Zjb (fb _) (by rw[Zt7];omega)]
  walk_at "pd"
  have e1:k.bs.map fzI++[fzI (tbS (ZI k,p)).1]=(skT k p).bs.map fzI:=by simp only[skT,ZtU];rfl
  have e2:k.ds.map dd3++[PV.tup [.str "back",.int p,.int (-(tbS (ZI k,p)).1.getD (tbS (ZI k,p)).2.toNat 0)]]=(skT k p).ds.map dd3:=by simp only[skT,ZtU];rfl
  rw[e1,e2,show Zj3 (.box (some a2) .ls (k.us.map UL))=.box (some a2) .ls ((skT k p).us.map UL) from rfl,Zhr (fb _) (fd _) (fu _)]
  rfl
noncomputable def bkR (k:Bk):Bk:=⟨k.bs++[(k.us.getD (k.us.length-1) (("",0,0),[])).2],k.ds++[(k.us.getD (k.us.length-1) (("",0,0),[])).1],k.us.dropLast⟩
noncomputable def ZnX:Pm:=⟨Bk,fun k=>[bkP none k],fun k=>k.us.length≠0/\k.us.length<1000000/\k.bs.length<1000000/\k.ds.length<1000000,fun k=>.ok (.tup [.non,bkP none (bkR k)])⟩
theorem Zrz (T:Txt K mg) {f:Addr}{fd:FuncData} (F:Fun K "redo" "RingBook.redo" ZnH f fd):Jd P w K mg base CX0 1 f fd ["self"] (spM K 0 0 ZnX.fnM):=by
 refine F.okM (n:=0) (j:=0) ZpJ rfl rfl (by decide) (fun cdv A outer s H E hr=>?_)
 have hu:=hr.units
 refine⟨_,_,⟨[.O,.P],[],[],.N⟩,rfl,rfl,(Ze (ZV (Zx (Ja (K:=K) hu) (Zv (ZQ (K:=K)) rfl T.z_len JR (Za (ZR (pv 0)) Zf)) Zl (Z9 _)) (Zk Zdt) Z6)
   (Ze (Zy (i:=1) ZpJ.nd rfl (by first|exact Or.inl rfl|exact Or.inr rfl) (QF PySem.F.plainAttrs_list PySem.F.slot_list_pop PySem.F.type_list_pop Za2 (ZR (pv 0))))
   (Ze (ZN (Vr PySem.F.plainAttrs_list PySem.F.slot_list_append PySem.F.type_list_append ZL (ZR (pv 0)) (Za (ZO (Zu (K:=K)) (pv 1) Zl (fun _ _=>rfl)) Zf)))
   (Zk (ZN (Vr PySem.F.plainAttrs_list PySem.F.slot_list_append PySem.F.type_list_append ZL (ZR (pv 0)) (Za (ZO (Zu (K:=K)) (pv 1) Zl (fun _ _=>rfl)) Zf))))))),
   (Zm (Γm:=[.O,.U]) (ZZ (Zw (DE.toA (ZM (g:=id) (DE.toA (JO (Zb (JW (fs:=Zp) (n := "RingBook") (Z2 T.o_RingBook) (by decide) (Zc (i:=0) (m:=.O) rfl (by decide))) Zi))) (DE.toA Zj))))
   VI
   Z7)
   (Zm (Γm:=[.O,.P]) (Zbi (l:=1) (DMf.dm (ZcK (i:=0) (fs:=Zp) (n := "RingBook") (fl := "undone") (Z2 T.o_RingBook) (by decide) rfl)) (by decide))
   (Zm (Γm:=[.O,.P]) (Zah (i:=0) (fs:=Zp) (n := "RingBook") (fl := "deeds") (Z2 T.o_RingBook) (by decide) rfl (ZdR (DE.grd (ZB (te:=tC .non) (DE.toA (Zg (i:=1) rfl)) (DE.toA Zj)))))
   (Zah (i:=0) (fs:=Zp) (n := "RingBook") (fl := "boards") (Z2 T.o_RingBook) (by decide) rfl (ZdR (DE.grd (ZB (te:=tC .non) (DE.toA (Zg (i:=1) rfl)) (DE.toA Zj)))))))), ?_⟩
 refine Pm.refM2 ZnX ?_
 rintro(k:Bk) ⟨h0,h1,h2,h3⟩ a b' xs e
 cases e
 simp only[ZnX]
 rw[show ZgE a (bkP none k)=bkP (some a) k from rfl]
 simp only[ins]
 walk_at "pd"
 rw[Zlo]
 walk_at "pd"
 rw[JK,Zt7]
 walk_at "pd"
 rw[if_neg (by intro z;have:=of_decide_eq_true z;omega)]
 walk_at "pd"
 rw[Zm0 h0]
 generalize hu:k.us.getD (k.us.length-1) (("",0,0),[])=u
 obtain⟨d,ns⟩:=u
 walk_at "pd"
 rw[show grd (UL (d,ns))=.ok (.tup [dd3 d,fzI ns]) by unfold grd;rw[if_pos (JB _)];rfl]
 walk_at "pd"
 rw[Zlu,show grd (dd3 d)=.ok (dd3 d) from rfl]
 walk_at "pd"
 rw[Zlw (k:=⟨k.bs,k.ds,k.us.dropLast⟩) h3]
 walk_at "pd"
 rw[Zlv,UU]
 walk_at "pd"
 rw[Zlx (k:=⟨k.bs,k.ds++[d],k.us.dropLast⟩) h2]
 walk_at "pd"
 simp only[bkR,hu]
 rfl
theorem ZrS {k:Bk} (h0:k.us.length≠0) (h1:k.us.length<1000000) (h2:k.bs.length<1000000) (h3:k.ds.length<1000000):ZnX.fnM (bkP none k) []=.ok (.tup [.non,bkP none (bkR k)]):=
 Pm.fn_eq ZnX k ⟨h0,h1,h2,h3⟩ fun(k':Bk) e=>by
  simp only[ZnX,List.cons.injEq,and_true] at e ⊢
  rw[Jm e]
theorem Qi {q:Option Addr}{k:Bk} (h0:k.us.length≠0) (h1:k.us.length<1000000) (h2:k.bs.length<1000000) (h3:k.ds.length<1000000):VO ZnX.fnM (bkP q k) []=.ok (.non,bkP q (bkR k)):=by
 unfold VO
 rw[if_pos (by simp[PV.flats,PV.flat])]
 exact Vo (ZrS h0 h1 h2 h3)
noncomputable def J7 (k:Bk):List Int:=k.bs.getD (k.bs.length-1) []
structure Zi3 (k:Bk) (p:Int):Prop where
 b:k.bs.length≠0
 st:Vs (J7 k) p
 lb:k.bs.length<1000000
 ld:k.ds.length<1000000
noncomputable def ZnR:Pm:=⟨Bk×Dd×List Int,fun a=>[bkP none a.1,dd3 a.2.1,fzI a.2.2],fun a=>a.1.bs.length<1000000/\a.1.ds.length<1000000,fun a=>.ok (.tup [.non,bkP none ⟨a.1.bs++[a.2.2],a.1.ds++[a.2.1],[]⟩])⟩
theorem Zpz (T:Txt K mg) {f:Addr}{fd:FuncData} (F:Fun K "enter" "RingBook.enter" ZnB f fd):Jd P w K mg base CX0 1 f fd ["self", "deed", "board"] (spM K 2 0 ZnR.fnM):=by
 refine F.okM (n:=2) (j:=0) ZqU rfl rfl (by decide) (fun cdv A outer s H E hr=>?_)
 have hu:=hr.units
 refine⟨_,_,⟨[.O,.S,.S],[],[],.N⟩,rfl,rfl,(Ze (ZN (Vr PySem.F.plainAttrs_list PySem.F.slot_list_append PySem.F.type_list_append ZL (ZR (pv 0)) (Za (pv 1) Zf)))
   (Ze (ZN (Vr PySem.F.plainAttrs_list PySem.F.slot_list_append PySem.F.type_list_append ZL (ZR (pv 0)) (Za (pv 2) Zf)))
   (Zk (ZaR (pv 0) (Jt Zf))))),
   (Zm (Γm:=[.O,.S,.S]) (Zah (i:=0) (fs:=Zp) (n := "RingBook") (fl := "deeds") (Z2 T.o_RingBook) (by decide) rfl (ZdR (DE.grd (Zc (i:=1) (m:=.S) rfl (by decide)))))
   (Zm (Γm:=[.O,.S,.S]) (Zah (i:=0) (fs:=Zp) (n := "RingBook") (fl := "boards") (Z2 T.o_RingBook) (by decide) rfl (ZdR (DE.grd (Zc (i:=2) (m:=.S) rfl (by decide)))))
   (U1 (i:=0) (fs:=Zp) (n := "RingBook") (fl := "undone") (Z2 T.o_RingBook) (by decide) rfl (Jj Je)))), ?_⟩
 refine Pm.refM2 ZnR ?_
 rintro⟨k,d,ns⟩ ⟨h0,h1⟩ a b' xs e
 cases e
 simp only[ZnR]
 rw[show ZgE a (bkP none k)=bkP (some a) k from rfl]
 simp only[ins]
 walk_at "pd"
 rw[Zlu,show grd (dd3 d)=.ok (dd3 d) from rfl]
 walk_at "pd"
 rw[Zlw h1]
 walk_at "pd"
 rw[Zlv,UU]
 walk_at "pd"
 rw[Zlx (k:=⟨k.bs,k.ds++[d],k.us⟩) h0]
 walk_at "pd"
 rw[Zmw]
 walk_at "pd"
 rfl
theorem Zr5 {k:Bk}{d:Dd}{ns:List Int} (h0:k.bs.length<1000000) (h1:k.ds.length<1000000):ZnR.fnM (bkP none k) [dd3 d,fzI ns]=.ok (.tup [.non,bkP none ⟨k.bs++[ns],k.ds++[d],[]⟩]):=
 Pm.fn_eq ZnR (k,d,ns) ⟨h0,h1⟩ fun⟨k',d',ns'⟩ e=>by
  simp only[ZnR,List.cons.injEq,and_true] at e ⊢
  rw[Jm e.1,Zbm e.2.1,QW e.2.2]
theorem Vf {q:Option Addr}{k:Bk}{d:Dd}{ns:List Int} (h0:k.bs.length<1000000) (h1:k.ds.length<1000000):VO ZnR.fnM (bkP q k) [dd3 d,fzI ns]=.ok (.non,bkP q ⟨k.bs++[ns],k.ds++[d],[]⟩):=by
 unfold VO
 rw[if_pos (by simp[PV.flats,JQ,J0])]
 exact Vo (Zr5 h0 h1)
noncomputable def bkS (k:Bk) (p:Int):Bk:=⟨k.bs++[(Zb7 (J7 k,p)).1],k.ds++[(("sow":PySem.Str),p,(J7 k).getD p.toNat 0)],[]⟩
noncomputable def Zoi:Pm:=⟨Bk×Int,fun a=>[bkP none a.1,.int a.2],fun a=>Zi3 a.1 a.2,fun a=>.ok (.tup [.int (Zb7 (J7 a.1,a.2)).2,bkP none (bkS a.1 a.2)])⟩
theorem ZrK (T:Txt K mg) {f:Addr}{fd:FuncData} (F:Fun K "sow" "RingBook.sow" ZnM f fd):Jd P w K mg base CX0 8 f fd ["self", "pit"] (spM K 1 0 Zoi.fnM):=by
 have ZsE:=UZ (P:=P) (w:=w) (base:=base) T.Ztn ZsR (fun F=>ZsL T F)
 have Zpf:=VR (P:=P) (w:=w) (mg:=mg) (base:=base) T.o_RingBook T.ZpO Zp4 (fun F=>Zpz T F)
 refine F.okM (n:=1) (j:=0) ZpX rfl rfl (by decide) (fun cdv A outer s H E hr=>?_)
 have hu:=hr.units
 refine⟨_,_,⟨[.O,.S,.U],[],[],.N⟩,rfl,rfl,(Ze (Zy (i:=2) ZpX.nd rfl (by first|exact Or.inl rfl|exact Or.inr rfl) (Vz (Jk ZsE (hr.mono (by decide)) rfl QH (Za (ZO (Zu (K:=K)) (ZR (pv 0)) (QD Vv Zl) (fun _ _=>rfl)) (Za (pv 1) Zf)))))
   (Ze (ZN (Qq Zpf (hr.mono (by decide)) (pv 0) (Za (JJ (Za Jg (Za (pv 1) (Za (ZO (Zu (K:=K)) (ZO (Zu (K:=K)) (ZR (pv 0)) (QD Vv Zl) (fun _ _=>rfl)) (pv 1) (fun _ _=>rfl)) Zf)))) (Za (ZO (Zu (K:=K)) (pv 2) Zl (fun _ _=>rfl)) Zf))))
   (Zk (Z1 (ZO (Zu (K:=K)) (pv 2) Zl (fun _ _=>rfl)))))),
   (Zm (Γm:=[.O,.S,.P]) (Z3 (i:=2) (V8 (ZlH (Zh (Zh Zr)) (Zb (J2 (ZB (te:=tC .non) (JW (fs:=Zp) (n := "RingBook") (Z2 T.o_RingBook) (by decide) (Zc (i:=0) (m:=.S) rfl (by decide))) (DE.toA (V7 (DE.toA Zj))))) (Zb (Zc (i:=1) (m:=.S) rfl (by decide)) Zi)))) (by decide))
   (Zm (Γm:=[.O,.S,.P]) (ZdP (DM.meth (n := "RingBook") (m := "enter") rfl (JN (i:=0) rfl (Zh (Zh Zr)) (Zb (JV (Zb (DE.toA Jh) (Zb (Zc (i:=1) (m:=.S) rfl (by decide)) (Zb (ZB (te:=tC .non) (J2 (ZB (te:=tC .non) (JW (fs:=Zp) (n := "RingBook") (Z2 T.o_RingBook) (by decide) (Zc (i:=0) (m:=.O) rfl (by decide))) (DE.toA (V7 (DE.toA Zj))))) (Zc (i:=1) (m:=.S) rfl (by decide))) Zi)))) (Zb (ZB (te:=tC .non) (DE.toA (Zg (i:=2) rfl)) (DE.toA Zj)) Zi)))))
   (Zac (j:=0) (DE.PF (DE.grd (ZB (te:=tC .non) (DE.toA (Zg (i:=2) rfl)) (DE.toA Zj)))) rfl))), ?_⟩
 refine Pm.refM2 Zoi ?_
 rintro⟨k,p⟩ (h:Zi3 k p) a b' xs e
 cases e
 simp only[Zoi]
 rw[show ZgE a (bkP none k)=bkP (some a) k from rfl]
 simp only[ins]
 walk_at "pd"
 rw[ZgG]
 walk_at "pd"
 rw[UO (d:=[]) h.b]
 walk_at "pd"
 rw[ZU,show k.bs.getD (k.bs.length-1) []=J7 k from rfl,Zcp h.st]
 walk_at "pd"
 rw[Qv,ZdK]
 walk_at "pd"
 rw[Zls,ZgG]
 walk_at "pd"
 rw[UO (d:=[]) h.b]
 walk_at "pd"
 rw[ZU,show k.bs.getD (k.bs.length-1) []=J7 k from rfl,ZP h.st.lo h.st.hi]
 walk_at "pd"
 rw[show PV.tup [PV.str (PySem.Str.ofString "sow"),PV.int p,PV.int ((J7 k).getD p.toNat 0)]=dd3 ("sow",p,(J7 k).getD p.toNat 0) from rfl,Vf h.lb h.ld]
 walk_at "pd"
 rfl
theorem Zsj {k:Bk}{p:Int} (h:Zi3 k p):Zoi.fnM (bkP none k) [.int p]=.ok (.tup [.int (Zb7 (J7 k,p)).2,bkP none (bkS k p)]):=
 Pm.fn_eq Zoi (k,p) h fun⟨k',p'⟩ e=>by
  simp only[Zoi,List.cons.injEq,PV.int.injEq,and_true] at e ⊢
  rw[Jm e.1,e.2]
theorem Zai {q:Option Addr}{k:Bk}{p:Int} (h:Zi3 k p):VO Zoi.fnM (bkP q k) [.int p]=.ok (.int (Zb7 (J7 k,p)).2,bkP q (bkS k p)):=by
 unfold VO
 rw[if_pos (by simp[PV.flats,PV.flat])]
 exact Vo (Zsj h)
noncomputable def bkT (k:Bk) (p:Int):Bk:=⟨k.bs++[(tbS (J7 k,p)).1],k.ds++[(("back":PySem.Str),p,-(tbS (J7 k,p)).1.getD (tbS (J7 k,p)).2.toNat 0)],[]⟩
noncomputable def ZnY:Pm:=⟨Bk×Int,fun a=>[bkP none a.1,.int a.2],fun a=>Zi3 a.1 a.2,fun a=>.ok (.tup [.int (tbS (J7 a.1,a.2)).2,bkP none (bkT a.1 a.2)])⟩
theorem Zr1 (T:Txt K mg) {f:Addr}{fd:FuncData} (F:Fun K "back" "RingBook.back" ZnJ f fd):Jd P w K mg base CX0 8 f fd ["self", "pit"] (spM K 1 0 ZnY.fnM):=by
 have ZoZ:=UZ (P:=P) (w:=w) (base:=base) T.Zqn ZpE (fun F=>ZpA T F)
 have Zpf:=VR (P:=P) (w:=w) (mg:=mg) (base:=base) T.o_RingBook T.ZpO Zp4 (fun F=>Zpz T F)
 refine F.okM (n:=1) (j:=0) ZpL rfl rfl (by decide) (fun cdv A outer s H E hr=>?_)
 have hu:=hr.units
 refine⟨_,_,⟨[.O,.S,.U],[],[],.N⟩,rfl,rfl,(Ze (Zy (i:=2) ZpL.nd rfl (by first|exact Or.inl rfl|exact Or.inr rfl) (Vz (Jk ZoZ (hr.mono (by decide)) rfl QH (Za (ZO (Zu (K:=K)) (ZR (pv 0)) (QD Vv Zl) (fun _ _=>rfl)) (Za (pv 1) Zf)))))
   (Ze (ZN (Qq Zpf (hr.mono (by decide)) (pv 0) (Za (JJ (Za Jg (Za (pv 1) (Za (QD Vv (ZO (Zu (K:=K)) (ZO (Zu (K:=K)) (pv 2) Zl (fun _ _=>rfl)) (ZO (Zu (K:=K)) (pv 2) Zl (fun _ _=>rfl)) (fun _ _=>rfl))) Zf)))) (Za (ZO (Zu (K:=K)) (pv 2) Zl (fun _ _=>rfl)) Zf))))
   (Zk (Z1 (ZO (Zu (K:=K)) (pv 2) Zl (fun _ _=>rfl)))))),
   (Zm (Γm:=[.O,.S,.P]) (Z3 (i:=2) (V8 (ZlH (Zh (Zh Zr)) (Zb (J2 (ZB (te:=tC .non) (JW (fs:=Zp) (n := "RingBook") (Z2 T.o_RingBook) (by decide) (Zc (i:=0) (m:=.S) rfl (by decide))) (DE.toA (V7 (DE.toA Zj))))) (Zb (Zc (i:=1) (m:=.S) rfl (by decide)) Zi)))) (by decide))
   (Zm (Γm:=[.O,.S,.P]) (ZdP (DM.meth (n := "RingBook") (m := "enter") rfl (JN (i:=0) rfl (Zh (Zh Zr)) (Zb (JV (Zb (DE.toA Jh) (Zb (Zc (i:=1) (m:=.S) rfl (by decide)) (Zb (DE.toA (V7 (ZB (te:=tC .non) (J2 (ZB (te:=tC .non) (DE.toA (Zg (i:=2) rfl)) (DE.toA Zj))) (ZB (te:=tC .non) (DE.toA (Zg (i:=2) rfl)) (DE.toA Zj))))) Zi)))) (Zb (ZB (te:=tC .non) (DE.toA (Zg (i:=2) rfl)) (DE.toA Zj)) Zi)))))
   (Zac (j:=0) (DE.PF (DE.grd (ZB (te:=tC .non) (DE.toA (Zg (i:=2) rfl)) (DE.toA Zj)))) rfl))), ?_⟩
 refine Pm.refM2 ZnY ?_
 rintro⟨k,p⟩ (h:Zi3 k p) a b' xs e
 cases e
 simp only[ZnY]
 rw[show ZgE a (bkP none k)=bkP (some a) k from rfl]
 simp only[ins]
 walk_at "pd"
 rw[ZgG]
 walk_at "pd"
 rw[UO (d:=[]) h.b]
 walk_at "pd"
 rw[ZU,show k.bs.getD (k.bs.length-1) []=J7 k from rfl,V9 h.st]
 walk_at "pd"
 rw[Qv,ZdK]
 walk_at "pd"
 rw[Zls]
 have hb:Vs (tbS (J7 k,p)).1 (tbS (J7 k,p)).2:=V3 (a:=(J7 k,p)) (.inr rfl) h.st 1
 rw[ZU,ZP hb.lo hb.hi]
 walk_at "pd"
 rw[show PV.tup [PV.str (PySem.Str.ofString "back"),PV.int p,PV.int (-(tbS (J7 k,p)).1.getD (tbS (J7 k,p)).2.toNat 0)]=dd3 ("back",p,-(tbS (J7 k,p)).1.getD (tbS (J7 k,p)).2.toNat 0) from rfl,Vf h.lb h.ld]
 walk_at "pd"
 rfl
theorem ZrU {k:Bk}{p:Int} (h:Zi3 k p):ZnY.fnM (bkP none k) [.int p]=.ok (.tup [.int (tbS (J7 k,p)).2,bkP none (bkT k p)]):=
 Pm.fn_eq ZnY (k,p) h fun⟨k',p'⟩ e=>by
  simp only[ZnY,List.cons.injEq,PV.int.injEq,and_true] at e ⊢
  rw[Jm e.1,e.2]
theorem Qj {q:Option Addr}{k:Bk}{p:Int} (h:Zi3 k p):VO ZnY.fnM (bkP q k) [.int p]=.ok (.int (tbS (J7 k,p)).2,bkP q (bkT k p)):=by
 unfold VO
 rw[if_pos (by simp[PV.flats,PV.flat])]
 exact Vo (ZrU h)
noncomputable def bkU (k:Bk):Bk:=⟨k.bs.dropLast,k.ds.dropLast,k.us++[(k.ds.getD (k.ds.length-1) ("",0,0),k.bs.getD (k.bs.length-1) [])]⟩
noncomputable def ZnW:Pm:=⟨Bk,fun k=>[bkP none k],fun k=>k.bs.length≠0/\k.ds.length≠0/\k.ds.length<1000000/\k.us.length<1000000,fun k=>.ok (.tup [.non,bkP none (bkU k)])⟩
theorem Zry (T:Txt K mg) {f:Addr}{fd:FuncData} (F:Fun K "undo" "RingBook.undo" ZnG f fd):Jd P w K mg base CX0 1 f fd ["self"] (spM K 0 0 ZnW.fnM):=by
 refine F.okM (n:=0) (j:=0) Zrx rfl rfl (by decide) (fun cdv A outer s H E hr=>?_)
 have hu:=hr.units
 refine⟨_,_,⟨[.O],[],[],.N⟩,rfl,rfl,(Ze (ZV (Zx (Ja (K:=K) hu) (Zv (ZQ (K:=K)) rfl T.z_len JR (Za (ZR (pv 0)) Zf)) Zl (Z9 _)) (Zk Zdt) Z6)
   (Zk (ZN (Vr PySem.F.plainAttrs_list PySem.F.slot_list_append PySem.F.type_list_append ZL (ZR (pv 0)) (Za (JJ (Za (QF PySem.F.plainAttrs_list PySem.F.slot_list_pop PySem.F.type_list_pop Za2 (ZR (pv 0))) (Za (QF PySem.F.plainAttrs_list PySem.F.slot_list_pop PySem.F.type_list_pop Za2 (ZR (pv 0))) Zf))) Zf))))),
   (Zm (Γm:=[.O]) (ZZ (Zw (DE.toA (ZM (g:=id) (DE.toA (JO (Zb (JW (fs:=Zp) (n := "RingBook") (Z2 T.o_RingBook) (by decide) (Zc (i:=0) (m:=.O) rfl (by decide))) Zi))) (DE.toA Zj))))
   VI
   Z7)
   (Zah (i:=0) (fs:=Zp) (n := "RingBook") (fl := "undone") (Z2 T.o_RingBook) (by decide) rfl (ZhB (ZcK (i:=0) (fs:=Zp) (n := "RingBook") (fl := "deeds") (Z2 T.o_RingBook) (by decide) rfl) (ZcK (i:=0) (fs:=Zp) (n := "RingBook") (fl := "boards") (Z2 T.o_RingBook) (by decide) rfl)))), ?_⟩
 refine Pm.refM2 ZnW ?_
 rintro(k:Bk) ⟨h0,h1,h2,h3⟩ a b' xs e
 cases e
 simp only[ZnW]
 rw[show ZgE a (bkP none k)=bkP (some a) k from rfl]
 simp only[ins]
 walk_at "pd"
 rw[Zj4]
 walk_at "pd"
 rw[JK,Zt7]
 walk_at "pd"
 rw[if_neg (by intro z;have:=of_decide_eq_true z;omega)]
 walk_at "pd"
 rw[Zm7]
 walk_at "pd"
 rw[Zm1 h1]
 walk_at "pd"
 rw[Zm2 (k:=⟨k.bs,k.ds.dropLast,k.us⟩) h0]
 walk_at "pd"
 rw[show PV.tup [dd3 (k.ds.getD (k.ds.length-1) ("",0,0)),fzI (k.bs.getD (k.bs.length-1) [])]=UL (k.ds.getD (k.ds.length-1) ("",0,0),k.bs.getD (k.bs.length-1) []) from rfl,ZmB (k:=⟨k.bs.dropLast,k.ds.dropLast,k.us⟩) h3]
 walk_at "pd"
 rfl
theorem ZrR {k:Bk} (h0:k.bs.length≠0) (h1:k.ds.length≠0) (h2:k.ds.length<1000000) (h3:k.us.length<1000000):ZnW.fnM (bkP none k) []=.ok (.tup [.non,bkP none (bkU k)]):=
 Pm.fn_eq ZnW k ⟨h0,h1,h2,h3⟩ fun(k':Bk) e=>by
  simp only[ZnW,List.cons.injEq,and_true] at e ⊢
  rw[Jm e]
theorem Qh {q:Option Addr}{k:Bk} (h0:k.bs.length≠0) (h1:k.ds.length≠0) (h2:k.ds.length<1000000) (h3:k.us.length<1000000):VO ZnW.fnM (bkP q k) []=.ok (.non,bkP q (bkU k)):=by
 unfold VO
 rw[if_pos (by simp[PV.flats,PV.flat])]
 exact Vo (ZrR h0 h1 h2 h3)
noncomputable def Zoa:Pm:=⟨Bk×Int×Int,fun a=>[bkP none a.1,.int a.2.1,.int a.2.2],fun a=>BkG 100 a.1/\(0<=a.2.1/\a.2.1<=3)/\Vx a.1 a.2.1 a.2.2=none,fun a=>.ok (.tup [stV a.1 a.2.1 a.2.2,bkP none (stK a.1 a.2.1 a.2.2)])⟩
theorem Zsu (T:Txt K mg) {f:Addr}{fd:FuncData} (F:Fun K "_law_asked" "_law_asked" Zon f fd):Jd P w K mg base CX0 9 f fd ["book", "way", "pit"] (spM K 2 0 Zoa.fnM):=by
 have Zsb:=VR (P:=P) (w:=w) (mg:=mg) (base:=base) T.o_RingBook T.ZrO Zr8 (fun F=>Zrz T F)
 have Zsm:=VR (P:=P) (w:=w) (mg:=mg) (base:=base) T.o_RingBook T.Zsi ZrX (fun F=>ZrK T F)
 have Zsd:=VR (P:=P) (w:=w) (mg:=mg) (base:=base) T.o_RingBook T.ZrQ ZrA (fun F=>Zr1 T F)
 have Zsa:=VR (P:=P) (w:=w) (mg:=mg) (base:=base) T.o_RingBook T.ZrN Zr7 (fun F=>Zry T F)
 refine F.okM (n:=2) (j:=0) ZqI rfl rfl (by decide) (fun cdv A outer s H E hr=>?_)
 have hu:=hr.units
 refine⟨_,_,⟨[.O,.S,.S],[],[],.N⟩,rfl,rfl,(Ze (ZV (Zx (Ja (K:=K) hu) (pv 1) Zl (Z9 _)) (Zk (Z1 (Qq Zsm (hr.mono (by decide)) (pv 0) (Za (pv 2) Zf)))) Z6)
   (Ze (ZV (Zx (Ja (K:=K) hu) (pv 1) Zl (Z9 _)) (Zk (Z1 (Qq Zsd (hr.mono (by decide)) (pv 0) (Za (pv 2) Zf)))) Z6)
   (Ze (ZV (Zx (Ja (K:=K) hu) (pv 1) Zl (Z9 _)) (Zk (Z1 (Vb Zsa (hr.mono (by decide)) (pv 0)))) Z6)
   (Zk (Z1 (Vb Zsb (hr.mono (by decide)) (pv 0))))))),
   (Zm (Γm:=[.O,.S,.S]) (ZZ (Zw (DE.toA (ZM (g:=id) (Zc (i:=1) (m:=.S) rfl (by decide)) (DE.toA Zj))))
   (Qx (DM.meth (n := "RingBook") (m := "sow") rfl (JN (i:=0) rfl (Zh Zr) (Zb (Zc (i:=2) (m:=.S) rfl (by decide)) Zi))) rfl)
   Z7)
   (Zm (Γm:=[.O,.S,.S]) (ZZ (Zw (DE.toA (ZM (g:=id) (Zc (i:=1) (m:=.S) rfl (by decide)) (DE.toA Zj))))
   (Qx (DM.meth (n := "RingBook") (m := "back") rfl (JN (i:=0) rfl (Zh Zr) (Zb (Zc (i:=2) (m:=.S) rfl (by decide)) Zi))) rfl)
   Z7)
   (Zm (Γm:=[.O,.S,.S]) (ZZ (Zw (DE.toA (ZM (g:=id) (Zc (i:=1) (m:=.S) rfl (by decide)) (DE.toA Zj))))
   (Qx (DM.meth (n := "RingBook") (m := "undo") rfl (JN (i:=0) rfl Zr Zi)) rfl)
   Z7)
   (Qx (DM.meth (n := "RingBook") (m := "redo") rfl (JN (i:=0) rfl Zr Zi)) rfl)))), ?_⟩
 refine Pm.refM2 Zoa ?_
 rintro⟨k,w,p⟩ ⟨h0,h1,h2⟩ a b' xs e
 cases e
 simp only at h0 h1 h2
 simp only[Zoa]
 rw[show ZgE a (bkP none k)=bkP (some a) k from rfl]
 simp only[ins]
 have g1:=h0.bl
 have g2:=h0.dl
 have g3:=h0.ul
 by_cases w0:w=0
 ·subst w0
  walk_at "pd"
  rw[Zlq]
  walk_at "pd"
  rw[Zai ⟨by omega,J5.mp h2,by omega,by omega⟩]
  walk_at "pd"
  rfl
 by_cases w1:w=1
 ·subst w1
  walk_at "pd"
  rw[Zlt]
  walk_at "pd"
  rw[Qj ⟨by omega,J5.mp h2,by omega,by omega⟩]
  walk_at "pd"
  rfl
 by_cases w2:w=2
 ·subst w2
  have hd:k.ds.length≠0:=fun z=>by unfold Vx at h2;rw[if_pos rfl,if_pos z] at h2;cases h2
  walk_at "pd"
  rw[Zlp]
  walk_at "pd"
  rw[Qh (by omega) hd (by omega) (by omega)]
  walk_at "pd"
  rfl
 obtain rfl:w=3:=by omega
 have hd:k.us.length≠0:=fun z=>by unfold Vx at h2;rw[if_neg (by decide),if_pos rfl,if_pos z] at h2;cases h2
 walk_at "pd"
 rw[Zlr]
 walk_at "pd"
 rw[Qi hd (by omega) (by omega) (by omega)]
 walk_at "pd"
 rfl
theorem ZoX {k:Bk}{w p:Int} (h:BkG 100 k/\(0<=w/\w<=3)/\Vx k w p=none):Zoa.fnM (bkP none k) [.int w,.int p]=.ok (.tup [stV k w p,bkP none (stK k w p)]):=
 Pm.fn_eq Zoa (k,w,p) h fun⟨k',w',p'⟩ e=>by
  simp only[Zoa,List.cons.injEq,PV.int.injEq,and_true] at e ⊢
  rw[Jm e.1,e.2.1,e.2.2]
theorem Zbp {q:Option Addr}{k:Bk}{w p:Int} (h:BkG 100 k/\(0<=w/\w<=3)/\Vx k w p=none):VO Zoa.fnM (bkP q k) [.int w,.int p]=.ok (stV k w p,bkP q (stK k w p)):=by
 unfold VO
 rw[if_pos (by simp[PV.flats,PV.flat])]
 exact Vo (ZoX h)
noncomputable def Zos:Pm:=⟨Bk,fun k=>[bkP none k],fun k=>k.us=[],fun _=>.exc ("NoDeed",.non)⟩
theorem ZqM (T:Txt K mg) {f:Addr}{fd:FuncData} (F:Fun K "redo" "RingBook.redo" Zn8 f fd):Jd P w K mg base (CX1 P w) 1 f fd ["self"] (spF K 1 .P (W1 K) Zos.fn):=by
 obtain⟨C_NoDeed,hC_NoDeed,hQ_NoDeed⟩:=VA T.x_exc (n := "NoDeed") (by decide)
 refine F.okX ZqK rfl rfl (fun cdv A outer s H E hr=>?_)
 have hu:=hr.units
 refine⟨_,_,⟨[],[],[],.P⟩,rfl,(Ze (ZV (Zx (Ja (K:=K) hu) (Zv (ZQ (K:=K)) rfl T.z_len JR (Za (ZR (pv 0)) Zf)) Zl (Z9 _)) (Zk (Uo QN hQ_NoDeed rfl (T.x_mg _ _ hC_NoDeed) rfl (Za Jg Zf))) Z6)
   Um),
   (Zm (Γm:=[.S,.U]) (ZZ (Zw (DE.toA (ZM (g:=id) (DE.toA (JO (Zb (JW (fs:=Zp) (n := "RingBook") (Z2 T.o_RingBook) (by decide) (Zc (i:=0) (m:=.S) rfl (by decide))) Zi))) (DE.toA Zj))))
   (U2 hC_NoDeed (Zh Zr) (by decide) (Zb (DE.toA Jh) Zi))
   Z7)
   VI), ?_⟩
 refine Pm.ref Zos (g:=fun xs=>_) ?_
 rintro(k:Bk) (h:k.us=[])
 simp only[Zos]
 walk_at "pd"
 rw[Zlo,h]
 walk_at "pd"
 rw[JK]
 walk_at "pd"
 rfl
theorem Zrl {k:Bk} (h:k.us=[]):Zos.fn [bkP none k]=.exc ("NoDeed",.non):=Pm.fn_eq Zos k h fun _ _=>rfl
noncomputable def Zof:Pm:=⟨Bk×Int,fun a=>[bkP none a.1,.int a.2],fun a=>a.1.bs.length≠0/\(ZI a.1).length<=1000/\stX (ZI a.1) a.2≠none,fun a=>orX (stX (ZI a.1) a.2) .non⟩
theorem Zrc (T:Txt K mg) {f:Addr}{fd:FuncData} (F:Fun K "sow" "RingBook.sow" ZnA f fd):Jd P w K mg base (CX1 P w) 8 f fd ["self", "pit"] (spF K 2 .P (W1 K) Zof.fn):=by
 have ZsE:=UZ (P:=P) (w:=w) (base:=base) T.Ztn ZsR (fun F=>ZsL T F)
 refine F.okX Zpx rfl rfl (fun cdv A outer s H E hr=>?_)
 have hu:=hr.units
 refine⟨_,_,⟨[],[],[],.P⟩,rfl,(Ze (Zy (i:=2) Zpx.nd rfl (by first|exact Or.inl rfl|exact Or.inr rfl) (Vz (Jk ZsE (hr.mono (by decide)) rfl JT (Za (ZO (Zu (K:=K)) (ZR (pv 0)) (QD Vv Zl) (fun _ _=>rfl)) (Za (pv 1) Zf)))))
   Um),
   (Zm (Γm:=[.S,.S,.P]) (Z3 (i:=2) (V8 (Znf (Zh (Zh Zr)) (Zb (J2 (ZB (te:=tC .non) (JW (fs:=Zp) (n := "RingBook") (Z2 T.o_RingBook) (by decide) (Zc (i:=0) (m:=.S) rfl (by decide))) (DE.toA (V7 (DE.toA Zj))))) (Zb (Zc (i:=1) (m:=.S) rfl (by decide)) Zi)))) (by decide))
   VI), ?_⟩
 refine Pm.ref Zof (g:=fun xs=>_) ?_
 rintro⟨k,p⟩ ⟨h0,h1,h2⟩
 simp only at h0 h1 h2
 simp only[Zof]
 walk_at "pd"
 rw[ZgG]
 walk_at "pd"
 rw[UO (d:=[]) h0]
 walk_at "pd"
 rw[ZU,show k.bs.getD (k.bs.length-1) []=ZI k from rfl,Zsn h1]
 cases e:stX (ZI k) p with
 |none=>exact absurd e h2
 |some x=>simp only[orX];walk_at "pd"
theorem Zr4 {k:Bk}{p:Int} (h0:k.bs.length≠0) (h1:(ZI k).length<=1000) (h2:stX (ZI k) p≠none):Zof.fn [bkP none k,.int p]=orX (stX (ZI k) p) .non:=
 Pm.fn_eq Zof (k,p) ⟨h0,h1,h2⟩ fun⟨k',p'⟩ e=>by
  simp only[Zof,List.cons.injEq,PV.int.injEq,and_true] at e ⊢
  rw[Jm e.1,e.2]
noncomputable def ZnV:Pm:=⟨Bk×Int,fun a=>[bkP none a.1,.int a.2],fun a=>a.1.bs.length≠0/\(ZI a.1).length<=1000/\stX (ZI a.1) a.2≠none,fun a=>orX (stX (ZI a.1) a.2) .non⟩
theorem ZqN (T:Txt K mg) {f:Addr}{fd:FuncData} (F:Fun K "back" "RingBook.back" Zn9 f fd):Jd P w K mg base (CX1 P w) 8 f fd ["self", "pit"] (spF K 2 .P (W1 K) ZnV.fn):=by
 have ZoZ:=UZ (P:=P) (w:=w) (base:=base) T.Zqn ZpE (fun F=>ZpA T F)
 refine F.okX Zpn rfl rfl (fun cdv A outer s H E hr=>?_)
 have hu:=hr.units
 refine⟨_,_,⟨[],[],[],.P⟩,rfl,(Ze (Zy (i:=2) Zpn.nd rfl (by first|exact Or.inl rfl|exact Or.inr rfl) (Vz (Jk ZoZ (hr.mono (by decide)) rfl JT (Za (ZO (Zu (K:=K)) (ZR (pv 0)) (QD Vv Zl) (fun _ _=>rfl)) (Za (pv 1) Zf)))))
   Um),
   (Zm (Γm:=[.S,.S,.P]) (Z3 (i:=2) (V8 (Znf (Zh (Zh Zr)) (Zb (J2 (ZB (te:=tC .non) (JW (fs:=Zp) (n := "RingBook") (Z2 T.o_RingBook) (by decide) (Zc (i:=0) (m:=.S) rfl (by decide))) (DE.toA (V7 (DE.toA Zj))))) (Zb (Zc (i:=1) (m:=.S) rfl (by decide)) Zi)))) (by decide))
   VI), ?_⟩
 refine Pm.ref ZnV (g:=fun xs=>_) ?_
 rintro⟨k,p⟩ ⟨h0,h1,h2⟩
 simp only at h0 h1 h2
 simp only[ZnV]
 walk_at "pd"
 rw[ZgG]
 walk_at "pd"
 rw[UO (d:=[]) h0]
 walk_at "pd"
 rw[ZU,show k.bs.getD (k.bs.length-1) []=ZI k from rfl,ZoM h1]
 cases e:stX (ZI k) p with
 |none=>exact absurd e h2
 |some x=>simp only[orX];walk_at "pd"
theorem Zrm {k:Bk}{p:Int} (h0:k.bs.length≠0) (h1:(ZI k).length<=1000) (h2:stX (ZI k) p≠none):ZnV.fn [bkP none k,.int p]=orX (stX (ZI k) p) .non:=
 Pm.fn_eq ZnV (k,p) ⟨h0,h1,h2⟩ fun⟨k',p'⟩ e=>by
  simp only[ZnV,List.cons.injEq,PV.int.injEq,and_true] at e ⊢
  rw[Jm e.1,e.2]
noncomputable def Zor:Pm:=⟨Bk,fun k=>[bkP none k],fun k=>k.ds=[],fun _=>.exc ("NoDeed",.non)⟩
theorem ZqL (T:Txt K mg) {f:Addr}{fd:FuncData} (F:Fun K "undo" "RingBook.undo" Zn7 f fd):Jd P w K mg base (CX1 P w) 1 f fd ["self"] (spF K 1 .P (W1 K) Zor.fn):=by
 obtain⟨C_NoDeed,hC_NoDeed,hQ_NoDeed⟩:=VA T.x_exc (n := "NoDeed") (by decide)
 refine F.okX ZqJ rfl rfl (fun cdv A outer s H E hr=>?_)
 have hu:=hr.units
 refine⟨_,_,⟨[],[],[],.P⟩,rfl,(Ze (ZV (Zx (Ja (K:=K) hu) (Zv (ZQ (K:=K)) rfl T.z_len JR (Za (ZR (pv 0)) Zf)) Zl (Z9 _)) (Zk (Uo QN hQ_NoDeed rfl (T.x_mg _ _ hC_NoDeed) rfl (Za Jg Zf))) Z6)
   Um),
   (Zm (Γm:=[.S]) (ZZ (Zw (DE.toA (ZM (g:=id) (DE.toA (JO (Zb (JW (fs:=Zp) (n := "RingBook") (Z2 T.o_RingBook) (by decide) (Zc (i:=0) (m:=.S) rfl (by decide))) Zi))) (DE.toA Zj))))
   (U2 hC_NoDeed (Zh Zr) (by decide) (Zb (DE.toA Jh) Zi))
   Z7)
   VI), ?_⟩
 refine Pm.ref Zor (g:=fun xs=>_) ?_
 rintro(k:Bk) (h:k.ds=[])
 simp only[Zor]
 walk_at "pd"
 rw[Zj4,h]
 walk_at "pd"
 rw[JK]
 walk_at "pd"
 rfl
theorem Zrk {k:Bk} (h:k.ds=[]):Zor.fn [bkP none k]=.exc ("NoDeed",.non):=Pm.fn_eq Zor k h fun _ _=>rfl
noncomputable def ZH:Pm:=⟨Bk×Int×Int,fun a=>[bkP none a.1,.int a.2.1,.int a.2.2],fun a=>BkG 100 a.1/\(0<=a.2.1/\a.2.1<=3)/\Vx a.1 a.2.1 a.2.2≠none,fun a=>orX (Vx a.1 a.2.1 a.2.2) .non⟩
theorem QZ (T:Txt K mg) {f:Addr}{fd:FuncData} (F:Fun K "_law_asked" "_law_asked" Zon f fd):Jd P w K mg base (CX1 P w) 9 f fd ["book", "way", "pit"] (spF K 3 .P (W1 K) ZH.fn):=by
 have Zrt:=ZaX (P:=P) (w:=w) (mg:=mg) (base:=base) T.o_RingBook T.Zri ZqR (fun F=>ZqM T F)
 have ZrB:=ZaX (P:=P) (w:=w) (mg:=mg) (base:=base) T.o_RingBook T.Zr2 Zrn (fun F=>Zrc T F)
 have Zru:=ZaX (P:=P) (w:=w) (mg:=mg) (base:=base) T.o_RingBook T.Zrj ZqS (fun F=>ZqN T F)
 have Zrs:=ZaX (P:=P) (w:=w) (mg:=mg) (base:=base) T.o_RingBook T.Zrh ZqQ (fun F=>ZqL T F)
 refine F.okX ZqI rfl rfl (fun cdv A outer s H E hr=>?_)
 have hu:=hr.units
 refine⟨_,_,⟨[],[],[],.P⟩,rfl,(Ze (ZV (Zx (Ja (K:=K) hu) (pv 1) Zl (Z9 _)) (Zk (Z1 (ZbJ ZrB (hr.mono (by decide)) JT (pv 0) (Za (pv 2) Zf)))) Z6)
   (Ze (ZV (Zx (Ja (K:=K) hu) (pv 1) Zl (Z9 _)) (Zk (Z1 (ZbJ Zru (hr.mono (by decide)) JT (pv 0) (Za (pv 2) Zf)))) Z6)
   (Ze (ZV (Zx (Ja (K:=K) hu) (pv 1) Zl (Z9 _)) (Zk (Z1 (ZbK Zrs (hr.mono (by decide)) JT (pv 0)))) Z6)
   (Zk (Z1 (ZbK Zrt (hr.mono (by decide)) JT (pv 0))))))),
   (Zm (Γm:=[.S,.S,.S]) (ZZ (Zw (DE.toA (ZM (g:=id) (Zc (i:=1) (m:=.S) rfl (by decide)) (DE.toA Zj))))
   (ZG (Zck (n := "RingBook") (m := "sow") (fun e H' h=>h) (Zc (i:=0) (m:=.S) rfl (by decide)) (Zh Zr) (Zb (Zc (i:=2) (m:=.S) rfl (by decide)) Zi)))
   Z7)
   (Zm (Γm:=[.S,.S,.S]) (ZZ (Zw (DE.toA (ZM (g:=id) (Zc (i:=1) (m:=.S) rfl (by decide)) (DE.toA Zj))))
   (ZG (Zck (n := "RingBook") (m := "back") (fun e H' h=>h) (Zc (i:=0) (m:=.S) rfl (by decide)) (Zh Zr) (Zb (Zc (i:=2) (m:=.S) rfl (by decide)) Zi)))
   Z7)
   (Zm (Γm:=[.S,.S,.S]) (ZZ (Zw (DE.toA (ZM (g:=id) (Zc (i:=1) (m:=.S) rfl (by decide)) (DE.toA Zj))))
   (ZG (ZdU (n := "RingBook") (m := "undo") (fun e H' h=>h) (Zc (i:=0) (m:=.S) rfl (by decide))))
   Z7)
   (ZG (ZdU (n := "RingBook") (m := "redo") (fun e H' h=>h) (Zc (i:=0) (m:=.S) rfl (by decide))))))), ?_⟩
 refine Pm.ref ZH (g:=fun xs=>_) ?_
 rintro⟨k,w,p⟩ ⟨h0,h1,h2⟩
 simp only at h0 h1 h2
 simp only[ZH]
 have g1:=h0.bl
 have g4:=h0.last.hi
 by_cases w0:w=0
 ·subst w0
  rw[Uj (by decide) (by decide)] at h2 ⊢
  walk_at "pd"
  rw[Zlq]
  walk_at "pd"
  rw[Zb0,Zr4 (by omega) (by omega) h2]
  cases e:stX (ZI k) p with
  |none=>exact absurd e h2
  |some x=>simp only[orX];walk_at "pd"
 by_cases w1:w=1
 ·subst w1
  rw[Uj (by decide) (by decide)] at h2 ⊢
  walk_at "pd"
  rw[Zlt]
  walk_at "pd"
  rw[Zb0,Zrm (by omega) (by omega) h2]
  cases e:stX (ZI k) p with
  |none=>exact absurd e h2
  |some x=>simp only[orX];walk_at "pd"
 by_cases w2:w=2
 ·subst w2
  have hd:k.ds.length=0:=Decidable.byContradiction fun z=>h2 (by unfold Vx;rw[if_pos rfl,if_neg z])
  walk_at "pd"
  rw[Zlp]
  walk_at "pd"
  rw[Zb0,Zrk (List.length_eq_zero_iff.mp hd),show Vx k 2 p=(some "NoDeed":Option PySem.Str) by unfold Vx;rw[if_pos rfl,if_pos hd]]
  walk_at "pd"
 obtain rfl:w=3:=by omega
 have hd:k.us.length=0:=Decidable.byContradiction fun z=>h2 (by unfold Vx;rw[if_neg (by decide),if_pos rfl,if_neg z])
 walk_at "pd"
 rw[Zlr]
 walk_at "pd"
 rw[Zb0,Zrl (List.length_eq_zero_iff.mp hd),show Vx k 3 p=(some "NoDeed":Option PySem.Str) by unfold Vx;rw[if_neg (by decide),if_pos rfl,if_pos hd]]
 walk_at "pd"
theorem Zav {k:Bk}{w p:Int} (h:BkG 100 k/\(0<=w/\w<=3)/\Vx k w p≠none):ZH.fn [bkP none k,.int w,.int p]=orX (Vx k w p) .non:=
 Pm.fn_eq ZH (k,w,p) h fun⟨k',w',p'⟩ e=>by
  simp only[ZH,List.cons.injEq,PV.int.injEq,and_true] at e ⊢
  rw[Jm e.1,e.2.1,e.2.2]
theorem Qk {k:Bk}{w p:Int} (h:Vx k w p=none):ZH.fn [bkP none k,.int w,.int p]=.bad:=
 Pm.fn_bad _ fun⟨k',w',p'⟩ e z=>by
  simp only[ZH,List.cons.injEq,PV.int.injEq,and_true] at e z
  rw[Jm e.1,e.2.1,e.2.2] at z
  exact z.2.2 h
theorem ZbH {k:Bk}{w p:Int}{x:PySem.Str}{n:Nat} (h:BkG n k) (e:Vx k w p=some x):x = "NoDeed"\/x = "BadPit"\/x = "NoSeeds":=by
 unfold Vx at e
 split at e
 ·split at e
  ·cases e;exact .inl rfl
  ·cases e
 ·split at e
  ·split at e
   ·cases e;exact .inl rfl
   ·cases e
  ·unfold stX at e
   rw[if_pos (Jo.mpr h.last)] at e
   split at e
   ·split at e
    ·cases e;exact .inr (.inr rfl)
    ·cases e
   ·cases e;exact .inr (.inl rfl)
noncomputable def Zoo:Pm:=⟨Bk×Int×Int,fun a=>[bkP none a.1,.int a.2.1,.int a.2.2],fun a=>BkG 100 a.1/\0<=a.2.1/\a.2.1<=3,fun a=>.ok (.tup [JF a.1 a.2.1 a.2.2,bkP none (nxK a.1 a.2.1 a.2.2)])⟩
theorem Zs7 (T:Txt K mg) {f:Addr}{fd:FuncData} (F:Fun K "_law_told" "_law_told" Zo7 f fd):Jd P w K mg base CX0 10 f fd ["book", "way", "pit"] (spM K 2 0 Zoo.fnM):=by
 have ZsH:=UZ (P:=P) (w:=w) (base:=base) T.ZsA Zs0 (fun F=>Jd.or (Jd.calmX (Jd.mono (k:=9) (Zsu T F) (by decide))) (Jd.mono (k:=9) (QZ T F) (by decide)))
 obtain⟨C_SowError,hC_SowError,hQ_SowError⟩:=VA T.x_exc (n := "SowError") (by decide)
 obtain⟨I_BadPit,hI_BadPit,hT_BadPit⟩:=ZaH T.x_tab (c := "BadPit") (L:=U8) (by decide) (by decide)
 obtain⟨I_NoSeeds,hI_NoSeeds,hT_NoSeeds⟩:=ZaH T.x_tab (c := "NoSeeds") (L:=VM) (by decide) (by decide)
 obtain⟨I_NoDeed,hI_NoDeed,hT_NoDeed⟩:=ZaH T.x_tab (c := "NoDeed") (L:=U7) (by decide) (by decide)
 have hT_V:=ZgH T.x_tab (L:=Zbv) (by decide)
 refine F.okM (n:=2) (j:=0) Zov rfl rfl (by decide) (fun cdv A outer s H E hr=>?_)
 have hu:=hr.units
 refine⟨_,_,⟨[.O,.S,.S,.U,.U,.U,.U,.U],[],[],.N⟩,rfl,rfl,(Ze (Zy (i:=3) Zov.nd rfl (by first|exact Or.inl rfl|exact Or.inr rfl) Zdx)
   (Ze (Zy (i:=4) Zov.nd rfl (by first|exact Or.inl rfl|exact Or.inr rfl) Zdx)
   (Ze (Zkp (fun xe pn E hx=>(Zk (Zy (i:=4) Zov.nd rfl (by first|exact Or.inl rfl|exact Or.inr rfl) (Jk ZsH (hr.mono (by decide)) rfl hx (Za (pv 0) (Za (pv 1) (Za (pv 2) Zf))))))) (fun A=>(Zk (Zy (i:=3) Zov.nd rfl (by first|exact Or.inl rfl|exact Or.inr rfl) (pv 5)))) Zov.nd rfl rfl rfl (T.x_mg _ _ hC_SowError) rfl rfl rfl)
   (Ze (ZV (Zx Zk3 (pv 3) Zdx (Z9 _)) (Zk (Z1 (pv 4))) Z6)
   (Ze (Zy (i:=6) Zov.nd rfl (by first|exact Or.inl rfl|exact Or.inr rfl) (Jt (Za (Zv (Qz (K:=K) hT_BadPit) rfl T.z_isinstance Z8 (Za (pv 3) (Za (ZaT (v:=.ref I_BadPit) rfl (T.x_mg _ _ hI_BadPit) rfl) Zf))) (Za (Zv (Qz (K:=K) hT_NoSeeds) rfl T.z_isinstance Z8 (Za (pv 3) (Za (ZaT (v:=.ref I_NoSeeds) rfl (T.x_mg _ _ hI_NoSeeds) rfl) Zf))) (Za (Zv (Qz (K:=K) hT_NoDeed) rfl T.z_isinstance Z8 (Za (pv 3) (Za (ZaT (v:=.ref I_NoDeed) rfl (T.x_mg _ _ hI_NoDeed) rfl) Zf))) Zf)))))
   (Ze (ZV (PW.pt (QA (Ul (Vy (Zv (Qz (K:=K) hT_V) rfl T.z_isinstance Z8 (Za (pv 3) (Za (JS (v:=.ty "ValueError") rfl T.z_ValueError Zbr rfl) Zf))))) (Uk (Zx (UQ (K:=K) hu) (Vr PySem.F.plainAttrs_list PySem.F.slot_list_count PySem.F.type_list_count (Zf4 (K:=K)) (pv 6) (Za Zap Zf)) Zl (Z9 _))))) (Zk (Z1 Jg)) Z6)
   (Ze (Zy (i:=7) Zov.nd rfl (by first|exact Or.inl rfl|exact Or.inr rfl) (ZO (Zu (K:=K)) (Jt (Za Jg (Za Jg (Za Jg Zf)))) (Vr PySem.F.plainAttrs_list PySem.F.slot_list_index PySem.F.type_list_index (Zf3 (K:=K)) (pv 6) (Za Zap Zf)) (fun _ _=>rfl)))
   (Zk (Z1 (ZO (Zu (K:=K)) (Jt (Za (pv 7) (Za Jg Zf))) (J1 Zgw rfl T.z_int Zg0 (Za (ZaU (UQ (K:=K) hu) (Zfi (k:=1) (L:=XN) (Zk8 T) (hr.mono (by decide)) (pv 3)) (pv 7) (Z9 _)) Zf)) (fun _ _=>rfl))))))))))),
   (Zm (Γm:=[.O,.S,.S,.P,.U,.U,.U,.U]) (Z3 (i:=3) Zgg (by decide))
   (Zm (Γm:=[.O,.S,.S,.P,.P,.U,.U,.U]) (Z3 (i:=4) Zgg (by decide))
   (Zm (Γm:=[.O,.S,.S,.P,.P,.U,.U,.U]) (ZfZ (Zjl (i:=5) (Γs:=[.S,.S,.S,.P,.P,.U,.U,.U]) (Y:=⟨[.O,.S,.S,.P,.P,.U,.U,.U],[],[],.N⟩) (Yb:=⟨[.S,.S,.S,.P,.P,.U,.U,.U],[],[],.N⟩) (Yh:=⟨[.O,.S,.S,.P,.P,.P,.U,.U],[],[],.N⟩) (L:=["SowError", "BadBoard", "BadPit", "NoSeeds", "NoDeed"]) (ZgI T.x_tab hC_SowError (by decide)) (fun E=>(Z3 (i:=4) (DE.orR (Vd (Vd (Vd ZbQ))) (ZkX (Zh (Zh (Zh Zr))) (Zb (Zlb (Zc (i:=0) (m:=.S) rfl (by decide))) (Zb (Zc (i:=1) (m:=.S) rfl (by decide)) (Zb (Zc (i:=2) (m:=.S) rfl (by decide)) Zi))))) (by decide))) (fun E D σ H h=>h) (show DS K _ [.O,.S,.S,.P,.P,.P,.U,.U] _ _ _ from (Z3 (i:=3) (Zg (i:=5) rfl) (by decide))) rfl rfl (by decide) rfl rfl rfl rfl) (Zjm (fun E=>(Zbi (l:=4) (DM.orL (Vd (Vd (Vd ZbQ))) (JN (i:=0) rfl (Zh (Zh Zr)) (Zb (Zc (i:=1) (m:=.S) rfl (by decide)) (Zb (Zc (i:=2) (m:=.S) rfl (by decide)) Zi)))) (by decide)))))
   (Zm (Γm:=[.O,.S,.S,.P,.P,.U,.U,.U]) (ZZ (Zw (DE.toA (Zlf (DE.toA (Zg (i:=3) rfl)))))
   (Zac (j:=0) (DE.PF (Zg (i:=4) rfl)) rfl)
   Z7)
   (Zm (Γm:=[.O,.S,.S,.P,.P,.U,.O,.U]) (Ji (i:=6) (Jj (Z4 (DE.PF (ZdV (DE.toA (Zg (i:=3) rfl)))) (Z4 (DE.PF (ZdV (DE.toA (Zg (i:=3) rfl)))) (Z4 (DE.PF (ZdV (DE.toA (Zg (i:=3) rfl)))) Je)))) (by decide))
   (Zm (Γm:=[.O,.S,.S,.P,.P,.U,.O,.U]) (ZZ (Zab (U0 (ZeC (DE.toA (ZdV (DE.toA (Zg (i:=3) rfl)))))) (Zw (DE.toA (ZM (g:=(!·)) (DE.toA (Zgi (Zc (i:=6) (m:=.O) rfl (by decide)) (Zb (DE.toA Zau) Zi))) (DE.toA Zj)))))
   (Zac (j:=0) (DE.PF Jh) rfl)
   Z7)
   (Zm (Γm:=[.O,.S,.S,.P,.P,.U,.O,.P]) (Z3 (i:=7) (DE.grd (ZB (te:=tC .non) (DE.toA (Jj (Z4 (DE.PF Jh) (Z4 (DE.PF Jh) (Z4 (DE.PF Jh) Je))))) (DE.toA (Zgh (Zc (i:=6) (m:=.O) rfl (by decide)) (Zb (DE.toA Zau) Zi))))) (by decide))
   (Zac (j:=0) (DE.PF (DE.grd (ZB (te:=tC .non) (DE.toA (Jj (Z4 (DE.PF (Zg (i:=7) rfl)) (Z4 (DE.PF Jh) Je)))) (DE.toA (ZhF (Zb (DE.toA (ZM (g:=(!·)) (DE.toA (Zgk (DE.toA (Zg (i:=3) rfl)))) (DE.toA (Zg (i:=7) rfl)))) Zi)))))) rfl)))))))), ?_⟩
 refine Pm.refM2 Zoo ?_
 rintro⟨k,w,p⟩ ⟨h0,h1⟩ a b' xs e
 cases e
 simp only at h0 h1
 simp only[Zoo]
 rw[show ZgE a (bkP none k)=bkP (some a) k from rfl]
 simp only[ins]
 walk_at "pd"
 unfold ZlO
 walk_at "pd"
 rw[Zb0]
 cases e:Vx k w p with
 |none =>
  rw[Qk e]
  walk_at "pd"
  simp only[ZjJ]
  rw[Zbp ⟨h0,h1,e⟩]
  have hfl:grd (stV k w p)=.ok (stV k w p):=by
   unfold grd
   rw[if_pos (by unfold stV;split;rfl;split<;>rfl)]
  walk_at "pd"
  rw[hfl]
  walk_at "pd"
  unfold JF nxK
  rw[e]
  rfl
 |some x =>
  rw[Zav ⟨h0,h1,by rw[e];simp⟩,e]
  rcases ZbH h0 e with rfl|rfl|rfl
  ·simp only[orX]
   walk_at "pd"
   rw[if_pos (by decide +kernel)]
   simp only[ZjJ]
   rw[show Ziv (PySem.Str.ofString "NoDeed",PV.non)=.exc "NoDeed" from rfl]
   walk_at "pd"
   rw[show QK [.bl false,.bl false,.bl true] [.bl true]=.ok (.int 1) from rfl]
   walk_at "pd"
   rw[show QJ [.bl false,.bl false,.bl true] [.bl true]=.ok (.int 2) from rfl]
   walk_at "pd"
   rw[show ∀a b c:PV,pIx (.lst [a,b,c]) (.int 2)=.ok c from fun _ _ _=>rfl]
   walk_at "pd"
   rw[show ZjI [.bl false]=.ok (.int 0) from rfl]
   walk_at "pd"
   rw[show ∀a b:PV,pIx (.lst [a,b]) (.int 0)=.ok a from fun _ _=>rfl]
   walk_at "pd"
   unfold JF nxK
   rw[e]
   rfl
  ·simp only[orX]
   walk_at "pd"
   rw[if_pos (by decide +kernel)]
   simp only[ZjJ]
   rw[show Ziv (PySem.Str.ofString "BadPit",PV.non)=.exc "BadPit" from rfl]
   walk_at "pd"
   rw[show QK [.bl true,.bl false,.bl false] [.bl true]=.ok (.int 1) from rfl]
   walk_at "pd"
   rw[show QJ [.bl true,.bl false,.bl false] [.bl true]=.ok (.int 0) from rfl]
   walk_at "pd"
   rw[show ∀a b c:PV,pIx (.lst [a,b,c]) (.int 0)=.ok a from fun _ _ _=>rfl]
   walk_at "pd"
   rw[show ZjI [.bl false]=.ok (.int 0) from rfl]
   walk_at "pd"
   rw[show ∀a b:PV,pIx (.lst [a,b]) (.int 0)=.ok a from fun _ _=>rfl]
   walk_at "pd"
   unfold JF nxK
   rw[e]
   rfl
  ·simp only[orX]
   walk_at "pd"
   rw[if_pos (by decide +kernel)]
   simp only[ZjJ]
   rw[show Ziv (PySem.Str.ofString "NoSeeds",PV.non)=.exc "NoSeeds" from rfl]
   walk_at "pd"
   rw[show QK [.bl false,.bl true,.bl false] [.bl true]=.ok (.int 1) from rfl]
   walk_at "pd"
   rw[show QJ [.bl false,.bl true,.bl false] [.bl true]=.ok (.int 1) from rfl]
   walk_at "pd"
   rw[show ∀a b c:PV,pIx (.lst [a,b,c]) (.int 1)=.ok b from fun _ _ _=>rfl]
   walk_at "pd"
   rw[show ZjI [.bl false]=.ok (.int 0) from rfl]
   walk_at "pd"
   rw[show ∀a b:PV,pIx (.lst [a,b]) (.int 0)=.ok a from fun _ _=>rfl]
   walk_at "pd"
   unfold JF nxK
   rw[e]
   rfl
theorem Zpk {k:Bk}{w p:Int} (h:BkG 100 k/\0<=w/\w<=3):Zoo.fnM (bkP none k) [.int w,.int p]=.ok (.tup [JF k w p,bkP none (nxK k w p)]):=
 Pm.fn_eq Zoo (k,w,p) h fun⟨k',w',p'⟩ e=>by
  simp only[Zoo,List.cons.injEq,PV.int.injEq,and_true] at e ⊢
  rw[Jm e.1,e.2.1,e.2.2]
theorem Zcm {q:Option Addr}{k:Bk}{w p:Int} (h:BkG 100 k/\0<=w/\w<=3):VO Zoo.fnM (bkP q k) [.int w,.int p]=.ok (JF k w p,bkP q (nxK k w p)):=by
 unfold VO
 rw[if_pos (by simp[PV.flats,PV.flat])]
 exact Vo (Zpk h)
theorem Zp2 {k:Bk}{w p:Int} (h:BkG 100 k/\0<=w/\w<=3):Zgy Zo8.fn (.lst (k.bs.map fzI)) (.lst (k.ds.map dd3)) (.lst (k.us.map UL)) [.int w,.int p]=.ok (JF k w p,.lst ((nxK k w p).bs.map fzI),.lst ((nxK k w p).ds.map dd3),.lst ((nxK k w p).us.map UL)):=by
 have e:Zo8.fn [.lst (k.bs.map fzI),.lst (k.ds.map dd3),.lst (k.us.map UL),.int w,.int p]=.ok (.tup [JF k w p,.lst ((nxK k w p).bs.map fzI),.lst ((nxK k w p).ds.map dd3),.lst ((nxK k w p).us.map UL)]):=
  Pm.fn_eq Zo8 (k,w,p) h fun⟨k',w',p'⟩ e=>by
   simp only[Zo8,List.cons.injEq,PV.lst.injEq,PV.int.injEq,and_true] at e ⊢
   have e1:=JL (fun _ _=>QW) e.1
   have e2:=JL (fun _ _=>Zbm) e.2.1
   have e3:=JL (fun _ _=>Zdf) e.2.2.1
   have ek:k'=k:=by
    cases k';cases k
    simp only at e1 e2 e3
    rw[e1,e2,e3]
   rw[ek,e.2.2.2.1,e.2.2.2.2]
 unfold Zgy
 dsimp only
 rw[if_pos ⟨flats_map J0 _,flats_map JQ _,flats_map JB _,rfl⟩,e]
theorem BkG.mono {n m:Nat}{k:Bk} (h:BkG n k) (hm:n<=m):BkG m k:=⟨h.bd,h.ub,h.bl,ZtS h.dl hm,ZtS h.ul hm,h.wd,h.wu⟩
theorem ZeI {n:Nat}{k:Bk}{w p:Int} (h:BkG n k):(∃z,JF k w p=.int z)\/JF k w p=.non\/∃x,JF k w p=.str x/\PyData.canLay0 (.str x)=true:=by
 unfold JF
 cases e:Vx k w p with
 |some x =>
  refine .inr (.inr ⟨x,rfl, ?_⟩)
  rcases ZbH h e with rfl|rfl|rfl<;>(rw[PyData.canLay0];decide +kernel)
 |none =>
  unfold stV
  simp only
  split
  ·exact .inl ⟨_,rfl⟩
  ·split
   ·exact .inl ⟨_,rfl⟩
   ·exact .inr (.inl rfl)
noncomputable def ZrD:Pm:=⟨List Int,fun ns=>[.lst (ns.map PV.int)],fun ns=>ns.length<=63,fun _=>.ok (.bl true)⟩
theorem Zt2 (T:Txt K mg) {f:Addr}{fd:FuncData} (F:Fun K "law" "law" Zs5 f fd):Jd P w K mg base CX0 11 f fd ["script"] (spF K 1 .P W0 ZrD.fn):=by
 have Ztt:=Zcy (P:=P) (w:=w) (base:=base) T.Ztp Zte (fun F=>ZsZ T F)
 have ZsG:=Zcy (P:=P) (w:=w) (base:=base) T.Zs9 Zsz (fun F=>Zst T F)
 have ZqH:=Zk5 (P:=P) (w:=w) (mg:=mg) (base:=base) T.o_RingBook T.ZqD (T.x_mg _) Zq3 (fun F=>Zq2 T F)
 have Zq6:=Zcy (P:=P) (w:=w) (base:=base) T.Zsh ZrW (fun F=>ZrJ T F)
 have Zth:=Zcy (P:=P) (w:=w) (base:=base) T.Ztc ZsU (fun F=>ZsO T F)
 have ZsW:=Zcy (P:=P) (w:=w) (base:=base) T.ZsQ ZsD (fun F=>Zs7 T F)
 refine F.okP ZoS rfl rfl (fun cdv A outer s H E hr=>?_)
 have hu:=hr.units
 refine⟨_,_,⟨[],[],[],.P⟩,rfl,(Ze (Zy (i:=1) ZoS.nd rfl (by first|exact Or.inl rfl|exact Or.inr rfl) (ZS Ztt (hr.mono (by decide)) rfl (Za (pv 0) (Za Zl Zf))))
   (Ze (Zy (i:=2) ZoS.nd rfl (by first|exact Or.inl rfl|exact Or.inr rfl) (ZF Uq Zl (ZF Ju (pv 1) Zl)))
   (Ze (ZV (Zx (Ja (K:=K) hu) (ZF Ju (ZF Jf (pv 1) Zl) Zl) Zl (Z9 _)) (Zk (Zy (i:=2) ZoS.nd rfl (by first|exact Or.inl rfl|exact Or.inr rfl) (ZF Uq Zl (ZF Ju (ZF Jf (pv 1) Zl) Zl)))) Z6)
   (Ze (Zy (i:=3) ZoS.nd rfl (by first|exact Or.inl rfl|exact Or.inr rfl) (ZS ZsG (hr.mono (by decide)) rfl (Za (pv 0) (Za (pv 2) (Za (ZF Ju (ZF Jf (pv 1) Zl) Zl) Zf)))))
   (Ze (Zy (i:=4) ZoS.nd rfl (by first|exact Or.inl rfl|exact Or.inr rfl) (J1 (JA (K:=K)) rfl T.z_list JX (Za (pv 3) Zf)))
   (Ze (Zy (i:=5) ZoS.nd rfl (by first|exact Or.inl rfl|exact Or.inr rfl) (ZgX ZqH (hr.mono (by decide)) rfl (Za (pv 4) Zf)))
   (Ze (UN (ZF Uq (ZO (Zu (K:=K)) (pv 4) Zl (fun _ _=>rfl)) Zl) (ZbI (pv 4) Zl Vi))
   (Ze (Zy (i:=6) ZoS.nd rfl (by first|exact Or.inl rfl|exact Or.inr rfl) (Jt (Za (Vz (J1 (JA (K:=K)) rfl T.z_list JX (Za (pv 3) Zf))) Zf)))
   (Ze (Zy (i:=7) ZoS.nd rfl (by first|exact Or.inl rfl|exact Or.inr rfl) (Jt Zf))
   (Ze (Zy (i:=8) ZoS.nd rfl (by first|exact Or.inl rfl|exact Or.inr rfl) (Jt Zf))
   (Ze (QB PassesOwn.never rfl (J6 (K:=K) (ZgW (ZgQ (K:=K)) (pv 0) ZiI (ZiH Zl))) (Jq (i:=9) ZoS.nd rfl (by first|exact Or.inl rfl|exact Or.inr rfl)) (Ze (Zy (i:=10) ZoS.nd rfl (by first|exact Or.inl rfl|exact Or.inr rfl) (ZO (Zu (K:=K)) (Jt (Za Zl (Za Zl (Za Zl (Za Zl (Za Zl (Za Zl (Za Zl Zf)))))))) (ZF Ju (pv 9) Zl) (fun _ _=>rfl)))
   (Ze (Zy (i:=11) ZoS.nd rfl (by first|exact Or.inl rfl|exact Or.inr rfl) (ZF Ju (ZF Jf (pv 9) Zl) (pv 2)))
   (Ze (ZV (Zx (Ja (K:=K) hu) (ZF Ju (ZF Jf (pv 9) Zl) Zl) Zl (Z9 _)) (Ze (Zy (i:=12) ZoS.nd rfl (by first|exact Or.inl rfl|exact Or.inr rfl) (ZF Ju (ZF Jf (pv 9) Zl) (ZF Zfx Zl Zl)))
   (Zk (Zy (i:=11) ZoS.nd rfl (by first|exact Or.inl rfl|exact Or.inr rfl) (ZO (Zu (K:=K)) (Jt (Za (QD Vv Zl) (Za (pv 2) (Za (ZF UP (QD Vv Zl) (pv 12)) (Za (ZF Uq (pv 2) (pv 12)) Zf))))) (ZF Ju (pv 12) Zl) (fun _ _=>rfl))))) Z6)
   (Ze (Zy (i:=13) ZoS.nd rfl (by first|exact Or.inl rfl|exact Or.inr rfl) (ZS Zth (hr.mono (by decide)) rfl (Za (pv 6) (Za (pv 7) (Za (pv 8) (Za (pv 10) (Za (pv 11) Zf)))))))
   (Ze (Zy (i:=14) ZoS.nd rfl (by first|exact Or.inl rfl|exact Or.inr rfl) (ZS ZsW (hr.mono (by decide)) rfl (Za (pv 5) (Za (pv 10) (Za (pv 11) Zf)))))
   (Zk (ZV (PW.pt (QA (Vy (Zv (Js (K:=K) (n := "bool") rfl) rfl T.z_isinstance Z8 (Za (pv 14) (Za (JS (v:=.ty "bool") rfl T.z_bool ZcW rfl) Zf)))) (QA (Zx (UQ (K:=K) hu) (pv 14) (pv 13) (Z9 _)) (Uk (Ul (Vy (ZS Zq6 (hr.mono (by decide)) rfl (Za (pv 5) (Za (pv 6) (Za (pv 7) (Za (ZF Jf (pv 9) Zl) Zf))))))))))) (Zk (Z1 Zap)) Z6))))))))
   (Zk (Z1 (ZS Zq6 (hr.mono (by decide)) rfl (Za (pv 5) (Za (pv 6) (Za (pv 7) (Za (ZF Jf (pv 1) Zl) Zf)))))))))))))))))),
   (Zm (Γm:=[.S,.P,.U,.U,.U,.U,.U,.U,.U,.U,.U,.U,.U,.U,.U]) (Z3 (i:=1) (ZhK (Zh (Zh Zr)) (Zb (Zc (i:=0) (m:=.S) rfl (by decide)) (Zb (DE.toA Zj) Zi))) (by decide))
   (Zm (Γm:=[.S,.P,.P,.U,.U,.U,.U,.U,.U,.U,.U,.U,.U,.U,.U]) (Z3 (i:=2) (U5 (DE.toA Zj) (DE.toA (Jv (DE.toA (Zg (i:=1) rfl)) (DE.toA Zj)))) (by decide))
   (Zm (Γm:=[.S,.P,.P,.U,.U,.U,.U,.U,.U,.U,.U,.U,.U,.U,.U]) (ZZ (Zw (DE.toA (ZM (g:=id) (DE.toA (Jv (DE.toA (JP (DE.toA (Zg (i:=1) rfl)) (DE.toA Zj))) (DE.toA Zj))) (DE.toA Zj))))
   (Z3 (i:=2) (U5 (DE.toA Zj) (DE.toA (Jv (DE.toA (JP (DE.toA (Zg (i:=1) rfl)) (DE.toA Zj))) (DE.toA Zj)))) (by decide))
   Z7)
   (Zm (Γm:=[.S,.P,.P,.O,.U,.U,.U,.U,.U,.U,.U,.U,.U,.U,.U]) (Ji (i:=3) (ZjM (Zh (Zh (Zh Zr))) (Zb (Zc (i:=0) (m:=.S) rfl (by decide)) (Zb (DE.toA (Zg (i:=2) rfl)) (Zb (DE.toA (Jv (DE.toA (JP (DE.toA (Zg (i:=1) rfl)) (DE.toA Zj))) (DE.toA Zj))) Zi)))) (by decide))
   (Zm (Γm:=[.S,.P,.P,.O,.O,.U,.U,.U,.U,.U,.U,.U,.U,.U,.U]) (Ji (i:=4) (VL (Zb (Zc (i:=3) (m:=.O) rfl (by decide)) Zi)) (by decide))
   (Zm (Γm:=[.S,.P,.P,.O,.O,.O,.U,.U,.U,.U,.U,.U,.U,.U,.U]) (Ji (i:=5) (Zjy (n := "RingBook") (Zh Zr) (Zb (Zc (i:=4) (m:=.O) rfl (by decide)) Zi)) (by decide))
   (Zm (Γm:=[.S,.P,.P,.O,.O,.O,.U,.U,.U,.U,.U,.U,.U,.U,.U]) (V5 (i:=4) rfl (U5 (ZB (te:=tC .non) (Zc (i:=4) (m:=.O) rfl (by decide)) (DE.toA Zj)) (DE.toA Zj)) (DE.toA Zj))
   (Zm (Γm:=[.S,.P,.P,.O,.O,.O,.O,.U,.U,.U,.U,.U,.U,.U,.U]) (Ji (i:=6) (Jj (Z4 (DE.PF (V8 (VL (Zb (Zc (i:=3) (m:=.S) rfl (by decide)) Zi)))) Je)) (by decide))
   (Zm (Γm:=[.S,.P,.P,.O,.O,.O,.O,.O,.U,.U,.U,.U,.U,.U,.U]) (Ji (i:=7) (Jj Je) (by decide))
   (Zm (Γm:=[.S,.P,.P,.O,.O,.O,.O,.O,.O,.U,.U,.U,.U,.U,.U]) (Ji (i:=8) (Jj Je) (by decide))
   (Zm (Γm:=[.S,.P,.P,.O,.O,.O,.O,.O,.O,.U,.U,.U,.U,.U,.U]) (Zae (Γl:=[.S,.P,.P,.O,.O,.O,.O,.O,.O,.U,.U,.U,.U,.U,.U]) (Vm (DE.FZ (Zlc (Zc (i:=0) (m:=.S) rfl (by decide)) Zjr (Zjq (DE.toA Zj))))) rfl (Ziw (i:=9) (by decide))
   (DS.out (Y:=⟨[.S,.P,.P,.O,.O,.O,.O,.O,.O,.P,.P,.P,.U,.P,.P],[.S,.P,.P,.O,.O,.O,.O,.O,.O,.U,.U,.U,.U,.U,.U],[.S,.P,.P,.O,.O,.O,.O,.O,.O,.U,.U,.U,.U,.U,.U],.P⟩) (Y':=⟨[.S,.P,.P,.O,.O,.O,.O,.O,.O,.U,.U,.U,.U,.U,.U],[.S,.P,.P,.O,.O,.O,.O,.O,.O,.U,.U,.U,.U,.U,.U],[.S,.P,.P,.O,.O,.O,.O,.O,.O,.U,.U,.U,.U,.U,.U],.P⟩) (Zm (Γm:=[.S,.P,.P,.O,.O,.O,.O,.O,.O,.P,.P,.U,.U,.U,.U]) (Z3 (i:=10) (DE.grd (ZB (te:=tC .non) (DE.toA (Jj (Z4 (DE.PF Zj) (Z4 (DE.PF Zj) (Z4 (DE.PF Zj) (Z4 (DE.PF Zj) (Z4 (DE.PF Zj) (Z4 (DE.PF Zj) (Z4 (DE.PF Zj) Je))))))))) (DE.toA (Jv (DE.toA (Zg (i:=9) rfl)) (DE.toA Zj))))) (by decide))
   (Zm (Γm:=[.S,.P,.P,.O,.O,.O,.O,.O,.O,.P,.P,.P,.U,.U,.U]) (Z3 (i:=11) (Jv (DE.toA (JP (DE.toA (Zg (i:=9) rfl)) (DE.toA Zj))) (DE.toA (Zg (i:=2) rfl))) (by decide))
   (Zm (Γm:=[.S,.P,.P,.O,.O,.O,.O,.O,.O,.P,.P,.P,.U,.U,.U]) (ZZ (Zw (DE.toA (ZM (g:=id) (DE.toA (Jv (DE.toA (JP (DE.toA (Zg (i:=9) rfl)) (DE.toA Zj))) (DE.toA Zj))) (DE.toA Zj))))
   (DS.out (Y:=⟨[.S,.P,.P,.O,.O,.O,.O,.O,.O,.P,.P,.P,.P,.U,.U],[.S,.P,.P,.O,.O,.O,.O,.O,.O,.U,.U,.U,.U,.U,.U],[.S,.P,.P,.O,.O,.O,.O,.O,.O,.U,.U,.U,.U,.U,.U],.P⟩) (Y':=⟨[.S,.P,.P,.O,.O,.O,.O,.O,.O,.P,.P,.P,.U,.U,.U],[.S,.P,.P,.O,.O,.O,.O,.O,.O,.U,.U,.U,.U,.U,.U],[.S,.P,.P,.O,.O,.O,.O,.O,.O,.U,.U,.U,.U,.U,.U],.P⟩) (Zm (Γm:=[.S,.P,.P,.O,.O,.O,.O,.O,.O,.P,.P,.P,.P,.U,.U]) (Z3 (i:=12) (Jv (DE.toA (JP (DE.toA (Zg (i:=9) rfl)) (DE.toA Zj))) (DE.toA (Zgf (DE.toA Zj) (DE.toA Zj)))) (by decide))
   (Z3 (i:=11) (DE.grd (ZB (te:=tC .non) (DE.toA (Jj (Z4 (DE.PF (V7 (DE.toA Zj))) (Z4 (DE.PF (Zg (i:=2) rfl)) (Z4 (DE.PF (UV (DE.toA (V7 (DE.toA Zj))) (DE.toA (Zg (i:=12) rfl)))) (Z4 (DE.PF (U5 (DE.toA (Zg (i:=2) rfl)) (DE.toA (Zg (i:=12) rfl)))) Je)))))) (DE.toA (Jv (DE.toA (Zg (i:=12) rfl)) (DE.toA Zj))))) (by decide))) rfl rfl rfl rfl)
   Z7)
   (Zm (Γm:=[.S,.P,.P,.O,.O,.O,.O,.O,.O,.P,.P,.P,.U,.P,.U]) (Zjn (i0:=6) (i1:=7) (i2:=8) (l:=13) rfl rfl rfl (by decide) (by decide) (by decide) (by decide) (Zh (Zh Zr)) (ZdX (Zgc (l:=10) (md:=.P) rfl (by decide)) (ZdX (Zgc (l:=11) (md:=.P) rfl (by decide)) Zj2)))
   (Zm (Γm:=[.S,.P,.P,.O,.O,.O,.O,.O,.O,.P,.P,.P,.U,.P,.P]) (Zbi (l:=14) (JN (i:=5) rfl (Zh (Zh Zr)) (Zb (DE.toA (Zg (i:=10) rfl)) (Zb (DE.toA (Zg (i:=11) rfl)) Zi))) (by decide))
   (ZZ (Zab (ZeC (DE.toA (U4 (DE.toA (Zg (i:=14) rfl))))) (Zab (Zw (DE.toA (ZM (g:=(!·)) (DE.toA (Zg (i:=14) rfl)) (DE.toA (Zg (i:=13) rfl))))) (U0 (ZeC (DE.toA (ZhK (Zh (Zh (Zh (Zh Zr)))) (Zb (Zc (i:=5) (m:=.O) rfl (by decide)) (Zb (Zc (i:=6) (m:=.O) rfl (by decide)) (Zb (Zc (i:=7) (m:=.O) rfl (by decide)) (Zb (DE.toA (JP (DE.toA (Zg (i:=9) rfl)) (DE.toA Zj))) Zi))))))))))
   (ZG Zau)
   Z7)))))) rfl rfl rfl rfl))
   (ZG (ZhK (Zh (Zh (Zh (Zh Zr)))) (Zb (Zc (i:=5) (m:=.O) rfl (by decide)) (Zb (Zc (i:=6) (m:=.O) rfl (by decide)) (Zb (Zc (i:=7) (m:=.O) rfl (by decide)) (Zb (DE.toA (JP (DE.toA (Zg (i:=1) rfl)) (DE.toA Zj))) Zi))))))))))))))))), ?_⟩
 refine Pm.ref ZrD (g:=fun xs=>_) ?_
 rintro(ns:List Int) (hn:ns.length<=63)
 simp only[ZrD]
 walk_at "pd"
 rw[Zqs (by omega)]
 walk_at "pd"
 generalize hh:ns.getD 0 0=h
 obtain⟨pits,hp0,hp1,e⟩:∃pits:Int,2<=pits/\pits<=24/\(if decide (h/5%8=3)=true then RS.next [.lst (ns.map PV.int),.int h,.int (7+h/40%18),.non,.non,.non,.non,.non,.non,.non,.non,.non,.non,.non,.non] else RS.next [.lst (ns.map PV.int),.int h,.int (2+h%5),.non,.non,.non,.non,.non,.non,.non,.non,.non,.non,.non,.non])=RS.next [.lst (ns.map PV.int),.int h,.int pits,.non,.non,.non,.non,.non,.non,.non,.non,.non,.non,.non,.non]:=by
  by_cases q:h/5%8=3
  ·exact⟨7+h/40%18,by omega,by omega,if_pos (decide_eq_true q)⟩
  ·exact⟨2+h%5,by omega,by omega,if_neg (by rw[decide_eq_false q];decide)⟩
 rw[e]
 walk_at "pd"
 rw[ZoW ⟨by omega,by omega,by omega⟩]
 have hB:=Zaq ns (pits:=pits) (way:=h/720%4) (by omega) (by omega)
 generalize VD ns pits (h/720%4)=b at *
 have hb1:=hB.lo
 have hb2:=hB.hi
 walk_at "pd"
 rw[ZqE (Jo.mpr hB) (by omega)]
 walk_at "pd"
 rw[ZdL,UU]
 walk_at "pd"
 have h63:(ns.take 63).length<=63:=by rw[Zu4];omega
 generalize hw:Ze0 _ _ _=W
 obtain⟨ρ',rfl,k,v4,v9,v10,v11,v12,v13,v14,rfl,hI⟩:=Uz hw (fun i ρ=>∃k v4 v9 v10 v11 v12 v13 v14,ρ=[.lst (ns.map PV.int),.int h,.int pits,.lst (b.map PV.int),v4,bkP none k,.lst (k.bs.map fzI),.lst (k.ds.map dd3),.lst (k.us.map UL),v9,v10,v11,v12,v13,v14]/\BkG i k) ⟨⟨[b],[],[]⟩,_,_,_,_,_,_,_,rfl,BkG.first hB⟩ (by
  rintro i x ρ hx ⟨k,v4,v9,v10,v11,v12,v13,v14,rfl,hI⟩
  have hi:i<(ns.take 63).length:=by
   have:=(ZtN.mp hx).1
   simpa using this
  rw[ZtL,Zt6 hi] at hx
  cases hx
  generalize (ns.take 63)[i]=c
  have m0:=ZtV c (show (7:Int)≠0 by decide)
  have m1:=ZtR c (show (0:Int)<7 by decide)
  obtain⟨wy,hwy,ewy⟩:∃wy:Int,(0<=wy/\wy<=3)/\pIx (.lst [.int 0,.int 1,.int 0,.int 1,.int 2,.int 2,.int 3]) (.int (c%7))=.ok (.int wy):=by
   refine⟨([0,1,0,1,2,2,3]:List Int).getD (c%7).toNat 0, ?_,ZP (ns:=[0,1,0,1,2,2,3]) m0 (by simp only[ZtK,Zuq];omega)⟩
   have:(c%7).toNat<7:=by omega
   generalize (c%7).toNat=j at *
   rcases j with _|_|_|_|_|_|_|j<;>first|(constructor<;>decide)|omega
  walk_at "pd"
  rw[ewy]
  walk_at "pd"
  generalize hW2:(if decide (c/49%9=4)=true then (_:RS) else _)=W2
  obtain⟨pt,u12,rfl⟩:∃(pt:Int) (u12:PV),W2=RS.next [.lst (ns.map PV.int),.int h,.int pits,.lst (b.map PV.int),v4,bkP none k,.lst (k.bs.map fzI),.lst (k.ds.map dd3),.lst (k.us.map UL),.int c,.int wy,.int pt,u12,v13,v14]:=by
   rw[<- hW2]
   by_cases q4:c/49%9=4
   ·have n0:=ZtV (c/441%10^60) (show (4:Int)≠0 by decide)
    have n1:=ZtR (c/441%10^60) (show (0:Int)<4 by decide)
    generalize c/441%10^60=far at *
    rw[if_pos (decide_eq_true q4),show pIx (.lst [.int (-1),.int pits,.int (-1-far),.int (pits+far)]) (.int (far%4))=.ok (.int (([-1,pits,-1-far,pits+far]:List Int).getD (far%4).toNat 0)) from ZP (ns:=[-1,pits,-1-far,pits+far]) n0 (by simp only[ZtK,Zuq];omega)]
    exact⟨_,_,rfl⟩
   ·rw[if_neg (by rw[decide_eq_false q4];decide)]
    exact⟨_,_,rfl⟩
  have hG:=hI.next (p:=pt) hwy
  have hK:BkG 100 k:=hI.mono (by omega)
  walk_at "pd"
  rw[Zp2 ⟨hK,hwy⟩]
  walk_at "pd"
  rw[Zcm ⟨hK,hwy⟩]
  walk_at "pd"
  have dn:Dat 0 .non:=⟨rfl,by simp[PV.dat,PyData.canLay0],by simp[PV.dat,PyData.depth]⟩
  have last:=Zo4 (c:=c/3) (hG.mono (show i+1<=63 by omega))
  rcases ZeI (w:=wy) (p:=pt) hI with ⟨z,ez⟩|ez|⟨x,ez,cx⟩
  ·rw[ez]
   walk_at "pd"
   try rw[V0 (ZcR z)]
   walk_at "pd"
   rw[last]
   walk_at "pd"
   exact Vk ⟨nxK k wy pt,_,_,_,_,_,_,_,rfl,hG⟩
  ·rw[ez]
   walk_at "pd"
   try rw[V0 dn]
   walk_at "pd"
   rw[last]
   walk_at "pd"
   exact Vk ⟨nxK k wy pt,_,_,_,_,_,_,_,rfl,hG⟩
  ·rw[ez]
   walk_at "pd"
   try rw[V0 (ZcQ cx)]
   walk_at "pd"
   rw[last]
   walk_at "pd"
   exact Vk ⟨nxK k wy pt,_,_,_,_,_,_,_,rfl,hG⟩)
 walk_at "pd"
 rw[Zo4 (hI.mono (by rw[Zt7];omega))]
 walk_at "pd"
noncomputable def ZeQ (K:W.Frag):Sp:=spF K 1 .P W0 ZrD.fn
theorem ZkC {l:PySem.W.OpenLaw} (T:Txt K mg) {fa:Addr} (hmg:mg "law"=some (.ref fa)):∃fd:FuncData,(∀(s:Shared) (u:Value),BindsTo s fd ⟨[u],[]⟩ [("script",u)]) /\
  ∀base:Heap,K.In base->base.Ns mainGlobals mg->Jd l.prog w K mg base CX0 11 fa fd ["script"] (ZeQ K):=by
 obtain⟨f,fd,F,hm⟩:=T.Zt4
 rw[hmg] at hm
 cases hm
 refine⟨fd,fun s u=>?_,fun base _ _=>Zt2 T F⟩
 obtain⟨oc,od,kV,doc,pm,an,cdv,ct,osl,rfl,lk,hcd⟩:=F.ex
 exact .of_eq (Zt3 kV doc pm an cdv ct [u] rfl)
theorem ZfE {H:Hp}{a:Addr}{ns:List Int} (hl:ns.length<=63) (hO:Zl3 H) (hS:SqL K H a (ns.map V.int)):ZeQ K [.ref a] H (fun v _=>v=.bl true) fun _ _ _=>False:=
 Zew (Pm.fn_eq ZrD ns hl fun _ _=>rfl) hS
end
theorem ZjT {K:W.Frag}{h:Heap}{mg:Str->Option Value}{ZrM ZpD Zqk Zre Zpi ZoB Zqj Zrf ZpC Zqm Zpu Zsw ZqB Zpc ZrL Ztm Zpt Zqi Zrg Zql ZqC Ztz:Addr} (X:K.In h) (G:h.Ns mainGlobals mg)
  {od__law_at an__law_at:Option Addr}{sl__law_at:Array (Option Value)}{oc__law_at kV__law_at dc__law_at ZoL cd__law_at ct__law_at:Value}
  {od__law_folded an__law_folded:Option Addr}{sl__law_folded:Array (Option Value)}{oc__law_folded kV__law_folded dc__law_folded Zoe cd__law_folded ct__law_folded:Value}
  {od__law_board an__law_board:Option Addr}{sl__law_board:Array (Option Value)}{oc__law_board kV__law_board dc__law_board Zop cd__law_board ct__law_board:Value}
  {od_is_whole an_is_whole:Option Addr}{sl_is_whole:Array (Option Value)}{oc_is_whole kV_is_whole dc_is_whole ZoG cd_is_whole ct_is_whole:Value}
  {od_is_whole_from an_is_whole_from:Option Addr}{sl_is_whole_from:Array (Option Value)}{oc_is_whole_from kV_is_whole_from dc_is_whole_from ZnQ cd_is_whole_from ct_is_whole_from:Value}
  {od_is_list_from_nought an_is_list_from_nought:Option Addr}{sl_is_list_from_nought:Array (Option Value)}{oc_is_list_from_nought kV_is_list_from_nought dc_is_list_from_nought Zn5 cd_is_list_from_nought ct_is_list_from_nought:Value}
  {od_most_seeds an_most_seeds:Option Addr}{sl_most_seeds:Array (Option Value)}{oc_most_seeds kV_most_seeds dc_most_seeds Zo2 cd_most_seeds ct_most_seeds:Value}
  {od_is_board an_is_board:Option Addr}{sl_is_board:Array (Option Value)}{oc_is_board kV_is_board dc_is_board Zot cd_is_board ct_is_board:Value}
  {od_check_board an_check_board:Option Addr}{sl_check_board:Array (Option Value)}{oc_check_board kV_check_board dc_check_board Zod cd_check_board ct_check_board:Value}
  {od__law_again an__law_again:Option Addr}{sl__law_again:Array (Option Value)}{oc__law_again kV__law_again dc__law_again Zoq cd__law_again ct__law_again:Value}
  {od__law_as_kept an__law_as_kept:Option Addr}{sl__law_as_kept:Array (Option Value)}{oc__law_as_kept kV__law_as_kept dc__law_as_kept Zoh cd__law_as_kept ct__law_as_kept:Value}
  {od_is_pit an_is_pit:Option Addr}{sl_is_pit:Array (Option Value)}{oc_is_pit kV_is_pit dc_is_pit ZoE cd_is_pit ct_is_pit:Value}
  {od_check_pit an_check_pit:Option Addr}{sl_check_pit:Array (Option Value)}{oc_check_pit kV_check_pit dc_check_pit Zo0 cd_check_pit ct_check_pit:Value}
  {od_check_standing an_check_standing:Option Addr}{sl_check_standing:Array (Option Value)}{oc_check_standing kV_check_standing dc_check_standing ZnL cd_check_standing ct_check_standing:Value}
  {od_sow_pit an_sow_pit:Option Addr}{sl_sow_pit:Array (Option Value)}{oc_sow_pit kV_sow_pit dc_sow_pit Zo3 cd_sow_pit ct_sow_pit:Value}
  {od_sown an_sown:Option Addr}{sl_sown:Array (Option Value)}{oc_sown kV_sown dc_sown Zp5 cd_sown ct_sown:Value}
  {od_take_back_at an_take_back_at:Option Addr}{sl_take_back_at:Array (Option Value)}{oc_take_back_at kV_take_back_at dc_take_back_at ZnK cd_take_back_at ct_take_back_at:Value}
  {od_taken_back an_taken_back:Option Addr}{sl_taken_back:Array (Option Value)}{oc_taken_back kV_taken_back dc_taken_back ZnZ cd_taken_back ct_taken_back:Value}
  {od__law_due an__law_due:Option Addr}{sl__law_due:Array (Option Value)}{oc__law_due kV__law_due dc__law_due Zo8 cd__law_due ct__law_due:Value}
  {od__law_asked an__law_asked:Option Addr}{sl__law_asked:Array (Option Value)}{oc__law_asked kV__law_asked dc__law_asked Zoa cd__law_asked ct__law_asked:Value}
  {od__law_told an__law_told:Option Addr}{sl__law_told:Array (Option Value)}{oc__law_told kV__law_told dc__law_told Zoo cd__law_told ct__law_told:Value}
  {od_law an_law:Option Addr}{sl_law:Array (Option Value)}{oc_law kV_law dc_law ZrD cd_law ct_law:Value}
  (ZrZ:PySem.W.nsIn K mainGlobals "_law_at"=some (some (.ref ZrM))) (ZrF:K.lookup ZrM=some ⟨oc__law_at,od__law_at,.func (PySem.W.fnOf "_law_at" "_law_at" (Zo ZoU) (Zn ZoU) (Zd ZoU) .none kV__law_at dc__law_at ZoL an__law_at cd__law_at ct__law_at),sl__law_at⟩) (Zqs:PySem.W.codeIn K cd__law_at "_law_at"=true) (ZrH:PySem.W.keepIn K (.ref ZrM)=true)
  (ZpH:PySem.W.nsIn K mainGlobals "_law_folded"=some (some (.ref ZpD))) (Zp7:K.lookup ZpD=some ⟨oc__law_folded,od__law_folded,.func (PySem.W.fnOf "_law_folded" "_law_folded" (Zo Zom) (Zn Zom) (Zd Zom) .none kV__law_folded dc__law_folded Zoe an__law_folded cd__law_folded ct__law_folded),sl__law_folded⟩) (ZoP:PySem.W.codeIn K cd__law_folded "_law_folded"=true) (Zp9:PySem.W.keepIn K (.ref ZpD)=true)
  (Zqw:PySem.W.nsIn K mainGlobals "_law_board"=some (some (.ref Zqk))) (Zqa:K.lookup Zqk=some ⟨oc__law_board,od__law_board,.func (PySem.W.fnOf "_law_board" "_law_board" (Zo Zoy) (Zn Zoy) (Zd Zoy) .none kV__law_board dc__law_board Zop an__law_board cd__law_board ct__law_board),sl__law_board⟩) (ZoW:PySem.W.codeIn K cd__law_board "_law_board"=true) (Zqf:PySem.W.keepIn K (.ref Zqk)=true)
  (Zrp:PySem.W.nsIn K mainGlobals "is_whole"=some (some (.ref Zre))) (ZqW:K.lookup Zre=some ⟨oc_is_whole,od_is_whole,.func (PySem.W.fnOf "is_whole" "is_whole" (Zo ZoI) (Zn ZoI) (Zd ZoI) .none kV_is_whole dc_is_whole ZoG an_is_whole cd_is_whole ct_is_whole),sl_is_whole⟩) (Zp0:PySem.W.codeIn K cd_is_whole "is_whole"=true) (ZqZ:PySem.W.keepIn K (.ref Zre)=true)
  (Zpl:PySem.W.nsIn K mainGlobals "is_whole_from"=some (some (.ref Zpi))) (Zpg:K.lookup Zpi=some ⟨oc_is_whole_from,od_is_whole_from,.func (PySem.W.fnOf "is_whole_from" "is_whole_from" (Zo ZnT) (Zn ZnT) (Zd ZnT) .none kV_is_whole_from dc_is_whole_from ZnQ an_is_whole_from cd_is_whole_from ct_is_whole_from),sl_is_whole_from⟩) (Zou:PySem.W.codeIn K cd_is_whole_from "is_whole_from"=true) (Zph:PySem.W.keepIn K (.ref Zpi)=true)
  (ZoC:PySem.W.nsIn K mainGlobals "is_list_from_nought"=some (some (.ref ZoB))) (Zo9:K.lookup ZoB=some ⟨oc_is_list_from_nought,od_is_list_from_nought,.func (PySem.W.fnOf "is_list_from_nought" "is_list_from_nought" (Zo Zn6) (Zn Zn6) (Zd Zn6) .none kV_is_list_from_nought dc_is_list_from_nought Zn5 an_is_list_from_nought cd_is_list_from_nought ct_is_list_from_nought),sl_is_list_from_nought⟩) (ZnU:PySem.W.codeIn K cd_is_list_from_nought "is_list_from_nought"=true) (ZoA:PySem.W.keepIn K (.ref ZoB)=true)
  (Zqv:PySem.W.nsIn K mainGlobals "most_seeds"=some (some (.ref Zqj))) (ZpZ:K.lookup Zqj=some ⟨oc_most_seeds,od_most_seeds,.func (PySem.W.fnOf "most_seeds" "most_seeds" (Zo Zox) (Zn Zox) (Zd Zox) .none kV_most_seeds dc_most_seeds Zo2 an_most_seeds cd_most_seeds ct_most_seeds),sl_most_seeds⟩) (ZoV:PySem.W.codeIn K cd_most_seeds "most_seeds"=true) (Zqe:PySem.W.keepIn K (.ref Zqj)=true)
  (Zrq:PySem.W.nsIn K mainGlobals "is_board"=some (some (.ref Zrf))) (ZqX:K.lookup Zrf=some ⟨oc_is_board,od_is_board,.func (PySem.W.fnOf "is_board" "is_board" (Zo ZoJ) (Zn ZoJ) (Zd ZoJ) .none kV_is_board dc_is_board Zot an_is_board cd_is_board ct_is_board),sl_is_board⟩) (Zp1:PySem.W.codeIn K cd_is_board "is_board"=true) (Zra:PySem.W.keepIn K (.ref Zrf)=true)
  (ZpG:PySem.W.nsIn K mainGlobals "check_board"=some (some (.ref ZpC))) (Zp6:K.lookup ZpC=some ⟨oc_check_board,od_check_board,.func (PySem.W.fnOf "check_board" "check_board" (Zo Zol) (Zn Zol) (Zd Zol) .none kV_check_board dc_check_board Zod an_check_board cd_check_board ct_check_board),sl_check_board⟩) (ZoD:PySem.W.codeIn K cd_check_board "check_board"=true) (Zp8:PySem.W.keepIn K (.ref ZpC)=true)
  (Zqy:PySem.W.nsIn K mainGlobals "_law_again"=some (some (.ref Zqm))) (Zqc:K.lookup Zqm=some ⟨oc__law_again,od__law_again,.func (PySem.W.fnOf "_law_again" "_law_again" (Zo Zoz) (Zn Zoz) (Zd Zoz) .none kV__law_again dc__law_again Zoq an__law_again cd__law_again ct__law_again),sl__law_again⟩) (ZoY:PySem.W.codeIn K cd__law_again "_law_again"=true) (Zqh:PySem.W.keepIn K (.ref Zqm)=true)
  (Zpw:PySem.W.nsIn K mainGlobals "_law_as_kept"=some (some (.ref Zpu))) (Zpq:K.lookup Zpu=some ⟨oc__law_as_kept,od__law_as_kept,.func (PySem.W.fnOf "_law_as_kept" "_law_as_kept" (Zo Zoc) (Zn Zoc) (Zd Zoc) .none kV__law_as_kept dc__law_as_kept Zoh an__law_as_kept cd__law_as_kept ct__law_as_kept),sl__law_as_kept⟩) (Zo4:PySem.W.codeIn K cd__law_as_kept "_law_as_kept"=true) (Zps:PySem.W.keepIn K (.ref Zpu)=true)
  (Zs2:PySem.W.nsIn K mainGlobals "is_pit"=some (some (.ref Zsw))) (Zsq:K.lookup Zsw=some ⟨oc_is_pit,od_is_pit,.func (PySem.W.fnOf "is_pit" "is_pit" (Zo Zpo) (Zn Zpo) (Zd Zpo) .none kV_is_pit dc_is_pit ZoE an_is_pit cd_is_pit ct_is_pit),sl_is_pit⟩) (ZqP:PySem.W.codeIn K cd_is_pit "is_pit"=true) (Zsr:PySem.W.keepIn K (.ref Zsw)=true)
  (ZqF:PySem.W.nsIn K mainGlobals "check_pit"=some (some (.ref ZqB))) (Zq7:K.lookup ZqB=some ⟨oc_check_pit,od_check_pit,.func (PySem.W.fnOf "check_pit" "check_pit" (Zo Zo6) (Zn Zo6) (Zd Zo6) .none kV_check_pit dc_check_pit Zo0 an_check_pit cd_check_pit ct_check_pit),sl_check_pit⟩) (Zpj:PySem.W.codeIn K cd_check_pit "check_pit"=true) (Zq9:PySem.W.keepIn K (.ref ZqB)=true)
  (Zpd:PySem.W.nsIn K mainGlobals "check_standing"=some (some (.ref Zpc))) (Zpa:K.lookup Zpc=some ⟨oc_check_standing,od_check_standing,.func (PySem.W.fnOf "check_standing" "check_standing" (Zo ZnP) (Zn ZnP) (Zd ZnP) .none kV_check_standing dc_check_standing ZnL an_check_standing cd_check_standing ct_check_standing),sl_check_standing⟩) (Zok:PySem.W.codeIn K cd_check_standing "check_standing"=true) (Zpb:PySem.W.keepIn K (.ref Zpc)=true)
  (ZrY:PySem.W.nsIn K mainGlobals "sow_pit"=some (some (.ref ZrL))) (ZrE:K.lookup ZrL=some ⟨oc_sow_pit,od_sow_pit,.func (PySem.W.fnOf "sow_pit" "sow_pit" (Zo ZoT) (Zn ZoT) (Zd ZoT) .none kV_sow_pit dc_sow_pit Zo3 an_sow_pit cd_sow_pit ct_sow_pit),sl_sow_pit⟩) (Zqr:PySem.W.codeIn K cd_sow_pit "sow_pit"=true) (ZrG:PySem.W.keepIn K (.ref ZrL)=true)
  (Ztr:PySem.W.nsIn K mainGlobals "sown"=some (some (.ref Ztm))) (Ztj:K.lookup Ztm=some ⟨oc_sown,od_sown,.func (PySem.W.fnOf "sown" "sown" (Zo Zrv) (Zn Zrv) (Zd Zrv) .none kV_sown dc_sown Zp5 an_sown cd_sown ct_sown),sl_sown⟩) (Zsn:PySem.W.codeIn K cd_sown "sown"=true) (Ztk:PySem.W.keepIn K (.ref Ztm)=true)
  (Zpv:PySem.W.nsIn K mainGlobals "take_back_at"=some (some (.ref Zpt))) (Zpp:K.lookup Zpt=some ⟨oc_take_back_at,od_take_back_at,.func (PySem.W.fnOf "take_back_at" "take_back_at" (Zo Zob) (Zn Zob) (Zd Zob) .none kV_take_back_at dc_take_back_at ZnK an_take_back_at cd_take_back_at ct_take_back_at),sl_take_back_at⟩) (ZoF:PySem.W.codeIn K cd_take_back_at "take_back_at"=true) (Zpr:PySem.W.keepIn K (.ref Zpt)=true)
  (Zqu:PySem.W.nsIn K mainGlobals "taken_back"=some (some (.ref Zqi))) (ZpY:K.lookup Zqi=some ⟨oc_taken_back,od_taken_back,.func (PySem.W.fnOf "taken_back" "taken_back" (Zo Zow) (Zn Zow) (Zd Zow) .none kV_taken_back dc_taken_back ZnZ an_taken_back cd_taken_back ct_taken_back),sl_taken_back⟩) (ZoM:PySem.W.codeIn K cd_taken_back "taken_back"=true) (Zqd:PySem.W.keepIn K (.ref Zqi)=true)
  (Zrr:PySem.W.nsIn K mainGlobals "_law_due"=some (some (.ref Zrg))) (ZqY:K.lookup Zrg=some ⟨oc__law_due,od__law_due,.func (PySem.W.fnOf "_law_due" "_law_due" (Zo ZoK) (Zn ZoK) (Zd ZoK) .none kV__law_due dc__law_due Zo8 an__law_due cd__law_due ct__law_due),sl__law_due⟩) (Zp2:PySem.W.codeIn K cd__law_due "_law_due"=true) (Zrb:PySem.W.keepIn K (.ref Zrg)=true)
  (Zqx:PySem.W.nsIn K mainGlobals "_law_asked"=some (some (.ref Zql))) (Zqb:K.lookup Zql=some ⟨oc__law_asked,od__law_asked,.func (PySem.W.fnOf "_law_asked" "_law_asked" (Zo Zon) (Zn Zon) (Zd Zon) .none kV__law_asked dc__law_asked Zoa an__law_asked cd__law_asked ct__law_asked),sl__law_asked⟩) (ZoX:PySem.W.codeIn K cd__law_asked "_law_asked"=true) (Zqg:PySem.W.keepIn K (.ref Zql)=true)
  (ZqG:PySem.W.nsIn K mainGlobals "_law_told"=some (some (.ref ZqC))) (Zq8:K.lookup ZqC=some ⟨oc__law_told,od__law_told,.func (PySem.W.fnOf "_law_told" "_law_told" (Zo Zo7) (Zn Zo7) (Zd Zo7) .none kV__law_told dc__law_told Zoo an__law_told cd__law_told ct__law_told),sl__law_told⟩) (Zpk:PySem.W.codeIn K cd__law_told "_law_told"=true) (ZqA:PySem.W.keepIn K (.ref ZqC)=true)
  (Zt1:PySem.W.nsIn K mainGlobals "law"=some (some (.ref Ztz))) (Ztx:K.lookup Ztz=some ⟨oc_law,od_law,.func (PySem.W.fnOf "law" "law" (Zo Zs5) (Zn Zs5) (Zd Zs5) .none kV_law dc_law ZrD an_law cd_law ct_law),sl_law⟩) (Zt0:PySem.W.codeIn K cd_law "law"=true) (Zty:PySem.W.keepIn K (.ref Ztz)=true)
  {t_FEWEST_PITS:Tok} (a_FEWEST_PITS:PySem.W.nsIn K mainGlobals "FEWEST_PITS"=some (some (.int 2 t_FEWEST_PITS)))
  {t_MOST_PITS:Tok} (a_MOST_PITS:PySem.W.nsIn K mainGlobals "MOST_PITS"=some (some (.int 24 t_MOST_PITS)))
  (z_ValueError:PySem.W.nsIn K mainGlobals "ValueError"=some none)
  (z_all:PySem.W.nsIn K mainGlobals "all"=some none)
  (z_bool:PySem.W.nsIn K mainGlobals "bool"=some none)
  (z_enumerate:PySem.W.nsIn K mainGlobals "enumerate"=some none)
  (z_int:PySem.W.nsIn K mainGlobals "int"=some none)
  (z_isinstance:PySem.W.nsIn K mainGlobals "isinstance"=some none)
  (z_len:PySem.W.nsIn K mainGlobals "len"=some none)
  (z_list:PySem.W.nsIn K mainGlobals "list"=some none)
  (z_min:PySem.W.nsIn K mainGlobals "min"=some none)
  (z_range:PySem.W.nsIn K mainGlobals "range"=some none)
  (z_sorted:PySem.W.nsIn K mainGlobals "sorted"=some none)
  (z_sum:PySem.W.nsIn K mainGlobals "sum"=some none)
  (z_tuple:PySem.W.nsIn K mainGlobals "tuple"=some none)
  (x_tab:ZgB K XN XS=true) (x_exc:Zi4 K XR=true)
  {C_SowError fm_SowError:Addr}{odm_SowError anm_SowError:Option Addr}{slm_SowError:Array (Option Value)}{ocm_SowError kVm_SowError dcm_SowError pmm_SowError cdm_SowError ctm_SowError:Value}
  (am_SowError:PySem.W.nsIn K mainGlobals "SowError"=some (some (.ref C_SowError))) (fm1_SowError:PySem.W.findIn K (.ref C_SowError) "called"=some (some (.ref fm_SowError))) (tm_SowError:PySem.W.typeIn K (.ref fm_SowError)=some (.type "function")) (lm_SowError:K.lookup fm_SowError=some ⟨ocm_SowError,odm_SowError,.func (PySem.W.fnOf "called" "SowError.called" (Zo Jw) (Zn Jw) (Zd Jw) .none kVm_SowError dcm_SowError pmm_SowError anm_SowError cdm_SowError ctm_SowError),slm_SowError⟩) (cm_SowError:PySem.W.codeIn K cdm_SowError "SowError.called"=true) (km_SowError:PySem.W.keepIn K (.ref fm_SowError)=true)
  {C_BadBoard fm_BadBoard:Addr}{odm_BadBoard anm_BadBoard:Option Addr}{slm_BadBoard:Array (Option Value)}{ocm_BadBoard kVm_BadBoard dcm_BadBoard pmm_BadBoard cdm_BadBoard ctm_BadBoard:Value}
  (am_BadBoard:PySem.W.nsIn K mainGlobals "BadBoard"=some (some (.ref C_BadBoard))) (fm1_BadBoard:PySem.W.findIn K (.ref C_BadBoard) "called"=some (some (.ref fm_BadBoard))) (tm_BadBoard:PySem.W.typeIn K (.ref fm_BadBoard)=some (.type "function")) (lm_BadBoard:K.lookup fm_BadBoard=some ⟨ocm_BadBoard,odm_BadBoard,.func (PySem.W.fnOf "called" "BadBoard.called" (Zo Jx) (Zn Jx) (Zd Jx) .none kVm_BadBoard dcm_BadBoard pmm_BadBoard anm_BadBoard cdm_BadBoard ctm_BadBoard),slm_BadBoard⟩) (cm_BadBoard:PySem.W.codeIn K cdm_BadBoard "BadBoard.called"=true) (km_BadBoard:PySem.W.keepIn K (.ref fm_BadBoard)=true)
  {C_BadPit fm_BadPit:Addr}{odm_BadPit anm_BadPit:Option Addr}{slm_BadPit:Array (Option Value)}{ocm_BadPit kVm_BadPit dcm_BadPit pmm_BadPit cdm_BadPit ctm_BadPit:Value}
  (am_BadPit:PySem.W.nsIn K mainGlobals "BadPit"=some (some (.ref C_BadPit))) (fm1_BadPit:PySem.W.findIn K (.ref C_BadPit) "called"=some (some (.ref fm_BadPit))) (tm_BadPit:PySem.W.typeIn K (.ref fm_BadPit)=some (.type "function")) (lm_BadPit:K.lookup fm_BadPit=some ⟨ocm_BadPit,odm_BadPit,.func (PySem.W.fnOf "called" "BadPit.called" (Zo Va) (Zn Va) (Zd Va) .none kVm_BadPit dcm_BadPit pmm_BadPit anm_BadPit cdm_BadPit ctm_BadPit),slm_BadPit⟩) (cm_BadPit:PySem.W.codeIn K cdm_BadPit "BadPit.called"=true) (km_BadPit:PySem.W.keepIn K (.ref fm_BadPit)=true)
  {C_NoSeeds fm_NoSeeds:Addr}{odm_NoSeeds anm_NoSeeds:Option Addr}{slm_NoSeeds:Array (Option Value)}{ocm_NoSeeds kVm_NoSeeds dcm_NoSeeds pmm_NoSeeds cdm_NoSeeds ctm_NoSeeds:Value}
  (am_NoSeeds:PySem.W.nsIn K mainGlobals "NoSeeds"=some (some (.ref C_NoSeeds))) (fm1_NoSeeds:PySem.W.findIn K (.ref C_NoSeeds) "called"=some (some (.ref fm_NoSeeds))) (tm_NoSeeds:PySem.W.typeIn K (.ref fm_NoSeeds)=some (.type "function")) (lm_NoSeeds:K.lookup fm_NoSeeds=some ⟨ocm_NoSeeds,odm_NoSeeds,.func (PySem.W.fnOf "called" "NoSeeds.called" (Zo J9) (Zn J9) (Zd J9) .none kVm_NoSeeds dcm_NoSeeds pmm_NoSeeds anm_NoSeeds cdm_NoSeeds ctm_NoSeeds),slm_NoSeeds⟩) (cm_NoSeeds:PySem.W.codeIn K cdm_NoSeeds "NoSeeds.called"=true) (km_NoSeeds:PySem.W.keepIn K (.ref fm_NoSeeds)=true)
  {C_NoDeed fm_NoDeed:Addr}{odm_NoDeed anm_NoDeed:Option Addr}{slm_NoDeed:Array (Option Value)}{ocm_NoDeed kVm_NoDeed dcm_NoDeed pmm_NoDeed cdm_NoDeed ctm_NoDeed:Value}
  (am_NoDeed:PySem.W.nsIn K mainGlobals "NoDeed"=some (some (.ref C_NoDeed))) (fm1_NoDeed:PySem.W.findIn K (.ref C_NoDeed) "called"=some (some (.ref fm_NoDeed))) (tm_NoDeed:PySem.W.typeIn K (.ref fm_NoDeed)=some (.type "function")) (lm_NoDeed:K.lookup fm_NoDeed=some ⟨ocm_NoDeed,odm_NoDeed,.func (PySem.W.fnOf "called" "NoDeed.called" (Zo JZ) (Zn JZ) (Zd JZ) .none kVm_NoDeed dcm_NoDeed pmm_NoDeed anm_NoDeed cdm_NoDeed ctm_NoDeed),slm_NoDeed⟩) (cm_NoDeed:PySem.W.codeIn K cdm_NoDeed "NoDeed.called"=true) (km_NoDeed:PySem.W.keepIn K (.ref fm_NoDeed)=true)
  {C_RingBook___init__ fm_RingBook___init__:Addr}{odm_RingBook___init__ anm_RingBook___init__:Option Addr}{slm_RingBook___init__:Array (Option Value)}{ocm_RingBook___init__ kVm_RingBook___init__ dcm_RingBook___init__ pmm_RingBook___init__ cdm_RingBook___init__ ctm_RingBook___init__:Value}
  (am_RingBook___init__:PySem.W.nsIn K mainGlobals "RingBook"=some (some (.ref C_RingBook___init__))) (fm1_RingBook___init__:PySem.W.findIn K (.ref C_RingBook___init__) "__init__"=some (some (.ref fm_RingBook___init__))) (tm_RingBook___init__:PySem.W.typeIn K (.ref fm_RingBook___init__)=some (.type "function")) (lm_RingBook___init__:K.lookup fm_RingBook___init__=some ⟨ocm_RingBook___init__,odm_RingBook___init__,.func (PySem.W.fnOf "__init__" "RingBook.__init__" (Zo Zn4) (Zn Zn4) (Zd Zn4) .none kVm_RingBook___init__ dcm_RingBook___init__ pmm_RingBook___init__ anm_RingBook___init__ cdm_RingBook___init__ ctm_RingBook___init__),slm_RingBook___init__⟩) (cm_RingBook___init__:PySem.W.codeIn K cdm_RingBook___init__ "RingBook.__init__"=true) (km_RingBook___init__:PySem.W.keepIn K (.ref fm_RingBook___init__)=true)
  {C_RingBook_board fm_RingBook_board:Addr}{odm_RingBook_board anm_RingBook_board:Option Addr}{slm_RingBook_board:Array (Option Value)}{ocm_RingBook_board kVm_RingBook_board dcm_RingBook_board pmm_RingBook_board cdm_RingBook_board ctm_RingBook_board:Value}
  (am_RingBook_board:PySem.W.nsIn K mainGlobals "RingBook"=some (some (.ref C_RingBook_board))) (fm1_RingBook_board:PySem.W.findIn K (.ref C_RingBook_board) "board"=some (some (.ref fm_RingBook_board))) (tm_RingBook_board:PySem.W.typeIn K (.ref fm_RingBook_board)=some (.type "function")) (lm_RingBook_board:K.lookup fm_RingBook_board=some ⟨ocm_RingBook_board,odm_RingBook_board,.func (PySem.W.fnOf "board" "RingBook.board" (Zo ZnC) (Zn ZnC) (Zd ZnC) .none kVm_RingBook_board dcm_RingBook_board pmm_RingBook_board anm_RingBook_board cdm_RingBook_board ctm_RingBook_board),slm_RingBook_board⟩) (cm_RingBook_board:PySem.W.codeIn K cdm_RingBook_board "RingBook.board"=true) (km_RingBook_board:PySem.W.keepIn K (.ref fm_RingBook_board)=true)
  {C_RingBook_plan fm_RingBook_plan:Addr}{odm_RingBook_plan anm_RingBook_plan:Option Addr}{slm_RingBook_plan:Array (Option Value)}{ocm_RingBook_plan kVm_RingBook_plan dcm_RingBook_plan pmm_RingBook_plan cdm_RingBook_plan ctm_RingBook_plan:Value}
  (am_RingBook_plan:PySem.W.nsIn K mainGlobals "RingBook"=some (some (.ref C_RingBook_plan))) (fm1_RingBook_plan:PySem.W.findIn K (.ref C_RingBook_plan) "plan"=some (some (.ref fm_RingBook_plan))) (tm_RingBook_plan:PySem.W.typeIn K (.ref fm_RingBook_plan)=some (.type "function")) (lm_RingBook_plan:K.lookup fm_RingBook_plan=some ⟨ocm_RingBook_plan,odm_RingBook_plan,.func (PySem.W.fnOf "plan" "RingBook.plan" (Zo ZnI) (Zn ZnI) (Zd ZnI) .none kVm_RingBook_plan dcm_RingBook_plan pmm_RingBook_plan anm_RingBook_plan cdm_RingBook_plan ctm_RingBook_plan),slm_RingBook_plan⟩) (cm_RingBook_plan:PySem.W.codeIn K cdm_RingBook_plan "RingBook.plan"=true) (km_RingBook_plan:PySem.W.keepIn K (.ref fm_RingBook_plan)=true)
  {C_RingBook_came_again fm_RingBook_came_again:Addr}{odm_RingBook_came_again anm_RingBook_came_again:Option Addr}{slm_RingBook_came_again:Array (Option Value)}{ocm_RingBook_came_again kVm_RingBook_came_again dcm_RingBook_came_again pmm_RingBook_came_again cdm_RingBook_came_again ctm_RingBook_came_again:Value}
  (am_RingBook_came_again:PySem.W.nsIn K mainGlobals "RingBook"=some (some (.ref C_RingBook_came_again))) (fm1_RingBook_came_again:PySem.W.findIn K (.ref C_RingBook_came_again) "came_again"=some (some (.ref fm_RingBook_came_again))) (tm_RingBook_came_again:PySem.W.typeIn K (.ref fm_RingBook_came_again)=some (.type "function")) (lm_RingBook_came_again:K.lookup fm_RingBook_came_again=some ⟨ocm_RingBook_came_again,odm_RingBook_came_again,.func (PySem.W.fnOf "came_again" "RingBook.came_again" (Zo Zn3) (Zn Zn3) (Zd Zn3) .none kVm_RingBook_came_again dcm_RingBook_came_again pmm_RingBook_came_again anm_RingBook_came_again cdm_RingBook_came_again ctm_RingBook_came_again),slm_RingBook_came_again⟩) (cm_RingBook_came_again:PySem.W.codeIn K cdm_RingBook_came_again "RingBook.came_again"=true) (km_RingBook_came_again:PySem.W.keepIn K (.ref fm_RingBook_came_again)=true)
  {C_RingBook_sown_in_all fm_RingBook_sown_in_all:Addr}{odm_RingBook_sown_in_all anm_RingBook_sown_in_all:Option Addr}{slm_RingBook_sown_in_all:Array (Option Value)}{ocm_RingBook_sown_in_all kVm_RingBook_sown_in_all dcm_RingBook_sown_in_all pmm_RingBook_sown_in_all cdm_RingBook_sown_in_all ctm_RingBook_sown_in_all:Value}
  (am_RingBook_sown_in_all:PySem.W.nsIn K mainGlobals "RingBook"=some (some (.ref C_RingBook_sown_in_all))) (fm1_RingBook_sown_in_all:PySem.W.findIn K (.ref C_RingBook_sown_in_all) "sown_in_all"=some (some (.ref fm_RingBook_sown_in_all))) (tm_RingBook_sown_in_all:PySem.W.typeIn K (.ref fm_RingBook_sown_in_all)=some (.type "function")) (lm_RingBook_sown_in_all:K.lookup fm_RingBook_sown_in_all=some ⟨ocm_RingBook_sown_in_all,odm_RingBook_sown_in_all,.func (PySem.W.fnOf "sown_in_all" "RingBook.sown_in_all" (Zo Zn2) (Zn Zn2) (Zd Zn2) .none kVm_RingBook_sown_in_all dcm_RingBook_sown_in_all pmm_RingBook_sown_in_all anm_RingBook_sown_in_all cdm_RingBook_sown_in_all ctm_RingBook_sown_in_all),slm_RingBook_sown_in_all⟩) (cm_RingBook_sown_in_all:PySem.W.codeIn K cdm_RingBook_sown_in_all "RingBook.sown_in_all"=true) (km_RingBook_sown_in_all:PySem.W.keepIn K (.ref fm_RingBook_sown_in_all)=true)
  {C_RingBook_redo fm_RingBook_redo:Addr}{odm_RingBook_redo anm_RingBook_redo:Option Addr}{slm_RingBook_redo:Array (Option Value)}{ocm_RingBook_redo kVm_RingBook_redo dcm_RingBook_redo pmm_RingBook_redo cdm_RingBook_redo ctm_RingBook_redo:Value}
  (am_RingBook_redo:PySem.W.nsIn K mainGlobals "RingBook"=some (some (.ref C_RingBook_redo))) (fm1_RingBook_redo:PySem.W.findIn K (.ref C_RingBook_redo) "redo"=some (some (.ref fm_RingBook_redo))) (tm_RingBook_redo:PySem.W.typeIn K (.ref fm_RingBook_redo)=some (.type "function")) (lm_RingBook_redo:K.lookup fm_RingBook_redo=some ⟨ocm_RingBook_redo,odm_RingBook_redo,.func (PySem.W.fnOf "redo" "RingBook.redo" (Zo ZnH) (Zn ZnH) (Zd ZnH) .none kVm_RingBook_redo dcm_RingBook_redo pmm_RingBook_redo anm_RingBook_redo cdm_RingBook_redo ctm_RingBook_redo),slm_RingBook_redo⟩) (cm_RingBook_redo:PySem.W.codeIn K cdm_RingBook_redo "RingBook.redo"=true) (km_RingBook_redo:PySem.W.keepIn K (.ref fm_RingBook_redo)=true)
  {C_RingBook_enter fm_RingBook_enter:Addr}{odm_RingBook_enter anm_RingBook_enter:Option Addr}{slm_RingBook_enter:Array (Option Value)}{ocm_RingBook_enter kVm_RingBook_enter dcm_RingBook_enter pmm_RingBook_enter cdm_RingBook_enter ctm_RingBook_enter:Value}
  (am_RingBook_enter:PySem.W.nsIn K mainGlobals "RingBook"=some (some (.ref C_RingBook_enter))) (fm1_RingBook_enter:PySem.W.findIn K (.ref C_RingBook_enter) "enter"=some (some (.ref fm_RingBook_enter))) (tm_RingBook_enter:PySem.W.typeIn K (.ref fm_RingBook_enter)=some (.type "function")) (lm_RingBook_enter:K.lookup fm_RingBook_enter=some ⟨ocm_RingBook_enter,odm_RingBook_enter,.func (PySem.W.fnOf "enter" "RingBook.enter" (Zo ZnB) (Zn ZnB) (Zd ZnB) .none kVm_RingBook_enter dcm_RingBook_enter pmm_RingBook_enter anm_RingBook_enter cdm_RingBook_enter ctm_RingBook_enter),slm_RingBook_enter⟩) (cm_RingBook_enter:PySem.W.codeIn K cdm_RingBook_enter "RingBook.enter"=true) (km_RingBook_enter:PySem.W.keepIn K (.ref fm_RingBook_enter)=true)
  {C_RingBook_sow fm_RingBook_sow:Addr}{odm_RingBook_sow anm_RingBook_sow:Option Addr}{slm_RingBook_sow:Array (Option Value)}{ocm_RingBook_sow kVm_RingBook_sow dcm_RingBook_sow pmm_RingBook_sow cdm_RingBook_sow ctm_RingBook_sow:Value}
  (am_RingBook_sow:PySem.W.nsIn K mainGlobals "RingBook"=some (some (.ref C_RingBook_sow))) (fm1_RingBook_sow:PySem.W.findIn K (.ref C_RingBook_sow) "sow"=some (some (.ref fm_RingBook_sow))) (tm_RingBook_sow:PySem.W.typeIn K (.ref fm_RingBook_sow)=some (.type "function")) (lm_RingBook_sow:K.lookup fm_RingBook_sow=some ⟨ocm_RingBook_sow,odm_RingBook_sow,.func (PySem.W.fnOf "sow" "RingBook.sow" (Zo ZnM) (Zn ZnM) (Zd ZnM) .none kVm_RingBook_sow dcm_RingBook_sow pmm_RingBook_sow anm_RingBook_sow cdm_RingBook_sow ctm_RingBook_sow),slm_RingBook_sow⟩) (cm_RingBook_sow:PySem.W.codeIn K cdm_RingBook_sow "RingBook.sow"=true) (km_RingBook_sow:PySem.W.keepIn K (.ref fm_RingBook_sow)=true)
  {C_RingBook_back fm_RingBook_back:Addr}{odm_RingBook_back anm_RingBook_back:Option Addr}{slm_RingBook_back:Array (Option Value)}{ocm_RingBook_back kVm_RingBook_back dcm_RingBook_back pmm_RingBook_back cdm_RingBook_back ctm_RingBook_back:Value}
  (am_RingBook_back:PySem.W.nsIn K mainGlobals "RingBook"=some (some (.ref C_RingBook_back))) (fm1_RingBook_back:PySem.W.findIn K (.ref C_RingBook_back) "back"=some (some (.ref fm_RingBook_back))) (tm_RingBook_back:PySem.W.typeIn K (.ref fm_RingBook_back)=some (.type "function")) (lm_RingBook_back:K.lookup fm_RingBook_back=some ⟨ocm_RingBook_back,odm_RingBook_back,.func (PySem.W.fnOf "back" "RingBook.back" (Zo ZnJ) (Zn ZnJ) (Zd ZnJ) .none kVm_RingBook_back dcm_RingBook_back pmm_RingBook_back anm_RingBook_back cdm_RingBook_back ctm_RingBook_back),slm_RingBook_back⟩) (cm_RingBook_back:PySem.W.codeIn K cdm_RingBook_back "RingBook.back"=true) (km_RingBook_back:PySem.W.keepIn K (.ref fm_RingBook_back)=true)
  {C_RingBook_undo fm_RingBook_undo:Addr}{odm_RingBook_undo anm_RingBook_undo:Option Addr}{slm_RingBook_undo:Array (Option Value)}{ocm_RingBook_undo kVm_RingBook_undo dcm_RingBook_undo pmm_RingBook_undo cdm_RingBook_undo ctm_RingBook_undo:Value}
  (am_RingBook_undo:PySem.W.nsIn K mainGlobals "RingBook"=some (some (.ref C_RingBook_undo))) (fm1_RingBook_undo:PySem.W.findIn K (.ref C_RingBook_undo) "undo"=some (some (.ref fm_RingBook_undo))) (tm_RingBook_undo:PySem.W.typeIn K (.ref fm_RingBook_undo)=some (.type "function")) (lm_RingBook_undo:K.lookup fm_RingBook_undo=some ⟨ocm_RingBook_undo,odm_RingBook_undo,.func (PySem.W.fnOf "undo" "RingBook.undo" (Zo ZnG) (Zn ZnG) (Zd ZnG) .none kVm_RingBook_undo dcm_RingBook_undo pmm_RingBook_undo anm_RingBook_undo cdm_RingBook_undo ctm_RingBook_undo),slm_RingBook_undo⟩) (cm_RingBook_undo:PySem.W.codeIn K cdm_RingBook_undo "RingBook.undo"=true) (km_RingBook_undo:PySem.W.keepIn K (.ref fm_RingBook_undo)=true)
  {C_RingBook_redo_x fm_RingBook_redo_x:Addr}{odm_RingBook_redo_x anm_RingBook_redo_x:Option Addr}{slm_RingBook_redo_x:Array (Option Value)}{ocm_RingBook_redo_x kVm_RingBook_redo_x dcm_RingBook_redo_x pmm_RingBook_redo_x cdm_RingBook_redo_x ctm_RingBook_redo_x:Value}
  (am_RingBook_redo_x:PySem.W.nsIn K mainGlobals "RingBook"=some (some (.ref C_RingBook_redo_x))) (fm1_RingBook_redo_x:PySem.W.findIn K (.ref C_RingBook_redo_x) "redo"=some (some (.ref fm_RingBook_redo_x))) (tm_RingBook_redo_x:PySem.W.typeIn K (.ref fm_RingBook_redo_x)=some (.type "function")) (lm_RingBook_redo_x:K.lookup fm_RingBook_redo_x=some ⟨ocm_RingBook_redo_x,odm_RingBook_redo_x,.func (PySem.W.fnOf "redo" "RingBook.redo" (Zo Zn8) (Zn Zn8) (Zd Zn8) .none kVm_RingBook_redo_x dcm_RingBook_redo_x pmm_RingBook_redo_x anm_RingBook_redo_x cdm_RingBook_redo_x ctm_RingBook_redo_x),slm_RingBook_redo_x⟩) (cm_RingBook_redo_x:PySem.W.codeIn K cdm_RingBook_redo_x "RingBook.redo"=true) (km_RingBook_redo_x:PySem.W.keepIn K (.ref fm_RingBook_redo_x)=true)
  {C_RingBook_sow_x fm_RingBook_sow_x:Addr}{odm_RingBook_sow_x anm_RingBook_sow_x:Option Addr}{slm_RingBook_sow_x:Array (Option Value)}{ocm_RingBook_sow_x kVm_RingBook_sow_x dcm_RingBook_sow_x pmm_RingBook_sow_x cdm_RingBook_sow_x ctm_RingBook_sow_x:Value}
  (am_RingBook_sow_x:PySem.W.nsIn K mainGlobals "RingBook"=some (some (.ref C_RingBook_sow_x))) (fm1_RingBook_sow_x:PySem.W.findIn K (.ref C_RingBook_sow_x) "sow"=some (some (.ref fm_RingBook_sow_x))) (tm_RingBook_sow_x:PySem.W.typeIn K (.ref fm_RingBook_sow_x)=some (.type "function")) (lm_RingBook_sow_x:K.lookup fm_RingBook_sow_x=some ⟨ocm_RingBook_sow_x,odm_RingBook_sow_x,.func (PySem.W.fnOf "sow" "RingBook.sow" (Zo ZnA) (Zn ZnA) (Zd ZnA) .none kVm_RingBook_sow_x dcm_RingBook_sow_x pmm_RingBook_sow_x anm_RingBook_sow_x cdm_RingBook_sow_x ctm_RingBook_sow_x),slm_RingBook_sow_x⟩) (cm_RingBook_sow_x:PySem.W.codeIn K cdm_RingBook_sow_x "RingBook.sow"=true) (km_RingBook_sow_x:PySem.W.keepIn K (.ref fm_RingBook_sow_x)=true)
  {C_RingBook_back_x fm_RingBook_back_x:Addr}{odm_RingBook_back_x anm_RingBook_back_x:Option Addr}{slm_RingBook_back_x:Array (Option Value)}{ocm_RingBook_back_x kVm_RingBook_back_x dcm_RingBook_back_x pmm_RingBook_back_x cdm_RingBook_back_x ctm_RingBook_back_x:Value}
  (am_RingBook_back_x:PySem.W.nsIn K mainGlobals "RingBook"=some (some (.ref C_RingBook_back_x))) (fm1_RingBook_back_x:PySem.W.findIn K (.ref C_RingBook_back_x) "back"=some (some (.ref fm_RingBook_back_x))) (tm_RingBook_back_x:PySem.W.typeIn K (.ref fm_RingBook_back_x)=some (.type "function")) (lm_RingBook_back_x:K.lookup fm_RingBook_back_x=some ⟨ocm_RingBook_back_x,odm_RingBook_back_x,.func (PySem.W.fnOf "back" "RingBook.back" (Zo Zn9) (Zn Zn9) (Zd Zn9) .none kVm_RingBook_back_x dcm_RingBook_back_x pmm_RingBook_back_x anm_RingBook_back_x cdm_RingBook_back_x ctm_RingBook_back_x),slm_RingBook_back_x⟩) (cm_RingBook_back_x:PySem.W.codeIn K cdm_RingBook_back_x "RingBook.back"=true) (km_RingBook_back_x:PySem.W.keepIn K (.ref fm_RingBook_back_x)=true)
  {C_RingBook_undo_x fm_RingBook_undo_x:Addr}{odm_RingBook_undo_x anm_RingBook_undo_x:Option Addr}{slm_RingBook_undo_x:Array (Option Value)}{ocm_RingBook_undo_x kVm_RingBook_undo_x dcm_RingBook_undo_x pmm_RingBook_undo_x cdm_RingBook_undo_x ctm_RingBook_undo_x:Value}
  (am_RingBook_undo_x:PySem.W.nsIn K mainGlobals "RingBook"=some (some (.ref C_RingBook_undo_x))) (fm1_RingBook_undo_x:PySem.W.findIn K (.ref C_RingBook_undo_x) "undo"=some (some (.ref fm_RingBook_undo_x))) (tm_RingBook_undo_x:PySem.W.typeIn K (.ref fm_RingBook_undo_x)=some (.type "function")) (lm_RingBook_undo_x:K.lookup fm_RingBook_undo_x=some ⟨ocm_RingBook_undo_x,odm_RingBook_undo_x,.func (PySem.W.fnOf "undo" "RingBook.undo" (Zo Zn7) (Zn Zn7) (Zd Zn7) .none kVm_RingBook_undo_x dcm_RingBook_undo_x pmm_RingBook_undo_x anm_RingBook_undo_x cdm_RingBook_undo_x ctm_RingBook_undo_x),slm_RingBook_undo_x⟩) (cm_RingBook_undo_x:PySem.W.codeIn K cdm_RingBook_undo_x "RingBook.undo"=true) (km_RingBook_undo_x:PySem.W.keepIn K (.ref fm_RingBook_undo_x)=true)
  (o_RingBook:UW K "RingBook" Zp=true)
  :Txt K mg:=by
 refine⟨?_, ?_, ?_, ?_, ?_, ?_, ?_, ?_, ?_, ?_, ?_, ?_, ?_, ?_, ?_, ?_, ?_, ?_, ?_, ?_, ?_, ?_, ?_, ?_, ?_, ?_, ?_, ?_, ?_, ?_, ?_, ?_, ?_, ?_, ?_, ?_, ?_,x_tab,x_exc,fun n C e=>PySem.W.mg_of X G e,⟨_,_,_,am_SowError,fm1_SowError,tm_SowError,ZC (st:=Jw) lm_SowError cm_SowError km_SowError⟩,⟨_,_,_,am_BadBoard,fm1_BadBoard,tm_BadBoard,ZC (st:=Jx) lm_BadBoard cm_BadBoard km_BadBoard⟩,⟨_,_,_,am_BadPit,fm1_BadPit,tm_BadPit,ZC (st:=Va) lm_BadPit cm_BadPit km_BadPit⟩,⟨_,_,_,am_NoSeeds,fm1_NoSeeds,tm_NoSeeds,ZC (st:=J9) lm_NoSeeds cm_NoSeeds km_NoSeeds⟩,⟨_,_,_,am_NoDeed,fm1_NoDeed,tm_NoDeed,ZC (st:=JZ) lm_NoDeed cm_NoDeed km_NoDeed⟩,⟨_,_,_,am_RingBook___init__,fm1_RingBook___init__,tm_RingBook___init__,ZC (st:=Zn4) lm_RingBook___init__ cm_RingBook___init__ km_RingBook___init__⟩,⟨_,_,_,am_RingBook_board,fm1_RingBook_board,tm_RingBook_board,ZC (st:=ZnC) lm_RingBook_board cm_RingBook_board km_RingBook_board⟩,⟨_,_,_,am_RingBook_plan,fm1_RingBook_plan,tm_RingBook_plan,ZC (st:=ZnI) lm_RingBook_plan cm_RingBook_plan km_RingBook_plan⟩,⟨_,_,_,am_RingBook_came_again,fm1_RingBook_came_again,tm_RingBook_came_again,ZC (st:=Zn3) lm_RingBook_came_again cm_RingBook_came_again km_RingBook_came_again⟩,⟨_,_,_,am_RingBook_sown_in_all,fm1_RingBook_sown_in_all,tm_RingBook_sown_in_all,ZC (st:=Zn2) lm_RingBook_sown_in_all cm_RingBook_sown_in_all km_RingBook_sown_in_all⟩,⟨_,_,_,am_RingBook_redo,fm1_RingBook_redo,tm_RingBook_redo,ZC (st:=ZnH) lm_RingBook_redo cm_RingBook_redo km_RingBook_redo⟩,⟨_,_,_,am_RingBook_enter,fm1_RingBook_enter,tm_RingBook_enter,ZC (st:=ZnB) lm_RingBook_enter cm_RingBook_enter km_RingBook_enter⟩,⟨_,_,_,am_RingBook_sow,fm1_RingBook_sow,tm_RingBook_sow,ZC (st:=ZnM) lm_RingBook_sow cm_RingBook_sow km_RingBook_sow⟩,⟨_,_,_,am_RingBook_back,fm1_RingBook_back,tm_RingBook_back,ZC (st:=ZnJ) lm_RingBook_back cm_RingBook_back km_RingBook_back⟩,⟨_,_,_,am_RingBook_undo,fm1_RingBook_undo,tm_RingBook_undo,ZC (st:=ZnG) lm_RingBook_undo cm_RingBook_undo km_RingBook_undo⟩,⟨_,_,_,am_RingBook_redo_x,fm1_RingBook_redo_x,tm_RingBook_redo_x,ZC (st:=Zn8) lm_RingBook_redo_x cm_RingBook_redo_x km_RingBook_redo_x⟩,⟨_,_,_,am_RingBook_sow_x,fm1_RingBook_sow_x,tm_RingBook_sow_x,ZC (st:=ZnA) lm_RingBook_sow_x cm_RingBook_sow_x km_RingBook_sow_x⟩,⟨_,_,_,am_RingBook_back_x,fm1_RingBook_back_x,tm_RingBook_back_x,ZC (st:=Zn9) lm_RingBook_back_x cm_RingBook_back_x km_RingBook_back_x⟩,⟨_,_,_,am_RingBook_undo_x,fm1_RingBook_undo_x,tm_RingBook_undo_x,ZC (st:=Zn7) lm_RingBook_undo_x cm_RingBook_undo_x km_RingBook_undo_x⟩,o_RingBook⟩
 ·exact⟨_,_,ZC (st:=ZoU) ZrF Zqs ZrH,PySem.W.mg_of X G ZrZ⟩
 ·exact⟨_,_,ZC (st:=Zom) Zp7 ZoP Zp9,PySem.W.mg_of X G ZpH⟩
 ·exact⟨_,_,ZC (st:=Zoy) Zqa ZoW Zqf,PySem.W.mg_of X G Zqw⟩
 ·exact⟨_,_,ZC (st:=ZoI) ZqW Zp0 ZqZ,PySem.W.mg_of X G Zrp⟩
 ·exact⟨_,_,ZC (st:=ZnT) Zpg Zou Zph,PySem.W.mg_of X G Zpl⟩
 ·exact⟨_,_,ZC (st:=Zn6) Zo9 ZnU ZoA,PySem.W.mg_of X G ZoC⟩
 ·exact⟨_,_,ZC (st:=Zox) ZpZ ZoV Zqe,PySem.W.mg_of X G Zqv⟩
 ·exact⟨_,_,ZC (st:=ZoJ) ZqX Zp1 Zra,PySem.W.mg_of X G Zrq⟩
 ·exact⟨_,_,ZC (st:=Zol) Zp6 ZoD Zp8,PySem.W.mg_of X G ZpG⟩
 ·exact⟨_,_,ZC (st:=Zoz) Zqc ZoY Zqh,PySem.W.mg_of X G Zqy⟩
 ·exact⟨_,_,ZC (st:=Zoc) Zpq Zo4 Zps,PySem.W.mg_of X G Zpw⟩
 ·exact⟨_,_,ZC (st:=Zpo) Zsq ZqP Zsr,PySem.W.mg_of X G Zs2⟩
 ·exact⟨_,_,ZC (st:=Zo6) Zq7 Zpj Zq9,PySem.W.mg_of X G ZqF⟩
 ·exact⟨_,_,ZC (st:=ZnP) Zpa Zok Zpb,PySem.W.mg_of X G Zpd⟩
 ·exact⟨_,_,ZC (st:=ZoT) ZrE Zqr ZrG,PySem.W.mg_of X G ZrY⟩
 ·exact⟨_,_,ZC (st:=Zrv) Ztj Zsn Ztk,PySem.W.mg_of X G Ztr⟩
 ·exact⟨_,_,ZC (st:=Zob) Zpp ZoF Zpr,PySem.W.mg_of X G Zpv⟩
 ·exact⟨_,_,ZC (st:=Zow) ZpY ZoM Zqd,PySem.W.mg_of X G Zqu⟩
 ·exact⟨_,_,ZC (st:=ZoK) ZqY Zp2 Zrb,PySem.W.mg_of X G Zrr⟩
 ·exact⟨_,_,ZC (st:=Zon) Zqb ZoX Zqg,PySem.W.mg_of X G Zqx⟩
 ·exact⟨_,_,ZC (st:=Zo7) Zq8 Zpk ZqA,PySem.W.mg_of X G ZqG⟩
 ·exact⟨_,_,ZC (st:=Zs5) Ztx Zt0 Zty,PySem.W.mg_of X G Zt1⟩
 ·exact⟨_,PySem.W.mg_of X G a_FEWEST_PITS⟩
 ·exact⟨_,PySem.W.mg_of X G a_MOST_PITS⟩
 ·exact PySem.W.mg_none_of X G z_ValueError
 ·exact PySem.W.mg_none_of X G z_all
 ·exact PySem.W.mg_none_of X G z_bool
 ·exact PySem.W.mg_none_of X G z_enumerate
 ·exact PySem.W.mg_none_of X G z_int
 ·exact PySem.W.mg_none_of X G z_isinstance
 ·exact PySem.W.mg_none_of X G z_len
 ·exact PySem.W.mg_none_of X G z_list
 ·exact PySem.W.mg_none_of X G z_min
 ·exact PySem.W.mg_none_of X G z_range
 ·exact PySem.W.mg_none_of X G z_sorted
 ·exact PySem.W.mg_none_of X G z_sum
 ·exact PySem.W.mg_none_of X G z_tuple
end My
namespace PySem.W.Fast
noncomputable def tw7366596618999191680:=()
noncomputable def tw5502842328644985024:=()
noncomputable def tw14863460558656233792:=()
noncomputable def tw13832311950175545856:=()
noncomputable def tw11580363990439282208:=()
noncomputable def tw11596560828879030848:=()
noncomputable def tw6941176833017517664:=()
noncomputable def tw5588104239922532320:=()
noncomputable def tw10053845274969643137:=()
noncomputable def tw9893506344768599201:=()
noncomputable def tw8399717406338253057:=()
noncomputable def tw8205649873971025249:=()
noncomputable def tw2270723232693147009:=()
noncomputable def tw4350133658932133601:=()
noncomputable def tw12196039363236444993:=()
noncomputable def tw2362211011788624737:=()
noncomputable def tw4447237249198242914:=()
noncomputable def tw856328474654218786:=()
noncomputable def tw13411276630872699554:=()
noncomputable def tw4272556906052968194:=()
noncomputable def tw15079352920418555714:=()
noncomputable def tw7722128036780116898:=()
noncomputable def tw13879537645176785890:=()
noncomputable def tw15942151701798841475:=()
noncomputable def tw9173297900376633475:=()
noncomputable def tw10121281892295467171:=()
noncomputable def tw10668282043682649315:=()
noncomputable def tw649205424235924803:=()
noncomputable def tw8958996694936802851:=()
noncomputable def tw498838343764289540:=()
noncomputable def tw9945835068225982532:=()
noncomputable def tw12040311329163760004:=()
noncomputable def tw13985977547473944996:=()
noncomputable def tw12027220383279733412:=()
noncomputable def tw14365239168683670244:=()
noncomputable def tw3094735458182833924:=()
noncomputable def tw4772424571674825572:=()
noncomputable def tw12921012464666714084:=()
noncomputable def tw11250111939201517605:=()
noncomputable def tw12193435868026681413:=()
noncomputable def tw20961303562155109:=()
noncomputable def tw16161992758300963973:=()
noncomputable def tw5322755279723658661:=()
noncomputable def tw4217079059035464261:=()
noncomputable def tw13304503262700367429:=()
noncomputable def tw16094545724966700645:=()
noncomputable def tw2281378691086619237:=()
noncomputable def tw6771936297132552037:=()
noncomputable def tw2283443017993001957:=()
noncomputable def tw2025250950052872165:=()
noncomputable def tw7288447070660653158:=()
noncomputable def tw17709068114522197126:=()
noncomputable def tw18128362692063313062:=()
noncomputable def tw2106314117446305990:=()
noncomputable def tw3019444547460639942:=()
noncomputable def tw453261585262517638:=()
noncomputable def tw5142729427280398214:=()
noncomputable def tw860753185564383303:=()
noncomputable def tw12059612408376836263:=()
noncomputable def tw17260407315379536167:=()
noncomputable def tw12058334652768879943:=()
noncomputable def tw16135757507360898535:=()
noncomputable def tw1003263334792522215:=()
noncomputable def tw10835121084825403047:=()
noncomputable def tw12828425708581503687:=()
noncomputable def tw13241207008803235623:=()
noncomputable def tw12442375802205615911:=()
noncomputable def tw5353630424008079175:=()
noncomputable def tw17202743058596305895:=()
noncomputable def tw7116633659557474312:=()
noncomputable def tw12030951199438343208:=()
noncomputable def tw15665592072023468072:=()
noncomputable def tw17808210998590166088:=()
noncomputable def tw15420706082331124872:=()
noncomputable def tw4447390649481849992:=()
noncomputable def tw4038698832828508392:=()
noncomputable def tw3210358595928370568:=()
noncomputable def tw4263150666095681000:=()
noncomputable def tw12345491532220506632:=()
noncomputable def tw7733621454975557256:=()
noncomputable def tw4634383993346196104:=()
noncomputable def tw2197807766093931432:=()
noncomputable def tw5198944698418097289:=()
noncomputable def tw12350865527319834793:=()
noncomputable def tw9145956616909907273:=()
noncomputable def tw11684945208070919561:=()
noncomputable def tw15386142390800865065:=()
noncomputable def tw14186175371870351177:=()
noncomputable def tw9680980972987504617:=()
noncomputable def tw802887393297785866:=()
noncomputable def tw2134084911232604202:=()
noncomputable def tw15110237198029694314:=()
noncomputable def tw15298196721075211722:=()
noncomputable def tw14524956221773849258:=()
noncomputable def tw15725096153745924810:=()
noncomputable def tw2357804563991606379:=()
noncomputable def tw16100410806785454379:=()
noncomputable def tw7513403523871008075:=()
noncomputable def tw1674123492021199563:=()
noncomputable def tw15558662716943260459:=()
noncomputable def tw9000457402403421099:=()
noncomputable def tw13855620328298908619:=()
noncomputable def tw16137106798733649867:=()
noncomputable def tw8290272121760652235:=()
noncomputable def tw15229656382412111020:=()
noncomputable def tw8863682105445232108:=()
noncomputable def tw11604628827003028076:=()
noncomputable def tw9073988355118708396:=()
noncomputable def tw11225323923663509164:=()
noncomputable def tw6628702545148008268:=()
noncomputable def tw9893665129232390988:=()
noncomputable def tw12049754447554745292:=()
noncomputable def tw9620459758271241805:=()
noncomputable def tw13829462619862385357:=()
noncomputable def tw1189361694753354637:=()
noncomputable def tw1684863720831196238:=()
noncomputable def tw8603711896392800430:=()
noncomputable def tw7502309420805479471:=()
noncomputable def tw9325734595925401679:=()
noncomputable def tw10030316366354041967:=()
noncomputable def tw5273717839758025935:=()
noncomputable def tw2434890825103305039:=()
noncomputable def tw14233016565239157103:=()
noncomputable def tw16876956118857195919:=()
noncomputable def tw12564089577640554287:=()
noncomputable def tw9644813591691176943:=()
noncomputable def tw152041593659328656:=()
noncomputable def tw8119901254174434448:=()
noncomputable def tw6645613924901833968:=()
noncomputable def tw5079513733371104528:=()
noncomputable def tw313689589936954704:=()
noncomputable def tw12426279239147852336:=()
noncomputable def tw12440935824370541296:=()
noncomputable def tw18336208789826391824:=()
noncomputable def tw17127049617569295152:=()
noncomputable def tw17737371224939506672:=()
noncomputable def tw3583490819850246193:=()
noncomputable def tw1037561816494565553:=()
noncomputable def tw9183151631289488721:=()
noncomputable def tw5792243138795116913:=()
noncomputable def tw10141504863187395121:=()
noncomputable def tw9380773993775770193:=()
noncomputable def tw9199285698560517777:=()
noncomputable def tw1053157572301360913:=()
noncomputable def tw8724881404617827666:=()
noncomputable def tw1490587094566069746:=()
noncomputable def tw8861722657966904178:=()
noncomputable def tw15332150272096352275:=()
noncomputable def tw274456246789125363:=()
noncomputable def tw4410907564447389203:=()
noncomputable def tw13475002071622544947:=()
noncomputable def tw659417465209501331:=()
noncomputable def tw9744207428729954995:=()
noncomputable def tw14072407080892764083:=()
noncomputable def tw14956746211049604051:=()
noncomputable def tw15409022651371791412:=()
noncomputable def tw4170004439893562580:=()
noncomputable def tw5287669285526995348:=()
noncomputable def tw10089463987283373620:=()
noncomputable def tw16218672510677348980:=()
noncomputable def tw16588342028118922900:=()
noncomputable def tw14181254633527282452:=()
noncomputable def tw2945861993254154164:=()
noncomputable def tw14611569696347350996:=()
noncomputable def tw11911013038097101812:=()
noncomputable def tw3461648156458847445:=()
noncomputable def tw8902430758236641557:=()
noncomputable def tw10504268964561214805:=()
noncomputable def tw9511101186686788149:=()
noncomputable def tw7546454332885938165:=()
noncomputable def tw10359292112966569238:=()
noncomputable def tw2670208522962099862:=()
noncomputable def tw385539566653405942:=()
noncomputable def tw1343076358177204118:=()
noncomputable def tw5999857718105848119:=()
noncomputable def tw2682616787160842839:=()
noncomputable def tw11507109766685512311:=()
noncomputable def tw8482009426523292375:=()
noncomputable def tw15299602207176903736:=()
noncomputable def tw16264333006768883928:=()
noncomputable def tw2870684945464854776:=()
noncomputable def tw5798719249934432696:=()
noncomputable def tw12834734257739322872:=()
noncomputable def tw6742451282154027672:=()
noncomputable def tw15208723146834465528:=()
noncomputable def tw1632000526047298424:=()
noncomputable def tw3897376344913739736:=()
noncomputable def tw16279127715455307865:=()
noncomputable def tw13090471009200540793:=()
noncomputable def tw12737039463900543097:=()
noncomputable def tw1016725074251124921:=()
noncomputable def tw4638945091897362681:=()
noncomputable def tw4579605748118124825:=()
noncomputable def tw14067283985493275929:=()
noncomputable def tw18428848069737867737:=()
noncomputable def tw13172866608008731129:=()
noncomputable def tw4445853549795189337:=()
noncomputable def tw8071797717720443481:=()
noncomputable def tw5734537967277151833:=()
noncomputable def tw13673618213175917337:=()
noncomputable def tw4255403443820419929:=()
noncomputable def tw11271895757413704601:=()
noncomputable def tw1716264599757652889:=()
noncomputable def tw13732069984146353145:=()
noncomputable def tw10303749275530095642:=()
noncomputable def tw7845738798766697530:=()
noncomputable def tw12886664788950294650:=()
noncomputable def tw16656041465862301818:=()
noncomputable def tw10590912640202154138:=()
noncomputable def tw90350619110274234:=()
noncomputable def tw18074896824007428602:=()
noncomputable def tw14546650541298167322:=()
noncomputable def tw8208077295609541178:=()
noncomputable def tw11414003536458151546:=()
noncomputable def tw15177642183851506330:=()
noncomputable def tw15563391543347109626:=()
noncomputable def tw3285997924181318490:=()
noncomputable def tw17885068081786522586:=()
noncomputable def tw7812707175374979195:=()
noncomputable def tw10920421981615118523:=()
noncomputable def tw5863388547764166907:=()
noncomputable def tw15327522463672771899:=()
noncomputable def tw8135061770896848187:=()
noncomputable def tw14930643631775272283:=()
noncomputable def tw7607022774329688411:=()
noncomputable def tw15582976573310367131:=()
noncomputable def tw1497098769629759899:=()
noncomputable def tw15609651459953756731:=()
noncomputable def tw3611620010478112475:=()
noncomputable def tw8900895905850122716:=()
noncomputable def tw8520951388260940284:=()
noncomputable def tw14135025854877822492:=()
noncomputable def tw12297555905021241916:=()
noncomputable def tw11804857171183006428:=()
noncomputable def tw2694390632942878524:=()
noncomputable def tw8405323006082102268:=()
noncomputable def tw6554372134173758525:=()
noncomputable def tw9874696416372590973:=()
noncomputable def tw4776654985137974717:=()
noncomputable def tw17028854736396946205:=()
noncomputable def tw2876301489006813085:=()
noncomputable def tw8054037558920225789:=()
noncomputable def tw9444515351446902142:=()
noncomputable def tw3726547023038438942:=()
noncomputable def tw4347642328630563422:=()
noncomputable def tw8749795452855640670:=()
noncomputable def tw11162685782962796222:=()
noncomputable def tw3757926695564465950:=()
noncomputable def tw17669309073098262334:=()
noncomputable def tw4926353722207342558:=()
noncomputable def tw17494757262280921086:=()
noncomputable def tw7558922214077600863:=()
noncomputable def tw9824474404393994431:=()
noncomputable def tw4092759282041514367:=()
noncomputable def tw6611895130016660927:=()
noncomputable def tw5419100103668924895:=()
noncomputable def tw17917249191319951871:=()
noncomputable def tw9793158365666566719:=()
noncomputable def tw16943002250759926463:=()
noncomputable def tw8030196752781284063:=()
noncomputable def tw14553180896247671551:=()
noncomputable def tw5713293740506920767:=()
noncomputable def tw17325886372742617983:=()
noncomputable def tw1043034927600425919:=()
noncomputable def tw10186744426201094889:=()
noncomputable def tw3353752448463445128:=()
noncomputable def tw5182902301399044937:=()
noncomputable def tw7277276930685652310:=()
noncomputable def tw16249761827814251249:=()
noncomputable def tw944966458603267079:=()
noncomputable def tw9691562585396851044:=()
end PySem.W.Fast
open PySem PySem.W PyProof.Rows
set_option maxRecDepth 100000 in
set_option maxHeartbeats 0 in
theorem PySem.Challenge.cw_sowring_k58_deeds_of_a_book_holds : PySem.Challenge.rw_sowring_k58_deeds_of_a_book.Holds := by
 w_on;o_law;k_head;(case hw=>w_witness2)
 k_fill
 refine L2.ZgJ (l:=PySem.Challenge.rw_sowring_k58_deeds_of_a_book) (n:=63) (k:=11) (x := "script") (CX:=L2.CX0) (sp:=My.ZeQ) rfl (by decide) rfl ⟨rfl,by decide,by decide⟩ (fun w h Y=>by first|exact PySem.W.kIn_of Y|exact PySem.W.km_in_of Y) ?F ?S ?C
 case F =>
  intro w mg fa h KX G hmg
  have T:My.Txt (L2.KOf KX) mg:=by
   dsimp only[L2.KOf]
   refine' My.ZjT KX G ?ZrZ ?ZrF ?Zqs ?ZrH ?ZpH ?Zp7 ?ZoP ?Zp9 ?Zqw ?Zqa ?ZoW ?Zqf ?Zrp ?ZqW ?Zp0 ?ZqZ ?Zpl ?Zpg ?Zou ?Zph ?ZoC ?Zo9 ?ZnU ?ZoA ?Zqv ?ZpZ ?ZoV ?Zqe ?Zrq ?ZqX ?Zp1 ?Zra ?ZpG ?Zp6 ?ZoD ?Zp8 ?Zqy ?Zqc ?ZoY ?Zqh ?Zpw ?Zpq ?Zo4 ?Zps ?Zs2 ?Zsq ?ZqP ?Zsr ?ZqF ?Zq7 ?Zpj ?Zq9 ?Zpd ?Zpa ?Zok ?Zpb ?ZrY ?ZrE ?Zqr ?ZrG ?Ztr ?Ztj ?Zsn ?Ztk ?Zpv ?Zpp ?ZoF ?Zpr ?Zqu ?ZpY ?ZoM ?Zqd ?Zrr ?ZqY ?Zp2 ?Zrb ?Zqx ?Zqb ?ZoX ?Zqg ?ZqG ?Zq8 ?Zpk ?ZqA ?Zt1 ?Ztx ?Zt0 ?Zty ?a_FEWEST_PITS ?a_MOST_PITS ?z_ValueError ?z_all ?z_bool ?z_enumerate ?z_int ?z_isinstance ?z_len ?z_list ?z_min ?z_range ?z_sorted ?z_sum ?z_tuple ?x_tab ?x_exc ?am_SowError ?fm1_SowError ?tm_SowError ?lm_SowError ?cm_SowError ?km_SowError ?am_BadBoard ?fm1_BadBoard ?tm_BadBoard ?lm_BadBoard ?cm_BadBoard ?km_BadBoard ?am_BadPit ?fm1_BadPit ?tm_BadPit ?lm_BadPit ?cm_BadPit ?km_BadPit ?am_NoSeeds ?fm1_NoSeeds ?tm_NoSeeds ?lm_NoSeeds ?cm_NoSeeds ?km_NoSeeds ?am_NoDeed ?fm1_NoDeed ?tm_NoDeed ?lm_NoDeed ?cm_NoDeed ?km_NoDeed ?am_RingBook___init__ ?fm1_RingBook___init__ ?tm_RingBook___init__ ?lm_RingBook___init__ ?cm_RingBook___init__ ?km_RingBook___init__ ?am_RingBook_board ?fm1_RingBook_board ?tm_RingBook_board ?lm_RingBook_board ?cm_RingBook_board ?km_RingBook_board ?am_RingBook_plan ?fm1_RingBook_plan ?tm_RingBook_plan ?lm_RingBook_plan ?cm_RingBook_plan ?km_RingBook_plan ?am_RingBook_came_again ?fm1_RingBook_came_again ?tm_RingBook_came_again ?lm_RingBook_came_again ?cm_RingBook_came_again ?km_RingBook_came_again ?am_RingBook_sown_in_all ?fm1_RingBook_sown_in_all ?tm_RingBook_sown_in_all ?lm_RingBook_sown_in_all ?cm_RingBook_sown_in_all ?km_RingBook_sown_in_all ?am_RingBook_redo ?fm1_RingBook_redo ?tm_RingBook_redo ?lm_RingBook_redo ?cm_RingBook_redo ?km_RingBook_redo ?am_RingBook_enter ?fm1_RingBook_enter ?tm_RingBook_enter ?lm_RingBook_enter ?cm_RingBook_enter ?km_RingBook_enter ?am_RingBook_sow ?fm1_RingBook_sow ?tm_RingBook_sow ?lm_RingBook_sow ?cm_RingBook_sow ?km_RingBook_sow ?am_RingBook_back ?fm1_RingBook_back ?tm_RingBook_back ?lm_RingBook_back ?cm_RingBook_back ?km_RingBook_back ?am_RingBook_undo ?fm1_RingBook_undo ?tm_RingBook_undo ?lm_RingBook_undo ?cm_RingBook_undo ?km_RingBook_undo ?am_RingBook_redo_x ?fm1_RingBook_redo_x ?tm_RingBook_redo_x ?lm_RingBook_redo_x ?cm_RingBook_redo_x ?km_RingBook_redo_x ?am_RingBook_sow_x ?fm1_RingBook_sow_x ?tm_RingBook_sow_x ?lm_RingBook_sow_x ?cm_RingBook_sow_x ?km_RingBook_sow_x ?am_RingBook_back_x ?fm1_RingBook_back_x ?tm_RingBook_back_x ?lm_RingBook_back_x ?cm_RingBook_back_x ?km_RingBook_back_x ?am_RingBook_undo_x ?fm1_RingBook_undo_x ?tm_RingBook_undo_x ?lm_RingBook_undo_x ?cm_RingBook_undo_x ?km_RingBook_undo_x ?o_RingBook
   (case ZrZ=>k_is)
   (case ZrF=>k_is)
   (case Zqs=>k_is)
   (case ZrH=>k_is)
   (case ZpH=>k_is)
   (case Zp7=>k_is)
   (case ZoP=>k_is)
   (case Zp9=>k_is)
   (case Zqw=>k_is)
   (case Zqa=>k_is)
   (case ZoW=>k_is)
   (case Zqf=>k_is)
   (case Zrp=>k_is)
   (case ZqW=>k_is)
   (case Zp0=>k_is)
   (case ZqZ=>k_is)
   (case Zpl=>k_is)
   (case Zpg=>k_is)
   (case Zou=>k_is)
   (case Zph=>k_is)
   (case ZoC=>k_is)
   (case Zo9=>k_is)
   (case ZnU=>k_is)
   (case ZoA=>k_is)
   (case Zqv=>k_is)
   (case ZpZ=>k_is)
   (case ZoV=>k_is)
   (case Zqe=>k_is)
   (case Zrq=>k_is)
   (case ZqX=>k_is)
   (case Zp1=>k_is)
   (case Zra=>k_is)
   (case ZpG=>k_is)
   (case Zp6=>k_is)
   (case ZoD=>k_is)
   (case Zp8=>k_is)
   (case Zqy=>k_is)
   (case Zqc=>k_is)
   (case ZoY=>k_is)
   (case Zqh=>k_is)
   (case Zpw=>k_is)
   (case Zpq=>k_is)
   (case Zo4=>k_is)
   (case Zps=>k_is)
   (case Zs2=>k_is)
   (case Zsq=>k_is)
   (case ZqP=>k_is)
   (case Zsr=>k_is)
   (case ZqF=>k_is)
   (case Zq7=>k_is)
   (case Zpj=>k_is)
   (case Zq9=>k_is)
   (case Zpd=>k_is)
   (case Zpa=>k_is)
   (case Zok=>k_is)
   (case Zpb=>k_is)
   (case ZrY=>k_is)
   (case ZrE=>k_is)
   (case Zqr=>k_is)
   (case ZrG=>k_is)
   (case Ztr=>k_is)
   (case Ztj=>k_is)
   (case Zsn=>k_is)
   (case Ztk=>k_is)
   (case Zpv=>k_is)
   (case Zpp=>k_is)
   (case ZoF=>k_is)
   (case Zpr=>k_is)
   (case Zqu=>k_is)
   (case ZpY=>k_is)
   (case ZoM=>k_is)
   (case Zqd=>k_is)
   (case Zrr=>k_is)
   (case ZqY=>k_is)
   (case Zp2=>k_is)
   (case Zrb=>k_is)
   (case Zqx=>k_is)
   (case Zqb=>k_is)
   (case ZoX=>k_is)
   (case Zqg=>k_is)
   (case ZqG=>k_is)
   (case Zq8=>k_is)
   (case Zpk=>k_is)
   (case ZqA=>k_is)
   (case Zt1=>k_is)
   (case Ztx=>k_is)
   (case Zt0=>k_is)
   (case Zty=>k_is)
   (case a_FEWEST_PITS=>k_is)
   (case a_MOST_PITS=>k_is)
   (case z_ValueError=>k_is)
   (case z_all=>k_is)
   (case z_bool=>k_is)
   (case z_enumerate=>k_is)
   (case z_int=>k_is)
   (case z_isinstance=>k_is)
   (case z_len=>k_is)
   (case z_list=>k_is)
   (case z_min=>k_is)
   (case z_range=>k_is)
   (case z_sorted=>k_is)
   (case z_sum=>k_is)
   (case z_tuple=>k_is)
   (case x_tab=>kernel_rfl)
   (case x_exc=>kernel_rfl)
   (case am_SowError=>k_is)
   (case fm1_SowError=>k_is)
   (case tm_SowError=>k_is)
   (case lm_SowError=>k_is)
   (case cm_SowError=>k_is)
   (case km_SowError=>k_is)
   (case am_BadBoard=>k_is)
   (case fm1_BadBoard=>k_is)
   (case tm_BadBoard=>k_is)
   (case lm_BadBoard=>k_is)
   (case cm_BadBoard=>k_is)
   (case km_BadBoard=>k_is)
   (case am_BadPit=>k_is)
   (case fm1_BadPit=>k_is)
   (case tm_BadPit=>k_is)
   (case lm_BadPit=>k_is)
   (case cm_BadPit=>k_is)
   (case km_BadPit=>k_is)
   (case am_NoSeeds=>k_is)
   (case fm1_NoSeeds=>k_is)
   (case tm_NoSeeds=>k_is)
   (case lm_NoSeeds=>k_is)
   (case cm_NoSeeds=>k_is)
   (case km_NoSeeds=>k_is)
   (case am_NoDeed=>k_is)
   (case fm1_NoDeed=>k_is)
   (case tm_NoDeed=>k_is)
   (case lm_NoDeed=>k_is)
   (case cm_NoDeed=>k_is)
   (case km_NoDeed=>k_is)
   (case am_RingBook___init__=>k_is)
   (case fm1_RingBook___init__=>k_is)
   (case tm_RingBook___init__=>k_is)
   (case lm_RingBook___init__=>k_is)
   (case cm_RingBook___init__=>k_is)
   (case km_RingBook___init__=>k_is)
   (case am_RingBook_board=>k_is)
   (case fm1_RingBook_board=>k_is)
   (case tm_RingBook_board=>k_is)
   (case lm_RingBook_board=>k_is)
   (case cm_RingBook_board=>k_is)
   (case km_RingBook_board=>k_is)
   (case am_RingBook_plan=>k_is)
   (case fm1_RingBook_plan=>k_is)
   (case tm_RingBook_plan=>k_is)
   (case lm_RingBook_plan=>k_is)
   (case cm_RingBook_plan=>k_is)
   (case km_RingBook_plan=>k_is)
   (case am_RingBook_came_again=>k_is)
   (case fm1_RingBook_came_again=>k_is)
   (case tm_RingBook_came_again=>k_is)
   (case lm_RingBook_came_again=>k_is)
   (case cm_RingBook_came_again=>k_is)
   (case km_RingBook_came_again=>k_is)
   (case am_RingBook_sown_in_all=>k_is)
   (case fm1_RingBook_sown_in_all=>k_is)
   (case tm_RingBook_sown_in_all=>k_is)
   (case lm_RingBook_sown_in_all=>k_is)
   (case cm_RingBook_sown_in_all=>k_is)
   (case km_RingBook_sown_in_all=>k_is)
   (case am_RingBook_redo=>k_is)
   (case fm1_RingBook_redo=>k_is)
   (case tm_RingBook_redo=>k_is)
   (case lm_RingBook_redo=>k_is)
   (case cm_RingBook_redo=>k_is)
   (case km_RingBook_redo=>k_is)
   (case am_RingBook_enter=>k_is)
   (case fm1_RingBook_enter=>k_is)
   (case tm_RingBook_enter=>k_is)
   (case lm_RingBook_enter=>k_is)
   (case cm_RingBook_enter=>k_is)
   (case km_RingBook_enter=>k_is)
   (case am_RingBook_sow=>k_is)
   (case fm1_RingBook_sow=>k_is)
   (case tm_RingBook_sow=>k_is)
   (case lm_RingBook_sow=>k_is)
   (case cm_RingBook_sow=>k_is)
   (case km_RingBook_sow=>k_is)
   (case am_RingBook_back=>k_is)
   (case fm1_RingBook_back=>k_is)
   (case tm_RingBook_back=>k_is)
   (case lm_RingBook_back=>k_is)
   (case cm_RingBook_back=>k_is)
   (case km_RingBook_back=>k_is)
   (case am_RingBook_undo=>k_is)
   (case fm1_RingBook_undo=>k_is)
   (case tm_RingBook_undo=>k_is)
   (case lm_RingBook_undo=>k_is)
   (case cm_RingBook_undo=>k_is)
   (case km_RingBook_undo=>k_is)
   (case am_RingBook_redo_x=>k_is)
   (case fm1_RingBook_redo_x=>k_is)
   (case tm_RingBook_redo_x=>k_is)
   (case lm_RingBook_redo_x=>k_is)
   (case cm_RingBook_redo_x=>k_is)
   (case km_RingBook_redo_x=>k_is)
   (case am_RingBook_sow_x=>k_is)
   (case fm1_RingBook_sow_x=>k_is)
   (case tm_RingBook_sow_x=>k_is)
   (case lm_RingBook_sow_x=>k_is)
   (case cm_RingBook_sow_x=>k_is)
   (case km_RingBook_sow_x=>k_is)
   (case am_RingBook_back_x=>k_is)
   (case fm1_RingBook_back_x=>k_is)
   (case tm_RingBook_back_x=>k_is)
   (case lm_RingBook_back_x=>k_is)
   (case cm_RingBook_back_x=>k_is)
   (case km_RingBook_back_x=>k_is)
   (case am_RingBook_undo_x=>k_is)
   (case fm1_RingBook_undo_x=>k_is)
   (case tm_RingBook_undo_x=>k_is)
   (case lm_RingBook_undo_x=>k_is)
   (case cm_RingBook_undo_x=>k_is)
   (case km_RingBook_undo_x=>k_is)
   (case o_RingBook=>kernel_rfl)
  exact My.ZkC T hmg
 case S=>exact fun K H a ns hl hO hS=>My.ZfE hl hO hS
 case C=>exact fun _ _ _ _ z=>z
